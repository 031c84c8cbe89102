import PyProof.Rows.All
import KE.KFromBytes
import KE.KTab
import KE.KIsAll
import KE.KDictOf
import KE.KEqDeep
import KE.KItem
import KE.KUnpackStar
import Wide.FinOn
import Wide.Line
import KE.KSortTup
import PyProof.AttrMissSeq
import PySem.Challenge.RW_lanepacks_k07_whole_orders_kept
set_option Elab.async false
set_option linter.all false
set_option maxRecDepth 100000
set_option maxHeartbeats 4000000
set_option bootstrap.genMatcherCode false
set_option compiler.extract_closed false
open PySem renaming Value->Te,Addr->Tf,wpAny->Tg,model->Th,Str->Ti,Expr->Tj,assignEach->Tk,World->Tl,mainGlobals->Tn,foldedSetIterable->To,Heap->Tp,Obj->Tq,Scope->Tr,cellsFrom->Ts,Stmt->Tt,NameKind->Tu,assignInOrder->Tv,Sem->Tw,Tok->Tx
open Option renaming bind_eq_some_iff->Aa,map_eq_some_iff->Ar,bind_some->Aw,isSome_some->Nw,getD_none->Pn,map_some->Qz
open PySem renaming wpAny_bind->Ac,Shared->Ah,starEach->Aj,wpAny_pure->An,wpAny_mono->Az,bootBuiltins->Bo,Program->Br,mem_of_lookup->By,wpAny_holding->Cn,wpAny_newObj_type->Dd,Around->Df,sizeLine_eq->Di,compareOp->Dk,wpAny_callSpecial?_slot->Du,wpAny_standAt->Ea,wpAny_truthy_bool->Ef,wpAny_field->Em,wpAny_call_entry->Ep,wpAny_seqItems->Fg,letOwnedTupleGo->Fi,FuncData->Fk,sysModules->Fn,swapsWithSole->Fp,swappedStores->Fq,wpAny_Call_Name_kw->Fs,wpAny_setField_rec->Ft,backTo->Fx,wpAny_passesOwn->Fz,binaryOp->Gj,swapsWith->Gm,codeAny->Gp,wpAny_assign_Name->Gx,wpAny_rule->Gy,wpAny_pyIter_list->Gz,wpAny_comprehension_free->Hn,wpAny_pyIter_tuple->Hq,behindInMarks->Hs,attributeBase->Hv,tupleKind_room_in1->Hw,sliceBounds->Ii,wpAny_bindName->Iq,wpAny_updateSeq_pair->Iz,bindName->Ja,unpackItems->Jk,keywordEach->Jm,Keyword->Jn,pushCells_keeps->Js,codeAny_mono->Kg,wpAny_typeOf->Ki,newFunctionEnv->Km,Spec->Ko,wpAny_sequenceKey->Kt,pushCells->Ky,getItem->Lc,wpAny_onRaise->Li,wpAny_eqBool_int->Lm,noFill_tuple_add->Lo,wpAny_pyNext_list_item->Ls,codeAny_compStart_list->Lw,DictEntry->Ly,importedModules->Lz,standAt->Mb,holding->Mc,wpAny_execs_nil->Md,wpAny_pyNext_list_end->Me,concat_meets->Mg,call_meetsIn->Mi,theTreesLotGoes->Mk,exec_Assign_Name_used->Mo,ZipApart->Mr,PyData->Mz,callerA->Nd,Builtin->Nk,bltViewBooted->Nq,seq_tuple_add->Nu,backToKw->Nv,wpAny_attempt->Oa,name_of_addr->Ob,getattributeRaised->Of,call_meets->Om,valueAt->Oo,wpAny_Call_method->Op,wpAny_pyIter_enum->Ot,seqIndex_neg->Pd,codeAny_loop->Pf,compTurn->Pz,compEnvC->Qa,Params->Qc,PassesOwn->Qg,pyIter->Qh,lastMarks->Qi,Result->Qj,BindsTo->Qk,seqIndex_of->Ql,noteFrame->Qn,wpAny_noted->Qo,wpAny_letGo->Qr,wpAny_Name->Rs,call->Rt,newList->Ry,Within->Sc,stored->Sf,again->Sz
open List renaming getElem?_eq_some_iff->Ad,getElem?_append_left->Af,mem_cons->Ai,mem_cons_of_mem->Ao,mem_cons_self->Ap,size_toArray->At,range->Au,mem_append_right->Av,not_mem_nil->Ax,mem_singleton->Bb,mem_map->Be,getElem?_eq_getElem->Bf,map_cons->Bg,append_assoc->Bh,replicate->Bi,getElem?_append_right->Bj,getElem?_eq_none->Bq,length_take->Bt,length_cons->Bu,mem_of_getElem?->Bv,length_set->Bz,getElem?_set_ne->Ca,getElem?_map->Cb,getElem?_take_of_lt->Cc,length_map->Cd,length_append->Cf,mem_append_left->Cg,take_of_length_le->Co,mem_append->Cp,drop_eq_getElem_cons->Cq,mem_range->Cr,lookup_cons->Cs,take_append_of_le_length->Ct,append_nil->Cv,nodup_cons->Cw,getElem?_replicate->Db,nil_append->Dc,getElem?_set_self->Dh,map_congr_left->Dq,take_append_drop->Dr,drop_length->Ds,map_nil->Dw,lookup_cons_self->Eh,perm_append_comm->Ei,set_comm->Ek,pairwise_append->Eo,cons_append->Er,length_singleton->Ex,mem_iff_getElem?->Ez,map_map->Fa,set_append_right->Fb,pairwise_cons->Fd,length_eq_zero_iff->Ff,mem_filter->Fy,pairwise_lt_range'->Gf,find?_cons->Gq,length_nil->Gr,map_append->Gs,length_range->Ha,pairwise_iff_getElem->Hf,mem_or_eq_of_mem_set->Hg,getElem_mem->Hh,range'->Hj,getElem?_range->Hk,range_succ_eq_map->Ic,pairwise_map->Io,length_replicate->Ir,all_eq_true->Ix,any_cons->Jb,filterMap_cons->Jj,forIn_cons->Jo,getElem_of_mem->Jw,idxOf_lt_length_of_mem->Jx,perm_ext_iff_of_nodup->Kf,getElem?_take->Kj,append_of_mem->Kk,ext_getElem?->Kv,zip_nil_left->Kw,mem_range'_1->Kz,pairwise_singleton->Lj,getElem_inj->Ln,take_length->Lq,range'_succ->Lr,of_mem_zip->Mf,zip_append->Mm,pairwise_flatMap->Mq,getElem?_mapIdx->Mt,drop_zero->Na,forIn_nil->Nb,lookup->Nf,take_succ_cons->Ng,map_id->Nh,filter_eq_self->Np,mem_filterMap->Nt,getElem_idxOf->Og,nodup_append->Ow,flatMap_cons->Pc,map_set->Pj,length_drop->Pl,isEmpty_iff->Po,zipIdx_cons->Pp,reverse_nil->Pt,countP_cons->Pw,mem_flatMap->Px,zipIdx_nil->Qq,filter_map->Ra,mapM_cons->Rg,take_succ->Rh,drop_take->Ri,take_zero->Rj,drop_drop->Rk,take_take->Rl,take_left->Rm,all_cons->Rz,all_map->Sh
open PySem.Heap renaming get?_push_of_some->Ae,lt_size->Aq,get?_push_size->Ay,size_push->De,SameBut->Fo,get?_push_ne->Ij,ExtBut->Jp,get?_update_other->Lv,get?_update_self->Mh,get?_update_ne->No
open Bool renaming and_eq_true->Ag,false_ne_true->Dj,and_eq_true_iff->Dv,false_eq_true->Dx,or_eq_true->Hy,true_and->Ll,beq_eq_decide_eq->Mp,or_eq_false_iff->Mw,false_or->Nx,not_true->Oh,or_true->Sj,or_comm->Sk
open Nat renaming le_refl->Ak,lt_of_lt_of_le->Ba,ne_of_lt->Bk,le_trans->Ce,lt_irrefl->Cm,zero_le->Cy,le_of_lt->Dg,le_of_not_lt->Eb,le_of_succ_le->Ew,zero_add->Gd,le_succ->Ge,ne_of_gt->Go,lt_of_succ_lt->Im,add_assoc->Jg,le_antisymm->Ju,min_eq_left->Jv,le_of_lt_succ->La,min_le_left->Mn,lt_of_le_of_lt->Ny,lt_succ_of_lt->Pa,lt_trans->Pe,add_comm->Pg,add_zero->Ph,succ_le_succ->Pr,not_le_of_lt->Ps,not_lt_zero->Qs
open PySem.Str renaming ofString->Am,ofString_eq_toList->Ie
open PySem.W renaming Frag->As,mg_none_of->Dy,kia_one->Ga,mg_of->Hi,keepIn->Ht,kas_item->Jf,fnOf->Jl,codeIn->Kh,nsIn->Lp,kitx_list->Nc,kas_rev->Ox,cellsFrom_some->Pk,methodObj->Qf,kasC_bind->Qt,kasC_modify->Qu,kasC_cons->Qv,kas_item_eq->Qx,looseW->Rn,instObj->Sb,OpenLaw->Sg
open PySem.F renaming slot_list_append->Bm,type_list_append->Bn,slot_dict_get->Eg,entry_dict_get->Fl,slot_tuple_iterator_next->Fm,args_tuple_add_2->Hl,entry_tuple_add->Hu,args_dict_get_2->Hx,slot_tuple_add->Ib,args_tuple_iterator_next_1->Jd,entry_tuple_iterator_next->Jq,slot_zip_next->Jr,slot_dict_getitem->Kl,args_dict_get_3->Ld,plainAttrs_dict->Le,plainAttrs_list->Lg,type_dict_get->Mj,args_zip_next_1->Ov,entry_zip_next->Pq
open PySem.NameKind renaming free->Bp,cell->Cj
open Option.some renaming inj->Bw,injEq->Lb
open PySem.Value renaming ref->Bx,type->Kp,int->Qd,str->Qe,bool->Rr,isStrOf->Rv,isInt->Sr,float->Su
open PySem.PyData renaming keyHash->Ci,depthAll->Fj,canLay0->Gg,canLayAll0->Ik,depth->Iu,eqv->Jh,int->Oq,strOk->Si
open PySem.Builtin.SmallTypes renaming nextOf->Ck,ownedTupleIsFree->Ed,ownedTupleHandOut->He
open ForInStep renaming yield->Cu
open Prod renaming fst->Cz,snd->Ec,ext->Ta
open Ne renaming symm->Dn
open Int renaming toNat_natCast->Dt,emod_lt_of_pos->Fe,emod_nonneg->Ia,ediv_nonneg->Qy,toNat->Rb
open PySem.PassesOwn renaming never->Dz
open Array renaming toList_append->Ee,length_toList->Et,toList_push->Fh,getD->Gc,getD_eq_getD_getElem?->Gv,toList_reverse->Hc,toList_inj->Iy,perm_iff_toList_perm->Ke,eraseIdxIfInBounds->Kx,append_empty->Od,append_push->Oy,toList->Se
open PyProof.Rows renaming assignInOrder_cons->Ej,callWith_type1->El,SortSt->Es,slot_tuple_getitem->Eu,seqObj->Ho,assignInOrder_nil->Ig,envOfC->Ks,subscriptTail_builtinR->Lu,AllBare->Ma,listUpdate_at->Oe,unpackItems_tuple->Ol,pairsOf->Oz,SortKind->Qb,seqEpoch_at->Qw,expectedOf->Ro,plainGoodE->Rp,plainGoodD->Rq,drecsOf->Ru,tail_any->Rw,IntsAre->Rx
open PySem.SeqAt renaming shaped->Ey
open PySem.Obj renaming mapSeq->Fc,data_mapFields->Nz
open List.Perm renaming append_left->Fu,append_right->Gi,trans->Jt
open PySem.Builtin.Slice renaming slicePlaces->Fv,sliceAdjust->Hd,sliceApplied->Kb,slicePartIndex->Py,sliceFields->Rf
open PyProof.Rows.KTD renaming datumAt->Fw
open PySem.Builtin.Tuple renaming tupleExact->Gb,tupleItemsOf->Kc,tupleIsExact->Rc
open PySem.Calls renaming callWith_builtin->Gh,spliced_cons->Gk,evalArgs_plain->Hb,spliced_nil->Ih,Name_function_global->Ka
open Pure renaming pure->Gu
open False renaming elim->Gw
open PySem.AutoSeq1 renaming wpAny_loadPart'->Hm
open PySem.Builtin.Range renaming rangeSize->Hr,small->Sx
open List.cons renaming injEq->Hz
open PyProof.Rows.SortSt renaming mk'->Il
open List.Pairwise renaming map->Ip,nil->Ku,filter->Mv
open Function renaming comp->Je
open Prod.mk renaming inj->Ji,injEq->Sa
open PySem.Challenge renaming pw_lanepacks_k07_whole_orders_kept->Jy,rw_lanepacks_k07_whole_orders_kept->Jz
open Classical renaming byContradiction->Kn,choose_spec->Ml
open PyProof.Rows.IsTup renaming new->Kr
open PySem.Builtin.Dict renaming updateFrom->Lk,pairItems->Lx,missed->Nl
open PySem.Around renaming under_plainId->Mu
open Or renaming inl->Mx,inr->My
open PySem.Heap.SameBut renaming update->Nj
open PySem.Paired renaming length->Nr,snoc->Sw
open Sum renaming inl->Oi,inr->Oj
open Char renaming toNat->Pb
open PySem.Heap.DictOf renaming new->Qm
open PySem.Shared renaming heap->Qp
open PySem.MeetsSeq.EqGives renaming int->Sq
open PySem.IsRange renaming new->Sv
open PySem.Heap.Ns renaming new->Sy
open PySem.Heap.IsSliceOf renaming new->Tb
open PySem.W.WShape renaming has->Tc
noncomputable section
namespace RR
open PySem
def top(i:Nat):Tt:=PySem.Challenge.pw_lanepacks_k07_whole_orders_kept.main.body.getD i (.Pass ⟨0,0,0,0⟩)
end RR
namespace KK
open PySem PySem.W PySem.Calls PyProof.Rows
def dA(s:Tt):Arguments:=match s with
 |.FunctionDef _ a _ _ _ _ _ _ _ _=>a
 |_=>⟨[],[],none,[],[],none,[]⟩
def dB(s:Tt):List Tt:=match s with
 |.FunctionDef _ _ b _ _ _ _ _ _ _=>b
 |_=>[]
def dS(s:Tt):Tr:=match s with
 |.FunctionDef _ _ _ _ _ _ c _ _ _=>c
 |_=>{kind:=.function,names:=[],isGenerator:=false,isCoroutine:=false}
abbrev s(x:Ti)(t:Nat):Te:=.str x t
abbrev e(P:Qc)(x:Ti)(t:Nat)(v:Te):Ly:=⟨PyData.keyHash P x,s x t,v⟩
abbrev f(a i:Nat)(n:Ti)(d m:Te):Nat×Tq:=(a,⟨.type "function",none,.func (fnOf n n (dA (RR.top i)) (dB (RR.top i)) (dS (RR.top i)) d .none .none m none (.ref (a - 1)) .none),#[]⟩)
abbrev fk(a i:Nat)(n:Ti)(d k m:Te):Nat×Tq:=(a,⟨.type "function",none,.func (fnOf n n (dA (RR.top i)) (dB (RR.top i)) (dS (RR.top i)) d k .none m none (.ref (a - 1)) .none),#[]⟩)
abbrev co(a:Nat)(n:Ti)(t:Nat)(l k:Int)(u:Nat)(x y z v:Te):Nat×Tq:=(a,⟨.type "code",none,.fields #[s n t,s n (t+1),s "/claim/cut.py" (t+2),.int l 0,.int k 0,.int 0 0,.int 0 0,.int 3 0,x,.bool true,.int 181 0,y,.none,z,v,.ref (a - 1),.int u 0,.int l 0,s "/claim/cut.py" (u+1)],#[]⟩)
abbrev c(a:Nat)(n:Ti)(t:Nat)(l k:Int)(u:Nat):Nat×Tq:=co a n t l k u (.ref (a - 5)) (.ref (a - 4)) (.ref (a - 3)) (.ref (a - 2))
abbrev b(a:Nat)(n:Ti)(t:Nat)(l k:Int)(u:Nat):Nat×Tq:=co a n t l k u (.ref (a - 3)) (.ref (a - 2)) .none .none
abbrev m:Te:=s "law_lanepacks_k07_whole_orders_kept" 581
noncomputable def K(P:Qc):Frag:=[(3,⟨.type "dict",none,.dict #[e P "__name__" 165 (s "law_lanepacks_k07_whole_orders_kept" 581),e P "__doc__" 166 (.none),e P "__package__" 167 (.none),e P "__loader__" 168 (.builtin "__main__.__loader__#opaque"),e P "__spec__" 169 (.none),e P "__annotations__" 170 (.ref 6),e P "__builtins__" 171 (.ref 4),e P "__file__" 173 (s "/claim/cut.py" 172),e P "__cached__" 174 (.none),e P "PackError" 206 (.ref 24),e P "NoBlock" 222 (.ref 37),e P "NoCells" 238 (.ref 49),e P "MOST_WORD" 242 (.int 999 241),e P "DEEDS" 250 (.ref 52),e P "is_whole" 259 (.ref 59),e P "plus" 267 (.ref 66),e P "minus" 275 (.ref 73),e P "times" 283 (.ref 80),e P "least" 291 (.ref 87),e P "most" 299 (.ref 94),e P "less" 307 (.ref 101),e P "over" 315 (.ref 108),e P "pick" 324 (.ref 115),e P "MADE" 339 (.ref 116),e P "done" 348 (.ref 123),e P "MOST_SURE" 352 (.int 64 351),e P "MOST_ROWS" 354 (.int 40 353),e P "MOST_PLACE" 356 (.int 63 355),e P "DEED_PARTS" 359 (.ref 124),e P "OTHER_PARTS" 385 (.ref 125),e P "READERS" 388 (.ref 132),e P "WRITERS" 391 (.ref 133),e P "parts_of" 398 (.ref 140),e P "makes_word" 405 (.ref 147),e P "place_of" 412 (.ref 154),e P "names_of" 418 (.ref 159),e P "may_name" 426 (.ref 166),e P "fits" 435 (.ref 173),e P "is_row" 441 (.ref 178),e P "is_block" 452 (.ref 185),e P "writes" 461 (.ref 192),e P "is_safe_number" 468 (.ref 199),e P "can_fault" 480 (.ref 206),e P "share_written_cell" 488 (.ref 213),e P "must_stay" 500 (.ref 220),e P "must_pairs" 506 (.ref 225),e P "must" 513 (.ref 232),e P "MOST_CELLS" 517 (.int 64 516),e P "is_cells" 523 (.ref 237),e P "touches" 531 (.ref 244),e P "do_on_cell" 541 (.ref 251),e P "do_row" 555 (.ref 259),e P "do_rows" 561 (.ref 264),e P "check_run" 569 (.ref 271),e P "run" 580 (.ref 278),e P "_law_cell_at" 592 (.ref 285),e P "_law_mixed" 602 (.ref 292),e P "_law_draw" 611 (.ref 299),e P "_law_pick" 620 (.ref 306),e P "_law_place" 631 (.ref 313),e P "_law_row" 637 (.ref 318),e P "_law_rows" 651 (.ref 325),e P "_law_next" 668 (.ref 332),e P "_law_block" 674 (.ref 337),e P "_law_cells" 680 (.ref 342),e P "_law_names" 687 (.ref 349),e P "_law_may" 693 (.ref 354),e P "_law_must" 699 (.ref 359),e P "_law_mixed_order" 705 (.ref 364),e P "_law_renamed" 711 (.ref 369),e P "law" 717 (.ref 374)] 71,#[]⟩),(52,⟨.type "tuple",none,.seq #[s "plus" 243,s "minus" 244,s "times" 245,s "least" 246,s "most" 247,s "less" 248,s "over" 249] 0,#[]⟩),f 59 7 "is_whole" (.none) (s "lanepacks.words" 239),c 58 "is_whole" 251 11 3 257,f 66 8 "plus" (.none) (s "lanepacks.words" 239),c 65 "plus" 260 15 2 265,f 73 9 "minus" (.none) (s "lanepacks.words" 239),c 72 "minus" 268 17 2 273,f 80 10 "times" (.none) (s "lanepacks.words" 239),c 79 "times" 276 19 2 281,f 87 11 "least" (.none) (s "lanepacks.words" 239),c 86 "least" 284 21 2 289,f 94 12 "most" (.none) (s "lanepacks.words" 239),c 93 "most" 292 23 2 297,f 101 13 "less" (.none) (s "lanepacks.words" 239),c 100 "less" 300 25 2 305,f 108 14 "over" (.none) (s "lanepacks.words" 239),c 107 "over" 308 27 2 313,f 115 15 "pick" (.none) (s "lanepacks.words" 239),c 114 "pick" 316 29 3 322,(116,⟨.type "dict",none,.dict #[e P "plus" 325 (.ref 66),e P "minus" 326 (.ref 73),e P "times" 327 (.ref 80),e P "least" 328 (.ref 87),e P "most" 329 (.ref 94),e P "less" 330 (.ref 101),e P "over" 331 (.ref 108)] 7,#[]⟩),f 123 17 "done" (.none) (s "lanepacks.words" 239),c 122 "done" 340 32 2 346,(124,⟨.type "tuple",none,.seq #[s "row" 357,s "row" 358] 0,#[]⟩),(125,⟨.type "dict",none,.dict #[e P "number" 360 (.ref 126),e P "pick" 362 (.ref 127),e P "load" 366 (.ref 128),e P "take" 368 (.ref 129),e P "store" 372 (.ref 130),e P "put" 375 (.ref 131)] 6,#[]⟩),(126,⟨.type "tuple",none,.seq #[s "word" 361] 0,#[]⟩),(127,⟨.type "tuple",none,.seq #[s "row" 363,s "row" 364,s "row" 365] 0,#[]⟩),(128,⟨.type "tuple",none,.seq #[s "place" 367] 0,#[]⟩),(129,⟨.type "tuple",none,.seq #[s "place" 369,s "row" 370,s "row" 371] 0,#[]⟩),(130,⟨.type "tuple",none,.seq #[s "place" 373,s "row" 374] 0,#[]⟩),(131,⟨.type "tuple",none,.seq #[s "place" 376,s "row" 377,s "row" 378] 0,#[]⟩),(132,⟨.type "tuple",none,.seq #[s "load" 386,s "take" 387] 0,#[]⟩),(133,⟨.type "tuple",none,.seq #[s "store" 389,s "put" 390] 0,#[]⟩),f 140 26 "parts_of" (.none) (s "lanepacks.blocks" 349),c 139 "parts_of" 392 45 1 396,f 147 27 "makes_word" (.none) (s "lanepacks.blocks" 349),c 146 "makes_word" 399 49 1 403,f 154 28 "place_of" (.none) (s "lanepacks.blocks" 349),c 153 "place_of" 406 51 1 410,f 159 29 "names_of" (.none) (s "lanepacks.blocks" 349),b 158 "names_of" 413 53 1 416,f 166 30 "may_name" (.none) (s "lanepacks.blocks" 349),c 165 "may_name" 419 56 2 424,f 173 31 "fits" (.none) (s "lanepacks.blocks" 349),c 172 "fits" 427 58 3 433,f 178 32 "is_row" (.none) (s "lanepacks.blocks" 349),b 177 "is_row" 436 64 2 439,f 185 33 "is_block" (.none) (s "lanepacks.blocks" 349),c 184 "is_block" 442 72 1 450,f 192 35 "writes" (.none) (s "lanepacks.orders" 453),c 191 "writes" 455 87 1 459,f 199 36 "is_safe_number" (.none) (s "lanepacks.orders" 453),c 198 "is_safe_number" 462 89 1 466,f 206 37 "can_fault" (.none) (s "lanepacks.orders" 453),c 205 "can_fault" 469 91 2 478,f 213 38 "share_written_cell" (.none) (s "lanepacks.orders" 453),c 212 "share_written_cell" 481 98 2 486,f 220 39 "must_stay" (.none) (s "lanepacks.orders" 453),c 219 "must_stay" 489 100 3 498,f 225 40 "must_pairs" (.none) (s "lanepacks.orders" 453),b 224 "must_pairs" 501 108 1 504,f 232 41 "must" (.none) (s "lanepacks.orders" 453),c 231 "must" 507 112 1 511,f 237 44 "is_cells" (.none) (s "lanepacks.running" 514),b 236 "is_cells" 518 118 2 521,f 244 45 "touches" (.none) (s "lanepacks.running" 514),c 243 "touches" 524 122 2 529,f 251 46 "do_on_cell" (.none) (s "lanepacks.running" 514),c 250 "do_on_cell" 532 128 4 539,(252,⟨.type "tuple",none,.seq #[.int 0 542] 0,#[]⟩),f 259 47 "do_row" (.ref 252) (s "lanepacks.running" 514),c 258 "do_row" 543 137 4 553,f 264 48 "do_rows" (.none) (s "lanepacks.running" 514),b 263 "do_rows" 556 146 2 559,f 271 49 "check_run" (.none) (s "lanepacks.running" 514),c 270 "check_run" 562 154 2 567,f 278 50 "run" (.none) (s "lanepacks.running" 514),c 277 "run" 570 159 2 578,f 285 52 "_law_cell_at" (.none) m,c 284 "_law_cell_at" 583 165 2 590,f 292 53 "_law_mixed" (.none) m,c 291 "_law_mixed" 593 174 3 600,f 299 54 "_law_draw" (.none) m,c 298 "_law_draw" 603 177 3 609,f 306 55 "_law_pick" (.none) m,c 305 "_law_pick" 612 180 3 618,f 313 56 "_law_place" (.none) m,c 312 "_law_place" 621 182 5 629,f 318 57 "_law_row" (.none) m,b 317 "_law_row" 632 185 5 635,f 325 58 "_law_rows" (.none) m,c 324 "_law_rows" 638 203 4 649,f 332 59 "_law_next" (.none) m,c 331 "_law_next" 652 215 6 666,f 337 60 "_law_block" (.none) m,b 336 "_law_block" 669 226 3 672,f 342 61 "_law_cells" (.none) m,b 341 "_law_cells" 675 235 3 678,f 349 62 "_law_names" (.none) m,c 348 "_law_names" 681 239 1 685,f 354 63 "_law_may" (.none) m,b 353 "_law_may" 688 243 2 691,f 359 64 "_law_must" (.none) m,b 358 "_law_must" 694 248 1 697,f 364 65 "_law_mixed_order" (.none) m,b 363 "_law_mixed_order" 700 260 3 703,f 369 66 "_law_renamed" (.none) m,b 368 "_law_renamed" 706 267 2 709,f 374 67 "law" (.none) m,b 373 "law" 712 272 1 715]
noncomputable def A:List Nat:=[3,52,59,58,66,65,73,72,80,79,87,86,94,93,101,100,108,107,115,114,116,123,122,124,125,126,127,128,129,130,131,132,133,140,139,147,146,154,153,159,158,166,165,173,172,178,177,185,184,192,191,199,198,206,205,213,212,220,219,225,224,232,231,237,236,244,243,251,250,252,259,258,264,263,271,270,278,277,285,284,292,291,299,298,306,305,313,312,318,317,325,324,332,331,337,336,342,341,349,348,354,353,359,358,364,363,369,368,374,373]
noncomputable def view:Br:={Jy with main:={PySem.Challenge.pw_lanepacks_k07_whole_orders_kept.main with body:=[1,2,3,5,6,7,8,9,10,11,12,13,14,15,16,17,19,20,21,22,23,24,25,26,27,28,29,30,31,32,33,35,36,37,38,39,40,41,43,44,45,46,48,49,50,52,53,54,55,56,57,58,59,60,61,62,63,64,65,66,67].map RR.top}}
abbrev lo:List Ti:=["MADE","OTHER_PARTS","do_row"]
theorem kA(P:Qc):A=(K P).map (·.1):=by kernel_rfl
noncomputable def X(s:Ah):Bool:=xlAt view [] s&&recOk (RowW.records (OpenRow.toRowW PySem.Challenge.rw_lanepacks_k07_whole_orders_kept.row)) s
noncomputable abbrev H:Hook:=kHook K A kA
abbrev pr:Br:=PySem.Challenge.rw_lanepacks_k07_whole_orders_kept.row.prog
noncomputable abbrev go(w:Tl)(b:Bool):Option Ah:=openEnds treeTable pr (w.withFollow "special-get-raises" b) 5000
noncomputable abbrev fA(s:Ah):=seen ((recsOf view).map (·.name)) (ownsOf view) [] {s with gens:= #[]}
noncomputable abbrev fB(s:Ah):=(s.heap.bltView,tabsOk view s)
noncomputable abbrev fC(s:Ah):Bool:=s.heap.keysOk (Rn view lo) ((recsOf view).map (·.name)) ((litsOf view).map (·.1)) ((clssOf view (Rn view lo)).map (·.name))&&s.heap.accountedOkI (Lz pr.main.body)&&s.heap.isNs Tn&&s.heap.isNs builtinsNs&&tablesOk view s.heap&&X s&&(if true then s.gens.size==0 else !leftWithCleanup s.gens)
noncomputable abbrev fD(s:Ah):=(pinSeenD view (Ru view) s,plainSeenE view (Rn view lo) s,plainSeenD view lo s,wideSeen view s,clsSeenW view lo s,H.obs s)
set_option maxRecDepth 100000 in
set_option maxHeartbeats 0 in
theorem rAf(w:Tl):(go w false).map fA=some (Ro view):=by kernel_rfl
set_option maxRecDepth 100000 in
set_option maxHeartbeats 0 in
theorem rBf(w:Tl):(go w false).map fB=some ((Nq,true)):=by kernel_rfl
set_option maxRecDepth 100000 in
set_option maxHeartbeats 0 in
theorem rCf(w:Tl):(go w false).map fC=some (true):=by kernel_rfl
set_option maxRecDepth 100000 in
set_option maxHeartbeats 0 in
theorem rDf(w:Tl):(go w false).map fD=some ((pinGoodD (Ru view),Rp view (Rn view lo),Rq view lo,wideGood view,clsGoodW view lo,H.val (w.withFollow "special-get-raises" false))):=by kernel_rfl
set_option maxRecDepth 100000 in
set_option maxHeartbeats 0 in
theorem rAt(w:Tl):(go w true).map fA=some (Ro view):=by kernel_rfl
set_option maxRecDepth 100000 in
set_option maxHeartbeats 0 in
theorem rBt(w:Tl):(go w true).map fB=some ((Nq,true)):=by kernel_rfl
set_option maxRecDepth 100000 in
set_option maxHeartbeats 0 in
theorem rCt(w:Tl):(go w true).map fC=some (true):=by kernel_rfl
set_option maxRecDepth 100000 in
set_option maxHeartbeats 0 in
theorem rDt(w:Tl):(go w true).map fD=some ((pinGoodD (Ru view),Rp view (Rn view lo),Rq view lo,wideGood view,clsGoodW view lo,H.val (w.withFollow "special-get-raises" true))):=by kernel_rfl
theorem jn{o:Option Ah}{v:H.α}(b:o.map fA=some (Ro view))(hb:o.map fB=some (Nq,true))(hc:o.map fC=some true)(c:o.map fD=some (pinGoodD (Ru view),Rp view (Rn view lo),Rq view lo,wideGood view,clsGoodW view lo,v)):o.map (λs=>(openSeen view lo (Lz pr.main.body) X true s,H.obs s))=some (openGood view lo,v):=by
 cases o with
 |none=>cases b
 |some s=>
  have f:fA s=_:=Bw b;have e:fB s=_:=Bw hb;have d:fC s=_:=Bw hc;have a:fD s=_:=Bw c;obtain⟨n,m⟩:=Ji e;obtain⟨l,a⟩:=Ji a;obtain⟨k,a⟩:=Ji a;obtain⟨j,a⟩:=Ji a;obtain⟨i,a⟩:=Ji a;obtain⟨h,g⟩:=Ji a;show some ((fA s,s.heap.bltView,fC s,tabsOk view s,pinSeenD view (Ru view) s,plainSeenE view (Rn view lo) s,plainSeenD view lo s,wideSeen view s,clsSeenW view lo s),H.obs s)=_;rw[f,n,d,m,l,k,j,i,h,g];rfl
theorem hl:LeftO pr view lo X H.obs H.val 5000:=λw=>byRow2 "special-get-raises" (P:=λw=>(openEnds treeTable pr w 5000).map (λs=>(openSeen view lo (Lz pr.main.body) X true s,H.obs s))=some (openGood view lo,H.val w)) (λw=>jn ((rAf w)) ((rBf w)) ((rCf w)) ((rDf w))) (λw=>jn ((rAt w)) ((rBt w)) ((rCt w)) ((rDt w))) w
set_option maxRecDepth 100000 in
set_option maxHeartbeats 0 in
theorem said:PySem.Challenge.rw_lanepacks_k07_whole_orders_kept.wellSaid=true:=by kernel_rfl
end KK
namespace L2
open PySem PySem.Spec PyProof.Rows
abbrev Z7:=Sum Int Ti
noncomputable def K6:Z7->Te->Bool
 |.inl k,v=>Sr k v
 |.inr x,v=>Rv x v
noncomputable def keyH(w:Tl):Z7->Int
 |.inl k=>hashInt k
 |.inr x=>hashStr w x
theorem ZO:∀{k:Z7} {v:Te},K6 k v=true->(∃i t,k=Oi i/\v=Qd i t)∨(∃x t,k=Oj x/\v=Qe x t)
 |.inl i,v,h=>by obtain⟨t,e⟩:=Value.isInt_shape (k:=i) (v:=v) h;exact .inl ⟨i,t,rfl,e⟩
 |.inr x,v,h=>by obtain⟨t,e⟩:=Value.isStrOf_shape (x:=x) (v:=v) h;exact .inr ⟨x,t,rfl,e⟩
theorem BA(i:Int)(t:Tx):K6 (.inl i) (.int i t)=true:=by simp[K6,Sr]
theorem BB(x:Ti)(t:Tx):K6 (.inr x) (.str x t)=true:=by simp[K6,Rv]
theorem Zq(a b:Int):decide ((Oi a:Z7)=Oi b)=(a==b):=by
 by_cases e:a=b
 ·subst e;simp
 ·have h : ¬ (Oi a : Z7) = Oi b := λq => e (Sum.inl.inj q)
  rw[decide_eq_false h];exact(beq_eq_false_iff_ne.mpr e).symm
theorem gT(a b:Ti):decide ((Oj a:Z7)=Oj b)=decide (a=b):=by
 by_cases e:a=b
 ·subst e;simp
 ·have h : ¬ (Oj a : Z7) = Oj b := λq => e (Sum.inr.inj q)
  rw[decide_eq_false h,decide_eq_false e]
theorem iJ(a:Int)(b:Ti):decide ((Oi a:Z7)=Oj b)=false:=decide_eq_false (λq=>nomatch q)
theorem eU(a:Ti)(b:Int):decide ((Oj a:Z7)=Oi b)=false:=decide_eq_false (λq=>nomatch q)
noncomputable def aM(prog:Br)(w:Tl):PySem.KeyKind prog w Z7 where
 is:=K6
 hash:=keyH w
 inj:=λv a b g hb=>by
  rcases ZO g with⟨i,t,rfl,rfl⟩|⟨x,t,rfl,rfl⟩
  ·rcases ZO hb with⟨j,u,rfl,e⟩|⟨y,u,rfl,e⟩
   ·injection e with c _;rw[c]
   ·exact nomatch e
  ·rcases ZO hb with⟨j,u,rfl,e⟩|⟨y,u,rfl,e⟩
   ·exact nomatch e
   ·injection e with c _;rw[c]
 byValue:=λk v h=>by
  rcases ZO h with⟨i,t,rfl,rfl⟩|⟨x,t,rfl,rfl⟩<;>rfl
 pyHash:=λd h=>by
  rcases ZO d with⟨i,t,rfl,rfl⟩|⟨x,t,rfl,rfl⟩
  ·exact wpAny_pyHash_int h
  ·exact wpAny_pyHash_str h
 eqBool:=λf d h=>by
  rcases ZO f with⟨i,t,rfl,rfl⟩|⟨x,t,rfl,rfl⟩
  ·rcases ZO d with⟨j,u,rfl,rfl⟩|⟨y,u,rfl,rfl⟩
   ·rw[Zq] at h;exact Lm h
   ·rw[iJ] at h;exact SeqAt.EqAt.int_str i t y u _ _ _ _ h
  ·rcases ZO d with⟨j,u,rfl,rfl⟩|⟨y,u,rfl,rfl⟩
   ·rw[eU] at h;exact SeqAt.EqAt.str_int x t j u _ _ _ _ h
   ·rw[gT] at h;exact wpAny_eqBool_str h
 «strs» :=λk x t v h=>by
  rcases ZO h with⟨i,u,rfl,e⟩|⟨y,u,rfl,e⟩
  ·exact nomatch e
  ·injection e with c _
   subst c;cases v<;>rfl
theorem GY(prog:Br)(w:Tl)(i:Int)(t:Tx):(aM prog w).is (.inl i) (.int i t)=true:=BA i t
theorem GZ(prog:Br)(w:Tl)(x:Ti)(t:Tx):(aM prog w).is (.inr x) (.str x t)=true:=BB x t
inductive V where
 |non|bl (b:Bool)|int (i:Int)|str (x:Ti)|byt (b:Array UInt8)|flt (b:UInt64)|ref (a:Tf)|ty (n:String)
 deriving DecidableEq
def bO:V->Te->Prop
 |.non,u=>u=Value.none
 |.bl b,u=>u=Rr b
 |.int i,u=>∃t,u=Qd i t
 |.str x,u=>∃t,u=Qe x t
 |.byt b,u=>∃t,u=Value.bytes b t
 |.flt b,u=>∃t,u=Su b t
 |.ref a,u=>u=Bx a
 |.ty n,u=>u=Kp n
abbrev bJ:List V->List Te->Prop:=Paired bO
theorem bJ.length{xs:List V}{a:List Te}(r:bJ xs a):xs.length=a.length:=Nr r
theorem bJ.get:∀{xs:List V} {a:List Te} {i:Nat} {x:V},bJ xs a->xs[i]?=some x->∃u,a[i]?=some u/\bO x u
 |_,_,_,_,.nil,e=>by simp at e
 |_,_,0,_,.cons r _,e=>by simp at e;subst e;exact⟨_,rfl,r⟩
 |_,_,i+1,x,.cons _ t,e=>by obtain⟨u,h1,h2⟩:=bJ.get (i:=i) (x:=x) t (by simpa using e);exact⟨u,by simpa using h1,h2⟩
theorem bJ.set{x:V}{u:Te}(r:bO x u):∀{xs:List V} {a:List Te} (i:Nat),bJ xs a->bJ (xs.set i x) (a.set i u)
 |_,_,_,.nil=>.nil
 |_,_,0,.cons _ t=>.cons r t
 |_,_,i+1,.cons q t=>.cons q (bJ.set r i t)
theorem bJ.append:∀{xs ys:List V} {a ws:List Te},bJ xs a->bJ ys ws->bJ (xs++ys) (a++ws)
 |_,_,_,_,.nil,s=>s
 |_,_,_,_,.cons r t,s=>.cons r (bJ.append t s)
theorem bJ.take:∀{xs:List V} {a:List Te} (n:Nat),bJ xs a->bJ (xs.take n) (a.take n)
 |_,_,0,_=>.nil
 |_,_,_+1,.nil=>.nil
 |_,_,n+1,.cons r t=>.cons r (bJ.take n t)
theorem bJ.drop:∀{xs:List V} {a:List Te} (n:Nat),bJ xs a->bJ (xs.drop n) (a.drop n)
 |_,_,0,r=>r
 |_,_,_+1,.nil=>.nil
 |_,_,n+1,.cons _ t=>bJ.drop n t
def O9:Option V->Option Te->Prop
 |some v,some u=>bO v u
 |none,none=>True
 |_,_=>False
def KV{κ:Type}:List (κ×V)->List (κ×Te)->Prop:=Paired λ(p:κ×V) (q:κ×Te)=>p.1=q.1/\bO p.2 q.2
noncomputable def kV:Z7->V
 |.inl i=>.int i
 |.inr x=>.str x
inductive HO where
 |lst (xs:List V)
 |tup (xs:List V)
 |dK (kvs:List (Z7×V))|dT (kvs:List (List Z7×V))
 |set (S:Int->Bool) (n:Nat)
 |ins (C dx:Tf) (fs:List (Ti×V))
 |own (x:Tf)
 |xd (fs:List (Ti×V))
 |met (f x:Tf)
 |rng (lo hi:Int)
 |frz (o:Tq) (u:HO)
 |tbl (ps:Array Te)
 |ext (φ:Tp->Prop)
abbrev Hp:=Tf->Option HO
noncomputable def aN(H:Hp)(a:Tf)(o:HO):Hp:=λb=>if b=a then some o else H b
theorem bZ{H:Hp}{a:Tf}{o:HO}:aN H a o a=some o:=by unfold aN;rw[if_pos rfl]
theorem bF{H:Hp}{a b:Tf}{o:HO}(h:b≠a):aN H a o b=H b:=by unfold aN;rw[if_neg h]
theorem fQ{H:Hp}{a b:Tf}{o u:HO}(h:H a=some o)(h':H b=some u)(d:o≠u):a≠b:=by intro e;subst e;rw[h] at h';exact d (Bw h')
theorem XS{H:Hp}{a b:Tf}{o:HO}(h:H a=some o)(h':H b=none):a≠b:=by intro e;subst e;rw[h] at h';cases h'
section
variable(P:Br)(w:Tl)
def ZJ(H:Hp)(h:Tp)(a:Tf):HO->Prop
 |.lst xs=>xs.length<=sizeLine/\∃(its:List Te) (n:Nat),bJ xs its/\h.get? a=some {cls:=.type "list",data:=.seq its.toArray n}
 |.tup xs=>xs.length<=sizeLine/\∃its:List Te,bJ xs its/\IsTup h a its.toArray
 |.dK kvs=>kvs.length<=sizeLine/\(a==Fn)=false/\∃vs,KV kvs vs/\h.DictOf (aM P w) a vs
 | .dT kvs => kvs.length <= sizeLine /\ (a == Fn) = false /\ ∃ xs : List (List Z7 × Tf × Te),
   Paired (λ(p:List Z7×V) (q:List Z7×Tf×Te)=>p.1=q.1/\H q.2.1=some (.tup (p.1.map kV))/\bO p.2 q.2.2) kvs xs∧
   ∃o es d,h.get? a=some o/\o.ExactDict/\o.data=.dict es d/\es.toList=xs.map (entryOfKey (tupleKind (aM P w)))/\(xs.map (·.1)).Nodup
 |.set S n=>h.SetOf (intKind P w) a S n
 | .ins C dx fs => H dx = some (.own a) /\ fs.length <= 1000 /\ dx ≠ a /\ h.get? a = some (Sb C dx) ∧
   ∃b,h.Ns1 dx b/\(∀f,O9 (fs.lookup f) (b f))/\Sc b (fs.map (·.1))
 |.own _=>∃o,h.get? a=some o
 |.xd fs=>∃b,h.Ns1 a b/\∀f,O9 (fs.lookup f) (b f)
 |.rng lo hi=>∃t u v,h.get? a=some {cls:=.type "range",data:=.fields #[.int lo t,.int hi u,.int 1 v]}
 |.frz o u=>h.get? a=some o/\ZJ H h a u
 |.tbl ps=>h.get? a=some {cls:=.none,data:=.fields ps}
 |.met f x=>h.get? a=some (Qf (.ref f) (.ref x))
 |.ext c=>c h/\(∃o,h.get? a=some o)/\∀h1 h2:Tp,c h1->(∀o,h1.get? a=some o->h2.get? a=some o)->c h2
def Q6(H:Hp)(h:Tp):Prop:=∀a o,H a=some o->ZJ P w H h a o
end
section
variable{P:Br}{w:Tl}{H H':Hp}{h h':Tp}{a:Tf}{o:HO}
theorem ZJ.lt(x:ZJ P w H h a o):a<h.objs.size:=by
 cases o with
 |lst xs=>obtain⟨_,_,_,_,e⟩:=x;exact Aq e
 |tup xs=>obtain⟨_,_,_,p⟩:=x;exact p.lt
 |dK kvs=>obtain⟨_,_,_,_,o,_,_,e,_⟩:=x;exact Aq e
 |dT kvs=>obtain⟨_,_,_,_,o,_,_,e,_⟩:=x;exact Aq e
 |set S n=>obtain⟨o,_,_,_,e,_⟩:=x;exact Aq e
 |ins C dx fs=>obtain⟨_,_,_,e,_⟩:=x;exact Aq e
 |own y=>obtain⟨_,e⟩:=x;exact Aq e
 |xd fs=>obtain⟨_,⟨_,_,_,e,_⟩,_⟩:=x;exact Aq e
 |rng lo hi=>obtain⟨_,_,_,e⟩:=x;exact Aq e
 |frz c u=>obtain⟨e,_⟩:=x;exact Aq e
 |tbl ps=>exact Aq (show h.get? a=some _ from x)
 |met f y=>exact Aq (show h.get? a=some _ from x)
 |ext b=>obtain⟨_,⟨_,e⟩,_⟩:=x;exact Aq e
theorem Paired.mapP{α β:Type}{F G:α->β->Prop}:∀{d:List α} {c:List β},Paired F d c->(∀a b,F a b->G a b)->Paired G d c
 |_,_,.nil,_=>.nil
 |_,_,.cons r t,f=>.cons (f _ _ r) (Paired.mapP t f)
theorem ZJ.stay(x:ZJ P w H h a o)(k:∀b u,(b=a∨H b=some (.own a))->h.get? b=some u->h'.get? b=some u)(A:∀b,H b=some (.own a)->H' b=some (.own a))(s:∀b xs,H b=some (.tup xs)->H' b=some (.tup xs)):ZJ P w H' h' a o:=by
 induction o with
 |lst xs=>obtain⟨z,its,n,r,e⟩:=x;exact⟨z,its,n,r,k _ _ (.inl rfl) e⟩
 |tup xs=>obtain⟨z,its,r,g,e,c⟩:=x;exact⟨z,its,r,g,k _ _ (.inl rfl) e,c⟩
 |dK kvs=>obtain⟨z,y,vs,r,g,es,i,e,c⟩:=x;exact⟨z,y,vs,r,g,es,i,k _ _ (.inl rfl) e,c⟩
 |dT kvs=>
  obtain⟨z,y,xs,r,g,es,i,e,c⟩:=x;exact⟨z,y,xs,Paired.mapP r λp q z=>⟨z.1,s _ _ z.2.1,z.2.2⟩,g,es,i,k _ _ (.inl rfl) e,c⟩
 |set S n=>obtain⟨g,es,i,t,e,c⟩:=x;exact⟨g,es,i,t,k _ _ (.inl rfl) e,c⟩
 |ins C dx fs=>
  obtain⟨d,z,l,e,j,⟨od,es,i,B,c⟩,r⟩:=x;exact⟨A _ d,z,l,k _ _ (.inl rfl) e,j,⟨od,es,i,k _ _ (.inr d) B,c⟩,r⟩
 |own y=>obtain⟨g,e⟩:=x;exact⟨g,k _ _ (.inl rfl) e⟩
 |xd fs=>obtain⟨j,⟨od,es,i,e,c⟩,r⟩:=x;exact⟨j,⟨od,es,i,k _ _ (.inl rfl) e,c⟩,r⟩
 |rng lo hi=>obtain⟨t,u,v,e⟩:=x;exact⟨t,u,v,k _ _ (.inl rfl) e⟩
 |frz g u m=>obtain⟨e,q⟩:=x;exact⟨k _ _ (.inl rfl) e,m q⟩
 |tbl ps=>
  have e:h.get? a=some {cls:=.none,data:=.fields ps}:=x;show h'.get? a=some {cls:=.none,data:=.fields ps};exact k a _ (.inl rfl) e
 |met f y=>
  have e:h.get? a=some (Qf (.ref f) (.ref y)):=x;show h'.get? a=some (Qf (.ref f) (.ref y));exact k a _ (.inl rfl) e
 |ext D=>obtain⟨p,⟨o,e⟩,st⟩:=x;exact⟨st _ _ p λo q=>k _ _ (.inl rfl) q,⟨o,k _ _ (.inl rfl) e⟩,st⟩
theorem Q6.lt(x:Q6 P w H h)(e:H a=some o):a<h.objs.size:=(x a o e).lt
theorem Q6.fresh(x:Q6 P w H h)(e:h.objs.size<=a):H a=none:=by
 cases q:H a with
 |none=>rfl
 |some u=>exact absurd (Ba (x.lt q) e) (Cm _)
theorem Q6.kept(x:Q6 P w H h)(k:∀b u,h.get? b=some u->h'.get? b=some u):Q6 P w H h':=λa o e=>
 (x a o e).stay (λb u _ q=>k b u q) (λ_ q=>q) λ_ _ q=>q
theorem Q6.laid(x:Q6 P w H h)(k:∀b u,h.get? b=some u->h'.get? b=some u)(f:h.objs.size<=a)(new:ZJ P w (aN H a o) h' a o):Q6 P w (aN H a o) h':=λb u e=>by
 have d:=x.fresh f;by_cases hb:b=a
 ·subst hb;rw[bZ] at e;cases e;exact new
 ·rw[bF hb] at e
  exact(x b u e).stay (λc v _ q=>k c v q) (λc q=>by rw[bF (XS q d)];exact q) λc xs q=>by rw[bF (XS q d)];exact q
end
def Rd(H:Hp)(a:Tf)(u:HO):Prop:=H a=some u∨∃o,H a=some (.frz o u)
theorem Rd.ok{P:Br}{w:Tl}{H:Hp}{h:Tp}{a:Tf}{u:HO}(r:Rd H a u)(x:Q6 P w H h):ZJ P w H h a u:=by
 rcases r with r|⟨o,r⟩
 ·exact x a u r
 ·obtain⟨_,q⟩:=x a _ r
  exact q
def Mut:Option HO->Prop
 |some (.lst _)=>True
 |some (.dK _)=>True
 |some (.dT _)=>True
 |some (.set _ _)=>True
 |some (.ins _ _ _)=>True
 |some (.ext _)=>True
 |_=>False
section
variable{P:Br}{w:Tl}{H:Hp}{h h':Tp}{x e:Tf}{o':HO}
theorem Q6.write(ok:Q6 P w H h)(d:Mut (H x))(j:e=x∨H e=some (.own x))(k:∀b u,b≠e->h.get? b=some u->h'.get? b=some u)(f:∃u,h'.get? e=some u)
  (new:ZJ P w (aN H x o') h' x o'):Q6 P w (aN H x o') h':=λb u q=>by
 have i:∀c y,H c=some (.own y)->c≠x:=λc y r z=>by subst z;rw[r] at d;exact d
 have l:∀c xs,H c=some (.tup xs)->c≠x:=λc xs r z=>by subst z;rw[r] at d;exact d
 by_cases hb:b=x
 ·subst hb;rw[bZ] at q;cases q;exact new
 ·rw[bF hb] at q
  by_cases a:b=e
  ·have g:H b=some (.own x):=by
    rcases j with z|z
    ·exact absurd (a.trans z) hb
    ·rw[a];exact z
   rw[q] at g;cases g;obtain⟨v,m⟩:=f;exact⟨v,by rw[a];exact m⟩
  ·refine (ok b u q).stay (λc v hc r => k c v ?_ r) (λc r => by rw [bF (i c b r)];exact r) λc xs r => by rw [bF (l c xs r)];exact r
   rcases hc with rfl|hc
   ·exact a
   ·rintro rfl
    rcases j with z|z
    ·exact i c b hc z
    ·rw[hc] at z;cases z;exact hb rfl
end
structure Un(fs ex:List Tf)(H H':Hp)(h h':Tp):Prop where
 keep:∀b o,h.get? b=some o->H b=none->b∉fs->b∉ex->h'.get? b=some o
 slot:∀b o,h.get? b=some o->H b=none->b∈fs->b∉ex->∃sl,h'.get? b=some {o with slots:=sl}
 free:∀b o,h.get? b=some o->H b=none->b∉ex->H' b=none
 there:∀b o,h.get? b=some o->b∉ex->∃o',h'.get? b=some o'
 tups:∀b xs,H b=some (.tup xs)->H' b=some (.tup xs)
 frzs:∀b o u,H b=some (.frz o u)->H' b=some (.frz o u)
 tbls:∀b ps,H b=some (.tbl ps)->∃more,H' b=some (.tbl (ps++more))
section
variable{fs fs' ex ex':List Tf}{H H1 H2:Hp}{h h1 h2 h':Tp}{a x e:Tf}{o:HO}
theorem Un.any(u:Un fs ex H H1 h h1){b:Tf}{a:Tq}(q:h.get? b=some a)(n:H b=none)(c:b∉ex):∃d,h1.get? b=some {a with slots:=d}:=by
 by_cases hb:b∈fs
 ·exact u.slot b a q n hb c
 ·exact⟨a.slots,u.keep b a q n hb c⟩
theorem Un.kept(k:∀b u,h.get? b=some u->h'.get? b=some u):Un fs ex H H h h':=
 ⟨λb a q _ _ _=>k b a q,λb a q _ _ _=>⟨a.slots,k b a q⟩,λ_ _ _ n _=>n,λb a q _=>⟨a,k b a q⟩,λ_ _ q=>q,λ_ _ _ q=>q,λ_ ps q=>⟨#[],by rw[q];simp⟩⟩
theorem Un.refl:Un fs ex H H h h:=Un.kept λ_ _ q=>q
theorem Un.laid(k:∀b u,h.get? b=some u->h'.get? b=some u)(d:h.objs.size<=a)(c:H a=none):Un fs ex H (aN H a o) h h' where
 keep:=λb u q _ _ _=>k b u q
 slot:=λb u q _ _ _=>⟨u.slots,k b u q⟩
 free:=λb u q n _=>by rw[bF (Bk (Ba (Aq q) d))];exact n
 there:=λb u q _=>⟨u,k b u q⟩
 tups:=λb xs q=>by rw[bF (XS q c)];exact q
 frzs:=λb u xs q=>by rw[bF (XS q c)];exact q
 tbls:=λb ps q=>⟨#[],by rw[bF (XS q c),q];simp⟩
theorem Un.write(c:Mut (H x))(j:e=x∨H e=some (.own x))(k:∀b u,b≠e->h.get? b=some u->h'.get? b=some u)(f:∃u,h'.get? e=some u):Un fs ex H (aN H x o) h h':=by
 have g:∀b,H b=none->b≠x:=λb n z=>by subst z;rw[n] at c;exact c
 have hb:∀b,H b=none->b≠e:=λb n z=>by
  subst z;rcases j with r|r
  ·exact g b n r
  ·rw[n] at r;cases r
 have d:∀b u,H b=some u->¬Mut (some u)->b≠x:=λb u q i z=>by subst z;rw[q] at c;exact i c
 refine⟨λb u q n _ _=>k b u (hb b n) q,λb u q n _ _=>⟨u.slots,k b u (hb b n) q⟩,λb u q n _=>by rw[bF (g b n)];exact n,λb u q _=>?_,λb xs q=>by rw[bF (d b _ q λz=>z)];exact q,λb u xs q=>by rw[bF (d b _ q λz=>z)];exact q,λb ps q=>⟨#[],by rw[bF (d b _ q λz=>z),q];simp⟩⟩
 by_cases a:b=e
 ·subst a;exact f
 ·exact⟨u,k b u a q⟩
end
noncomputable def trk(h:Tp)(H:Hp):List Tf:=(Au h.objs.size).filter λa=>(H a).isSome
noncomputable def JK(h:Tp)(H:Hp):Tp:=W.hideAll h (trk h H)
theorem A8(h:Tp)(H:Hp):(JK h H).objs.size=h.objs.size:=W.hideAll_size _ _
theorem pH{h:Tp}{H:Hp}{b:Tf}{o:Tq}(e:h.get? b=some o)(n:H b=none):(JK h H).get? b=some o:=
 W.hideAll_get _ e λa=>by have q:(H b).isSome=true:=(Fy.mp a).2;rw[n] at q;simp at q
theorem nJ{h:Tp}{H:Hp}{b:Tf}{o:Tq}(e:(JK h H).get? b=some o):h.get? b=some o/\H b=none:=by
 have a:h.get? b=some o:=W.of_hideAll (trk h H) e;refine⟨a,?_⟩;cases q:H b with
 |none=>rfl
 |some x=>
  have c:b∈trk h H:=Fy.mpr ⟨Cr.mpr (Aq a),by simp[q]⟩;have z:(JK h H).get? b=none:=W.hideAll_none (trk h H) c;rw[z] at e;cases e
structure Mod(K:As)(mg:Ti->Option Te)(base:Tp):Prop where
 kin:K.In base
 glob:base.Ns Tn mg
 blt:∃mb,base.Ns builtinsNs mb/\∀x:Ti,x≠ "__name__" ->mb x=Bo x
 nolimit:base.NoLimit
structure Cx where
 prog:Br
 w:Tl
 K:As
 mg:Ti->Option Te
 base:Tp
 A:Df
 N:List Ti
 s₀:Ah
 H₀:Hp
 env:Env
 outer:List Env
 stack:List Env
 ex:List Tf
 fn:Ti->Bool
 calm:Bool
 pn:List (Tf×Tq)
 xe:Te->Ah->Prop
noncomputable def A7(l:List Env):List Tf:=l.filterMap (·.frame)
abbrev Cx.fs(X:Cx):List Tf:=A7 X.outer
def Vis(a:Tr)(x:Ti):Prop:=a.names.lookup x=some .local∨a.names.lookup x=some .cell∨a.names.lookup x=some .free
def AB(a:Tr)(x:Ti):Prop:=a.names.lookup x=some .local∨a.names.lookup x=some .cell
def Look(env:Env)(h:Tp)(m:Ti->Option Te)(x:Ti)(u:Te):Prop:=
 (env.kindOf x=some .local/\m x=some u)∨((env.kindOf x=some .cell∨env.kindOf x=some .free)/\∃c,env.cells.lookup x=some c/\h.IsCell c (some u))
structure Cx.Ok(X:Cx):Prop where
 mod:Mod X.K X.mg X.base
 kind:X.env.scope.kind=.function
 glob:X.env.globals=Tn
 blt:X.env.builtins=builtinsNs
 above:X.s₀.heap.objs.size<=X.env.locals
 inj:∀x y c,X.env.cells.lookup x=some c->X.env.cells.lookup y=some c->x=y
 has:∀x,(X.env.kindOf x=some .cell∨X.env.kindOf x=some .free)->∃c,X.env.cells.lookup x=some c
 cab:∀x c,X.fn x=true->X.env.cells.lookup x=some c->X.s₀.heap.objs.size<=c
 hd:X.calm=true->X.A.handled=none
 frames:X.A.frames=some X.stack
 stk:X.stack=X.outer∨(X.stack=X.env::X.outer/\X.env.frame=some X.env.locals)
 exf:∀b∈X.ex,b≠X.env.locals/\∀x c,X.env.cells.lookup x=some c->c≠b
 bs:∀b o,X.base.get? b=some o->X.s₀.heap.get? b=some o/\X.H₀ b=none
 bsz:X.base.objs.size<=X.s₀.heap.objs.size
 noex:∀b o,X.base.get? b=some o->b∉X.ex
 exfs:∀b∈X.ex,b∉X.fs
 funs:X.s₀.heap.FunFrames X.base X.outer
 frf:∀b∈X.fs,X.H₀ b=none
structure cE(X:Cx)(aa:List (Tf×Tq))(σ:List (Option V))(H:Hp)(s:Ah):Prop where
 ok:X.Ok
 os:s.os=X.s₀.os
 bare:Ma s.gens
 base:Un X.fs X.ex X.H₀ H X.s₀.heap s.heap
 loc:∃m,s.heap.Ns X.env.locals m/\∀(i:Nat) (x:Ti) (v:V),X.N[i]?=some x->σ[i]?=some (some v)->Vis X.env.scope x->∃u,bO v u/\Look X.env s.heap m x u
 cell:∀x c,X.env.cells.lookup x=some c->∃v,s.heap.IsCell c v
 free:H X.env.locals=none
 freeC:∀x c,X.env.cells.lookup x=some c->H c=none
 pin:∀p∈X.pn++aa,s.heap.get? p.1=some p.2/\H p.1=none/\p.1≠X.env.locals/\p.1∉X.fs/\∀v,p.2.data≠ .cell v
 hok:Q6 X.prog X.w H s.heap
 len:σ.length=X.N.length
section
variable{X:Cx}{aa:List (Tf×Tq)}{σ:List (Option V)}{H H':Hp}{s:Ah}{h':Tp}
theorem Cx.Ok.nofr(ok:X.Ok){b:Tf}{o:Tq}(e:X.base.get? b=some o):b∉X.fs:=λhb=>by have:=(ok.funs.mem hb).1;rw[e] at this;cases this
theorem cE.bs(I:cE X aa σ H s):∀b o,X.base.get? b=some o->s.heap.get? b=some o/\H b=none:=λb o e=>
 ⟨I.base.keep b o (I.ok.bs b o e).1 (I.ok.bs b o e).2 (I.ok.nofr e) (I.ok.noex b o e),I.base.free b o (I.ok.bs b o e).1 (I.ok.bs b o e).2 (I.ok.noex b o e)⟩
theorem cE.bk(I:cE X aa σ H s):∀b o,X.base.get? b=some o->s.heap.get? b=some o:=λb o e=>(I.bs b o e).1
theorem cE.mod(I:cE X aa σ H s):Mod X.K X.mg X.base:=I.ok.mod
theorem cE.kIn(I:cE X aa σ H s):X.K.In s.heap:=I.ok.mod.kin.keeps I.bk
theorem cE.lt(I:cE X aa σ H s):X.env.locals<s.heap.objs.size:=let ⟨_,a,_⟩:=I.loc;a.lt
theorem cE.sz(I:cE X aa σ H s):X.s₀.heap.objs.size<=s.heap.objs.size:=Ce I.ok.above (Dg I.lt)
theorem cE.nofs(I:cE X aa σ H s){a:Tf}(h:s.heap.objs.size<=a):a∉X.fs:=λhb=>by obtain⟨_,o,b,_⟩:=I.ok.funs.mem hb;exact absurd (Ba (Aq b) (Ce I.sz h)) (Cm _)
theorem cE.cne(I:cE X aa σ H s):∀x c,X.env.cells.lookup x=some c->c≠X.env.locals:=λx c e z=>by obtain⟨v,o,d,f⟩:=I.cell x c e;obtain⟨m,⟨o',es,g,a,b,_⟩,_⟩:=I.loc;rw[z,a] at d;cases d;rw[b] at f;cases f
theorem cE.funs(I:cE X aa σ H s):s.heap.FunFrames X.base X.outer:=by
 have all:∀(l:List Env),(∀b∈A7 l,b∈X.fs)->X.s₀.heap.FunFrames X.base l->s.heap.FunFrames X.base l:=by
  intro l;induction l with
  |nil=>intro _ _;trivial
  |cons env r d=>
   intro hs hl;obtain⟨i,⟨L,o,a,h,g,j⟩,f⟩:=hl;have c:L∈X.fs:=hs L (by unfold A7;rw[Jj,a];exact Ap);obtain⟨k,e⟩:=I.base.slot L o g (I.ok.frf L c) c λz=>I.ok.exfs L z c;exact⟨i,⟨L,_,a,h,e,j⟩,d (λb hb=>hs b (by unfold A7;rw[Jj,a];exact Ao _ hb)) f⟩
 exact all X.outer (λ_ hb=>hb) I.ok.funs
theorem cE.stack(I:cE X aa σ H s):s.heap.FunFrames X.base X.stack:=by
 rcases I.ok.stk with e|⟨e,b⟩
 ·rw[e];exact I.funs
 ·rw[e]
  obtain⟨m,a,_⟩:=I.loc;refine .cons (by rw[I.ok.kind];decide) b a ?_ I.funs;exact Heap.get?_none_of_le (Ce I.ok.bsz I.ok.above)
theorem cE.stkSub(I:cE X aa σ H s):∀b∈A7 X.stack,b∈X.env.locals::X.fs:=λb hb=>by
 rcases I.ok.stk with e|⟨e,a⟩
 ·rw[e] at hb;exact Ao _ hb
 ·rw[e] at hb
  unfold A7 at hb;rw[Jj,a] at hb;exact hb
theorem cE.stkFree(I:cE X aa σ H s):∀b∈A7 X.stack,H b=none:=λb hb=>by
 rcases Ai.mp (I.stkSub b hb) with e|hb
 ·rw[e];exact I.free
 ·obtain⟨_,o,a,_⟩:=I.ok.funs.mem hb
  exact I.base.free b o a (I.ok.frf b hb) λz=>I.ok.exfs b z hb
theorem cE.step{g':Array GenState}{t':Nat}{d':Drawn}{ch:List Tf}(I:cE X aa σ H s)(h:∀b∈ch,(b∈X.ex∨X.s₀.heap.objs.size<=b)/\b≠X.env.locals/\(∀x c,X.env.cells.lookup x=some c->c≠b)/\∀p∈X.pn++aa,p.1≠b)(keep:∀b o,b≠X.env.locals->b∉X.fs->b∉ch->s.heap.get? b=some o->H b=none->h'.get? b=some o)(slot:∀b o,b≠X.env.locals->b∈X.fs->b∉ch->s.heap.get? b=some o->H b=none->∃F,h'.get? b=some {o with slots:=F})(f:∀b o,b∉ch->s.heap.get? b=some o->H b=none->H' b=none)(there:∀b o,b∉ch->s.heap.get? b=some o->∃o',h'.get? b=some o')(tups:∀b xs,H b=some (.tup xs)->H' b=some (.tup xs))(C:∀b o u,H b=some (.frz o u)->H' b=some (.frz o u))(A:∀b ps,H b=some (.tbl ps)->∃more,H' b=some (.tbl (ps++more)))(ns:∀m,s.heap.Ns X.env.locals m->h'.Ns X.env.locals m)(G:Q6 X.prog X.w H' h')(R:Ma g'):cE X aa σ H' {s with heap:=h',gens:=g',drawn:=d',toks:=t'}:=by
 have B:∀b o,X.s₀.heap.get? b=some o->b≠X.env.locals:=λb o e=>Bk (Ba (Aq e) I.ok.above);have j:∀b o,X.s₀.heap.get? b=some o->b∉X.ex->b∉ch:=λb o e a hb=>by
  rcases(h b hb).1 with z|z
  ·exact a z
  ·exact absurd (Ba (Aq e) z) (Cm _)
 have M:∀x c,X.env.cells.lookup x=some c->∀v,s.heap.IsCell c v->h'.IsCell c v:=λx c e v q0=>by
  obtain⟨o,y,J⟩:=q0;have g:c∉ch:=λz=>(h c z).2.2.1 x c e rfl;by_cases hc:c∈X.fs
  ·obtain⟨F,q⟩:=slot c o (I.cne x c e) hc g y (I.freeC x c e)
   exact⟨_,q,J⟩
  ·exact⟨o,keep c o (I.cne x c e) hc g y (I.freeC x c e),J⟩
 refine⟨I.ok,I.os,R,⟨λb o e n hb a=>?_,λb o e n hb a=>?_,λb o e n a=>?_,λb o e a=>?_,λb xs e=>tups b xs (I.base.tups b xs e),λb o xs e=>C b o xs (I.base.frzs b o xs e),λb ps e=>?_⟩,?_,λx c e=>?_,?_,λx c e=>?_,λp N=>?_,G,I.len⟩
 ·exact keep b o (B b o e) hb (j b o e a) (I.base.keep b o e n hb a) (I.base.free b o e n a)
 ·obtain⟨F,t⟩:=I.base.slot b o e n hb a
  obtain⟨E,D⟩:=slot b _ (B b o e) hb (j b o e a) t (I.base.free b o e n a);exact⟨E,D⟩
 ·obtain⟨o',t⟩:=I.base.there b o e a
  exact f b o' (j b o e a) t (I.base.free b o e n a)
 ·obtain⟨o',t⟩:=I.base.there b o e a
  exact there b o' (j b o e a) t
 ·obtain⟨P,t⟩:=I.base.tbls b ps e
  obtain⟨O,D⟩:=A b _ t;exact⟨P++O,by rw[D,Array.append_assoc]⟩
 ·obtain⟨m,Q,hl⟩:=I.loc
  refine⟨m,ns m Q,λi x v t D S=>?_⟩;obtain⟨u,r,l⟩:=hl i x v t D S;refine⟨u,r,?_⟩;rcases l with l|⟨k,c,e,z⟩
  ·exact .inl l
  ·exact .inr ⟨k,c,e,M x c e _ z⟩
 ·obtain⟨v,z⟩:=I.cell x c e
  exact⟨v,M x c e v z⟩
 ·obtain⟨m,⟨o,_,_,y,_⟩,_⟩:=I.loc
  exact f _ o (λz=>(h _ z).2.1 rfl) y I.free
 ·obtain⟨v,o,y,J⟩:=I.cell x c e
  exact f c o (λz=>(h c z).2.2.1 x c e rfl) y (I.freeC x c e)
 ·obtain⟨e,n,L,K,d⟩:=I.pin p N
  have g:p.1∉ch:=λz=>(h p.1 z).2.2.2 p N rfl;exact⟨keep p.1 p.2 L K g e n,f p.1 p.2 g e n,L,K,d⟩
theorem cE.un{t':Nat}(I:cE X aa σ H s)(u:Un X.fs [] H H' s.heap h')(c:Q6 X.prog X.w H' h'):cE X aa σ H' {s with heap:=h',toks:=t'}:=by
 obtain⟨m,⟨o,es,l,g,r⟩,_⟩:=id I.loc;obtain⟨j,i⟩:=u.any g I.free (by simp);exact I.step (g':=s.gens) (d':=s.drawn) (ch:=[]) (λ_ z=>nomatch z) (λb o _ hb _ e n=>u.keep b o e n hb (by simp)) (λb o _ hb _ e n=>u.slot b o e n hb (by simp)) (λb o _ e n=>u.free b o e n (by simp)) (λb o _ e=>u.there b o e (by simp)) u.tups u.frzs u.tbls (λk h=>by obtain⟨o',d,f,a,r'⟩:=h;rw[g] at a;cases a;exact⟨_,d,f,i,r'⟩) c I.bare
theorem cE.call{g':Array GenState}{t':Nat}{d':Drawn}{ch:List Tf}(I:cE X aa σ H s)(u:Un (A7 X.stack) ch H H' s.heap h')(f:Q6 X.prog X.w H' h')(l:Ma g')(d:∀b∈ch,(b∈X.ex∨X.s₀.heap.objs.size<=b)/\b≠X.env.locals/\(∀x c,X.env.cells.lookup x=some c->c≠b)/\∀p∈X.pn++aa,p.1≠b):cE X aa σ H' {s with heap:=h',gens:=g',drawn:=d',toks:=t'}:=by
 obtain⟨m,⟨o,es,v,j,r⟩,_⟩:=id I.loc;obtain⟨q,g⟩:=u.any j I.free λz=>(d _ z).2.1 rfl;exact I.step (ch:=ch) d (λb o g hb hc e n=>u.keep b o e n (λz=>(Ai.mp (I.stkSub b z)).elim g hb) hc) (λb o _ _ hc e n=>u.any e n hc) (λb o hc e n=>u.free b o e n hc) (λb o hc e=>u.there b o e hc) u.tups u.frzs u.tbls (λt k=>by obtain⟨o',h,i,a,r'⟩:=k;rw[j] at a;cases a;exact⟨_,h,i,g,r'⟩) f l
theorem cE.turned{t':Nat}{it:Tf}(I:cE X aa σ H s)(k:∀b o,b≠it->s.heap.get? b=some o->h'.get? b=some o)(g:H it=none)(d:it≠X.env.locals)(h1:it∈X.ex∨X.s₀.heap.objs.size<=it)(h2:∀x c,X.env.cells.lookup x=some c->c≠it)(i:∀p∈X.pn++aa,p.1≠it):cE X aa σ H {s with heap:=h',toks:=t'}:=by
 have a:∀b u,H b=some u->b≠it:=λb u e z=>by rw[z,g] at e;cases e
 refine I.step (g':=s.gens) (d':=s.drawn) (ch:=[it]) (λb hb=>?_) (λb o _ _ hc e _=>k b o (λz=>hc (by simp[z])) e) (λb o _ _ hc e _=>⟨o.slots,k b o (λz=>hc (by simp[z])) e⟩) (λ_ _ _ _ n=>n)
  (λb o hc e=>⟨o,k b o (λz=>hc (by simp[z])) e⟩) (λ_ _ e=>e) (λ_ _ _ e=>e) (λb ps e=>⟨#[],by rw[e];simp⟩) (λm h=>?_) (λb u e=>?_) I.bare
 ·have e : b = it := by simpa using hb
  subst e;exact⟨h1,d,h2,i⟩
 ·obtain⟨o,es,j,f,r⟩:=h
  exact⟨o,es,j,k _ o (Dn d) f,r⟩
 ·refine (I.hok b u e).stay (λc v hc q => k c v ?_ q) (λ_ q => q) λ_ _ q => q
  rcases hc with z|z
  ·rw[z];exact a b u e
  ·exact a c _ z
theorem cE.tok(I:cE X aa σ H s)(t:Nat):cE X aa σ H {s with toks:=t}:=I.un (h':=s.heap) (t':=t) Un.refl I.hok
theorem cE.kept{t':Nat}(I:cE X aa σ H s)(k:∀b u,s.heap.get? b=some u->h'.get? b=some u):cE X aa σ H {s with heap:=h',toks:=t'}:=I.un (Un.kept k) (I.hok.kept k)
theorem cE.laid{a:Tf}{o:HO}{t':Nat}(I:cE X aa σ H s)(k:∀b u,s.heap.get? b=some u->h'.get? b=some u)(c:s.heap.objs.size<=a)(new:ZJ X.prog X.w (aN H a o) h' a o):cE X aa σ (aN H a o) {s with heap:=h',toks:=t'}:=I.un (Un.laid k c (I.hok.fresh c)) (I.hok.laid k c new)
theorem cE.write{x e:Tf}{o:HO}{t':Nat}(I:cE X aa σ H s)(c:Mut (H x))(d:e=x∨H e=some (.own x))(k:∀b u,b≠e->s.heap.get? b=some u->h'.get? b=some u)(a:∃u,h'.get? e=some u)(new:ZJ X.prog X.w (aN H x o) h' x o):cE X aa σ (aN H x o) {s with heap:=h',toks:=t'}:=I.un (Un.write c d k a) (I.hok.write c d k a new)
theorem cE.weak{a:List (Option V)}(I:cE X aa σ H s)(hl:a.length=σ.length)(w:∀(i:Nat) v,a[i]?=some (some v)->σ[i]?=some (some v)):cE X aa a H s:=
 ⟨I.ok,I.os,I.bare,I.base,let ⟨m,c,b⟩:=I.loc;⟨m,c,λi x v f e d=>b i x v f (w i v e) d⟩,I.cell,I.free,I.freeC,I.pin,I.hok,hl.trans I.len⟩
theorem cE.pins_of{a:List (Tf×Tq)}(I:cE X aa σ H s)(h:∀p∈a,s.heap.get? p.1=some p.2/\H p.1=none/\p.1≠X.env.locals/\p.1∉X.fs/\∀v,p.2.data≠ .cell v):cE X a σ H s:=
 ⟨I.ok,I.os,I.bare,I.base,I.loc,I.cell,I.free,I.freeC,λp b=>(Cp.mp b).elim (λz=>I.pin p (Cg _ z)) (h p),I.hok,I.len⟩
theorem G3{N:List Ti}(c:N.Nodup){i j:Nat}{x:Ti}(a:N[i]?=some x)(b:N[j]?=some x):i=j:=by obtain⟨h1,e⟩:=Ad.mp a;obtain⟨h2,d⟩:=Ad.mp b;exact(Ln c).mp (e.trans d.symm)
theorem P4{M:Model}{A:Df}{E:Te->Ah->Prop}{i:Nat}{x:Ti}{v:V}{u:Te}{Q:Unit->Ah->Prop}(I:cE X aa σ H s)(hN:X.N.Nodup)(hi:X.N[i]?=some x)(g:AB X.env.scope x)(r:bO v u)(h:∀s',cE X aa (σ.set i (some v)) H s'->(∃a,Fo a s.heap s'.heap/\(a=X.env.locals∨X.env.cells.lookup x=some a))->Q () s')(hf:X.fn x=true∨X.env.scope.names.lookup x=some .local:=by first|exact .inl rfl|exact .inr rfl|assumption):Tg M A (storeName X.env x u) Q E s:=by
 obtain⟨m,Z,hl⟩:=id I.loc;have tj:(X.env.scope.kind== .class || (X.env.scope.kind== .module&&X.env.locals !=X.env.globals))=false:=by rw[I.ok.kind];rfl
 have B:i<σ.length:=by rw[I.len];exact(Ad.mp hi).1
 have cne:=I.cne;have ga:∀{a:Tf} {h':Tp},(∃o,s.heap.get? a=some o/\H a=none)->Fo a s.heap h'->Q6 X.prog X.w H h':=λ{a h'} ha hs b ob e=>by
  obtain⟨_,_,bq⟩:=ha;refine(I.hok b ob e).stay (λc K hc q=>(hs.2 c ?_).trans q) (λ_ q=>q) λ_ _ q=>q;rintro rfl;rcases hc with rfl|hc
  ·rw[bq] at e;cases e
  ·rw[bq] at hc;cases hc
 rcases g with t|t
 ·refine wpAny_storeName_local t Z (λh' Y hs => ?_) tj
  obtain⟨oL,_,_,W,_⟩:=id Z;refine h _ ⟨I.ok,I.os,I.bare,⟨λb o e n hb g=>?_,λb o e n hb g=>?_,I.base.free,λb o e g=>?_,I.base.tups,I.base.frzs,I.base.tbls⟩,⟨_,Y,λj y P f l e3=>?_⟩,λy c e=>?_,I.free,I.freeC,λp U=>?_,ga ⟨oL,W,I.free⟩ hs,by simpa using I.len⟩ ⟨_,hs,.inl rfl⟩
  ·exact(hs.2 b (Bk (Ba (Aq e) I.ok.above))).trans (I.base.keep b o e n hb g)
  ·obtain⟨S,f⟩:=I.base.slot b o e n hb g
   exact⟨S,(hs.2 b (Bk (Ba (Aq e) I.ok.above))).trans f⟩
  ·obtain⟨o',f⟩:=I.base.there b o e g
   exact⟨o',(hs.2 b (Bk (Ba (Aq e) I.ok.above))).trans f⟩
  ·by_cases C:j=i
   ·subst C
    rw[hi] at f;cases f;rw[Dh B] at l;cases l;exact⟨u,r,.inl ⟨t,by simp⟩⟩
   ·rw[Ca (Dn C)] at l
    obtain⟨R,r',q⟩:=hl j y P f l e3;refine⟨R,r',?_⟩;rcases q with⟨k,e⟩|⟨k,c,e,z⟩
    ·refine .inl ⟨k,?_⟩
     have:y≠x:=λe=>C (G3 hN f (e▸hi));simp[this,e]
    ·exact .inr ⟨k,c,e,z.sameBut hs (cne y c e)⟩
  ·obtain⟨K,z⟩:=I.cell y c e
   exact⟨K,z.sameBut hs (cne y c e)⟩
  ·obtain⟨e,n,L,T,d⟩:=I.pin p U
   exact⟨(hs.2 p.1 L).trans e,n,L,T,d⟩
 ·have D:X.fn x=true:=by
   rcases hf with z|z
   ·exact z
   ·rw[z] at t;cases t
  obtain⟨c,hc⟩:=I.ok.has x (.inl t);obtain⟨K,z⟩:=I.cell x c hc;refine wpAny_storeName_cell I.ok.kind t hc z (λh' J hs=>?_);obtain⟨oc,F,sg⟩:=id z;refine h {s with heap:=h'} ⟨I.ok,I.os,I.bare,⟨λb o e n hb g=>?_,λb o e n hb g=>?_,I.base.free,λb o e g=>?_,I.base.tups,I.base.frzs,I.base.tbls⟩,⟨m,Z.sameBut hs (Dn (cne x c hc)),λj y P f l e3=>?_⟩,λy O e=>?_,I.free,I.freeC,λp U=>?_,ga ⟨oc,F,I.freeC x c hc⟩ hs,by simpa using I.len⟩ ⟨c,hs,.inr hc⟩
  ·exact(hs.2 b (Bk (Ba (Aq e) (I.ok.cab x c D hc)))).trans (I.base.keep b o e n hb g)
  ·obtain⟨S,f⟩:=I.base.slot b o e n hb g
   exact⟨S,(hs.2 b (Bk (Ba (Aq e) (I.ok.cab x c D hc)))).trans f⟩
  ·obtain⟨o',f⟩:=I.base.there b o e g
   exact⟨o',(hs.2 b (Bk (Ba (Aq e) (I.ok.cab x c D hc)))).trans f⟩
  ·by_cases C:j=i
   ·subst C
    rw[hi] at f;cases f;rw[Dh B] at l;cases l;exact⟨u,r,.inr ⟨.inl t,c,hc,J⟩⟩
   ·rw[Ca (Dn C)] at l
    obtain⟨R,r',q⟩:=hl j y P f l e3;refine⟨R,r',?_⟩;rcases q with q|⟨k,O,e,z'⟩
    ·exact .inl q
    ·refine .inr ⟨k,O,e,z'.sameBut hs ?_⟩
     rintro rfl;exact C (G3 hN f (I.ok.inj _ _ _ e hc▸hi))
  ·by_cases G:O=c
   ·subst G;exact⟨_,J⟩
   ·obtain⟨w2,z2⟩:=I.cell y O e
    exact⟨w2,z2.sameBut hs G⟩
  ·obtain⟨e,n,L,T,d⟩:=I.pin p U
   refine⟨(hs.2 p.1 ?_).trans e,n,L,T,d⟩;intro q;rw[q,F] at e;have q':oc=p.2:=Bw e;exact d K (by rw[<-q'];exact sg)
theorem X5{M:Model}{A:Df}{E:Te->Ah->Prop}{i:Nat}{x:Ti}{v:V}{u:Te}{Q:Unit->Ah->Prop}(I:cE X aa σ H s)(c:X.N.Nodup)(hi:X.N[i]?=some x)(a:AB X.env.scope x)(r:bO v u)(h:∀s',cE X aa (σ.set i (some v)) H s'->Q () s')(b:X.fn x=true∨X.env.scope.names.lookup x=some .local:=by first|exact .inl rfl|exact .inr rfl|assumption):Tg M A (storeName X.env x u) Q E s:=
 P4 I c hi a r (λs' d _=>h s' d) b
theorem cE.call'{s':Ah}{ch:List Tf}(I:cE X aa σ H s)(f:s'.os=s.os)(u:Un (A7 X.stack) ch H H' s.heap s'.heap)(a:Q6 X.prog X.w H' s'.heap)(g:Ma s'.gens)(d:∀b∈ch,(b∈X.ex∨X.s₀.heap.objs.size<=b)/\b≠X.env.locals/\(∀x c,X.env.cells.lookup x=some c->c≠b)/\∀p∈X.pn++aa,p.1≠b):cE X aa σ H' s':=by obtain⟨h',g',d',t',o'⟩:=s';have e:o'=s.os:=f;subst e;exact I.call (g':=g') (t':=t') (d':=d') u a g d
end
abbrev XK:=Te->Option Tf->Hp->Prop
abbrev St:=List (Option V)
abbrev VK:=V->Hp->Prop
abbrev TE:=St->Hp->VK->Prop
abbrev TT:=St->Hp->(Bool->Hp->Prop)->Prop
abbrev TA:=St->Hp->(List V->Hp->Prop)->Prop
structure EA where
 nx:St->Hp->Prop
 rt:VK
 bk:St->Hp->Prop:=λ_ _=>False
 ct:St->Hp->Prop:=λ_ _=>False
abbrev TS:=EA->St->Hp->Prop
def EP(X:Cx)(aa:List (Tf×Tq))(σ:St)(Q:VK)(u:Te)(s':Ah):Prop:=∃v H',cE X aa σ H' s'/\bO v u/\Q v H'
def TP(X:Cx)(aa:List (Tf×Tq))(σ:St)(Q:Bool->Hp->Prop)(b:Bool)(s':Ah):Prop:=∃H',cE X aa σ H' s'/\Q b H'
def AP(X:Cx)(aa:List (Tf×Tq))(σ:St)(Q:List V->Hp->Prop)(a:List Te)(s':Ah):Prop:=∃vs H',cE X aa σ H' s'/\bJ vs a/\Q vs H'
def SP(X:Cx)(aa:List (Tf×Tq))(D:EA)(f:Flow)(s':Ah):Prop:=
 match f with
 |.next=>∃a H',cE X aa a H' s'/\D.nx a H'
 |.brk=>∃a H',cE X aa a H' s'/\D.bk a H'
 |.cont=>∃a H',cE X aa a H' s'/\D.ct a H'
 |.ret u=>∃v a H',cE X aa a H' s'/\bO v u/\D.rt v H'
def PE(X:Cx)(e:Tj)(t:TE):Prop:=
 ∀(aa:List (Tf×Tq)) (s:Ah) (σ:St) (H:Hp) (Q:VK),cE X aa σ H s->t σ H Q->Tg (Th X.prog X.w) X.A (eval e X.env) (EP X aa σ Q) X.xe s
def PT(X:Cx)(e:Tj)(t:TT):Prop:=
 ∀(aa:List (Tf×Tq)) (s:Ah) (σ:St) (H:Hp) (Q:Bool->Hp->Prop),cE X aa σ H s->t σ H Q->Tg (Th X.prog X.w) X.A (isTrue e X.env (eval e X.env)) (TP X aa σ Q) X.xe s
def PW(X:Cx)(e:Tj)(t:TT):Prop:=
 ∀(a:Tw Te) (aa:List (Tf×Tq)) (s:Ah) (σ:St) (H:Hp) (Q:Bool->Hp->Prop),cE X aa σ H s->t σ H Q->Tg (Th X.prog X.w) X.A (isTrue e X.env a) (TP X aa σ Q) X.xe s
theorem PW.pt{X:Cx}{e:Tj}{t:TT}(h:PW X e t):PT X e t:=h _
def PA(X:Cx)(es:List Tj)(t:TA):Prop:=
 ∀(pos:Pos) (aa:List (Tf×Tq)) (s:Ah) (σ:St) (H:Hp) (Q:List V->Hp->Prop),cE X aa σ H s->t σ H Q->Tg (Th X.prog X.w) X.A (spliced (Fx pos (Aj es X.env))) (AP X aa σ Q) X.xe s
def PS(X:Cx)(st:Tt)(t:TS):Prop:=
 ∀(aa:List (Tf×Tq)) (s:Ah) (σ:St) (H:Hp) (D:EA),cE X aa σ H s->t D σ H->Tg (Th X.prog X.w) X.A (exec st X.env) (SP X aa D) X.xe s
def OK(X:Cx)(st:List Tt)(t:TS):Prop:=
 ∀(aa:List (Tf×Tq)) (s:Ah) (σ:St) (H:Hp) (D:EA),cE X aa σ H s->t D σ H->Tg (Th X.prog X.w) X.A (execs st X.env) (SP X aa D) X.xe s
theorem ZB{α:Type}{t:Tw α}{Q b:α->Ah->Prop}{M:Model}{A:Df}{E:Te->Ah->Prop}{s:Ah}(h:Tg M A t Q E s)(c:∀a s,Q a s->b a s):Tg M A t b E s:=Az h c λ_ _ x=>x
section
variable{X:Cx}
def OI(i:Nat):TE:=λσ H Q=>∃v,σ[i]?=some (some v)/\Q v H
def tC(v:V):TE:=λ_ H Q=>Q v H
theorem E9{i:Nat}{x:Ti}{pos:Pos}(o:X.N[i]?=some x)(j:Vis X.env.scope x)(d:(x==("__debug__":Ti))=false:=by decide)(f:(x==("__classdict__":Ti))=false:=by decide):PE X (.Name x pos) (OI i):=by
 intro aa s σ H Q I h;obtain⟨v,e,h⟩:=h;obtain⟨m,k,hl⟩:=I.loc;obtain⟨u,r,l⟩:=hl i x v o e j;have b:EP X aa σ Q u s:=⟨v,H,I,r,h⟩;rcases l with⟨a,n⟩|⟨a,c,hc,g⟩
 ·exact Rs (wpAny_loadName_local I.ok.kind a k n b) d
 ·rcases a with a|a
  ·exact Rs (wpAny_loadName_cell I.ok.kind a hc g b) d
  ·exact Rs (wpAny_loadName_free I.ok.kind a hc g b f) d
theorem nF{i j pos}:PE X (.Constant (.int i) j pos) (tC (.int i)):=λ_ _ _ H _ I h=>wpAny_Constant_int ⟨.int i,H,I.tok _,⟨_,rfl⟩,h⟩
theorem kS{b j pos}:PE X (.Constant (.bool b) j pos) (tC (.bl b)):=λ_ _ _ H _ I h=>Constant_bool ⟨.bl b,H,I,rfl,h⟩
theorem kB{j pos}:PE X (.Constant .none j pos) (tC .non):=λ_ _ _ H _ I h=>Constant_none ⟨.non,H,I,rfl,h⟩
theorem Zu{x j pos}:PE X (.Constant (.str x) j pos) (tC (.str x)):=λ_ _ _ H _ I h=>Calls.Constant_str ⟨.str x,H,I.tok _,⟨_,rfl⟩,h⟩
def Gl(X:Cx)(x:Ti):Prop:=X.env.kindOf x=some .globalImplicit
theorem CZ{E:Te->Ah->Prop}{aa:List (Tf×Tq)}{s:Ah}{σ:St}{H:Hp}{x:Ti}{u:Te}{pos:Pos}{Q:Te->Ah->Prop}(I:cE X aa σ H s)(b:Gl X x)(a:X.mg x=some u)(h:Q u s)(c:(x==("__debug__":Ti))=false:=by decide):Tg (Th X.prog X.w) X.A (eval (.Name x pos) X.env) Q E s:=
 Ka I.ok.kind b (Calls.loadGlobal_global (by rw[I.ok.glob];exact I.mod.glob.keeps I.bk) a h) c
theorem RM{E:Te->Ah->Prop}{aa:List (Tf×Tq)}{s:Ah}{σ:St}{H:Hp}{x:Ti}{u:Te}{pos:Pos}{Q:Te->Ah->Prop}(I:cE X aa σ H s)(d:Gl X x)(c:X.mg x=none)(a:Bo x=some u)(h:Q u s)(b:x≠ "__name__":=by decide)(e:(x==("__debug__":Ti))=false:=by decide):Tg (Th X.prog X.w) X.A (eval (.Name x pos) X.env) Q E s:=by obtain⟨f,h1,h2⟩:=I.mod.blt;exact Ka I.ok.kind d (Calls.loadGlobal_builtin (by rw[I.ok.glob];exact I.mod.glob.keeps I.bk) c (by rw[I.ok.blt];exact h1.keeps I.bk) ((h2 x b).trans a) h) e
theorem dZ{x:Ti}{v:V}{u:Te}{pos:Pos}(b:Gl X x)(a:X.mg x=some u)(r:bO v u)(c:(x==("__debug__":Ti))=false:=by decide):PE X (.Name x pos) (tC v):=
 λ_ _ _ H _ I h=>CZ I b a ⟨v,H,I,r,h⟩ c
theorem dY{x:Ti}{v:V}{u:Te}{pos:Pos}(d:Gl X x)(c:X.mg x=none)(a:Bo x=some u)(r:bO v u)(b:x≠ "__name__":=by decide)(e:(x==("__debug__":Ti))=false:=by decide):PE X (.Name x pos) (tC v):=
 λ_ _ _ H _ I h=>RM I d c a ⟨v,H,I,r,h⟩ b e
variable{a b:Tj}{ta tb:TE}{pos:Pos}
def tB(t:TE):TT:=λσ H Q=>t σ H λx H1=>∃c,x=.bl c/\Q c H1
theorem Ys{e:Tj}{t:TE}(h:PE X e t)(c:∀a,isTrue e X.env a=(do let v<-a;Mb e.pos;Mc [v] (truthy v)):=by intro _;rfl):PT X e (tB t):=by intro aa s σ H Q I hw;refine isTrue_plain (ZB (h aa s σ H _ I hw) λv s1 ⟨x,H1,f,b,q1⟩=>?_) (c _);obtain⟨d,rfl,q⟩:=q1;cases b;exact Ef ⟨H1,f,q⟩
variable{tA tB':TT}{rest:List Tj}
def tAnd(t u:TT):TT:=λσ H Q=>t σ H λc H1=>if c=true then u σ H1 Q else Q false H1
def tOr(t u:TT):TT:=λσ H Q=>t σ H λc H1=>if c=true then Q true H1 else u σ H1 Q
def tNot(t:TT):TT:=λσ H Q=>t σ H λc H1=>Q (!c) H1
theorem iO(b:PT X a tA):PW X (.BoolOp .And [a] pos) tA:=by
 intro d aa s σ H Q I h;refine isTrue_and (ZB (b aa s σ H Q I h) λc s1 e=>?_);cases c with
 |true=>exact isTrue_and_nil e
 |false=>exact e
theorem lI(b:PT X a tA):PW X (.BoolOp .Or [a] pos) tA:=by
 intro d aa s σ H Q I h;refine isTrue_or (ZB (b aa s σ H Q I h) λc s1 e=>?_);cases c with
 |false=>exact isTrue_or_nil e
 |true=>exact e
theorem jK(f:PT X a tA)(hb:PW X (.BoolOp .And (b::rest) pos) tB'):PW X (.BoolOp .And (a::b::rest) pos) (tAnd tA tB'):=by
 intro e aa s σ H Q I h;refine isTrue_and (ZB (f aa s σ H _ I h) λc s1 ⟨H1,d,q1⟩=>?_);cases c with
 |true=>exact hb e aa s1 σ H1 Q d q1
 |false=>exact⟨H1,d,q1⟩
theorem eA(f:PT X a tA)(hb:PW X (.BoolOp .Or (b::rest) pos) tB'):PW X (.BoolOp .Or (a::b::rest) pos) (tOr tA tB'):=by
 intro e aa s σ H Q I h;refine isTrue_or (ZB (f aa s σ H _ I h) λc s1 ⟨H1,d,q1⟩=>?_);cases c with
 |true=>exact⟨H1,d,q1⟩
 |false=>exact hb e aa s1 σ H1 Q d q1
theorem dR(b:PT X a tA):PT X (.UnaryOp .Not a pos) (tNot tA):=by intro aa s σ H Q I h;exact isTrue_not (b aa s σ H (λc H1=>Q (!c) H1) I h)
def kE(ta tb:TE):TE:=λσ H Q=>ta σ H λx H1=>∃c,x=.bl c/\if c=true then tb σ H1 Q else Q (.bl false) H1
def tOrV(ta tb:TE):TE:=λσ H Q=>ta σ H λx H1=>∃c,x=.bl c/\if c=true then Q (.bl true) H1 else tb σ H1 Q
def eG(ta:TE):TE:=λσ H Q=>ta σ H λx H1=>∃c,x=.bl c/\Q (.bl (!c)) H1
theorem iD{op}{t:TE}(h:PE X a t):PE X (.BoolOp op [a] pos) t:=λaa s σ H Q I hw=>BoolOp_one (h aa s σ H Q I hw)
theorem Yt(f:PE X a ta)(hb:PE X (.BoolOp .And (b::rest) pos) tb):PE X (.BoolOp .And (a::b::rest) pos) (kE ta tb):=by
 intro aa s σ H Q I h;refine BoolOp_and (ZB (f aa s σ H _ I h) λv s1 ⟨x,H1,d,e,q1⟩=>?_);obtain⟨c,rfl,q1⟩:=q1;cases e;refine Ef ?_;cases c with
 |true=>exact hb aa s1 σ H1 Q d q1
 |false=>exact⟨.bl false,H1,d,rfl,q1⟩
theorem nB(f:PE X a ta)(hb:PE X (.BoolOp .Or (b::rest) pos) tb):PE X (.BoolOp .Or (a::b::rest) pos) (tOrV ta tb):=by
 intro aa s σ H Q I h;refine BoolOp_or (ZB (f aa s σ H _ I h) λv s1 ⟨x,H1,d,e,q1⟩=>?_);obtain⟨c,rfl,q1⟩:=q1;cases e;refine Ef ?_;cases c with
 |false=>exact hb aa s1 σ H1 Q d q1
 |true=>exact⟨.bl true,H1,d,rfl,q1⟩
theorem lD(d:PE X a ta):PE X (.UnaryOp .Not a pos) (eG ta):=by intro aa s σ H Q I h;refine UnaryOp_ (ZB (d aa s σ H _ I h) λv s1 ⟨x,H1,e,b,q1⟩=>?_);obtain⟨c,rfl,q1⟩:=q1;cases b;exact not_of (Ef ⟨.bl (!c),H1,e,rfl,q1⟩)
def tIf(t:TT)(ta tb:TE):TE:=λσ H Q=>t σ H λc H1=>if c=true then ta σ H1 Q else tb σ H1 Q
theorem mK{c:Tj}(hc:PT X c tA)(f:PE X a ta)(hb:PE X b tb):PE X (.IfExp c a b pos) (tIf tA ta tb):=by
 intro aa s σ H Q I h;refine wpAny_IfExp (ZB (hc aa s σ H _ I h) λd s1 ⟨H1,e,q1⟩=>?_);cases d with
 |true=>exact f aa s1 σ H1 Q e q1
 |false=>exact hb aa s1 σ H1 Q e q1
end
def WT(K:As)(H:Hp)(a:Tf)(xs:List V):Prop:=
 Rd H a (.lst xs)∨
  ∃(o:Tq) (its:Array Te) (n:Nat),K.lookup a=some o/\o.cls=.type "list" /\o.dict=none/\o.data=.seq its n/\its.size<=sizeLine/\bJ xs its.toList
def V0(K:As)(H:Hp)(a:Tf)(xs:List V):Prop:=
 Rd H a (.tup xs)∨
  ∃(o:Tq) (its:Array Te) (n:Nat),K.lookup a=some o/\o.cls=.type "tuple" /\o.data=.seq its n/\its.size<=sizeLine/\bJ xs its.toList
noncomputable def absV:Te->Option V
 |.none=>some .non
 |.bool b=>some (.bl b)
 |.int i _=>some (.int i)
 |.str x _=>some (.str x)
 |.bytes b _=>some (.byt b)
 |.float b _=>some (.flt b)
 |.ref a=>some (.ref a)
 |.type n=>some (.ty n)
 |_=>none
theorem bO.abs{x:V}{u:Te}(r:bO x u):absV u=some x:=by
 cases x with
 |non=>cases r;rfl
 |bl _=>cases r;rfl
 |int _=>obtain⟨t,rfl⟩:=r;rfl
 |str _=>obtain⟨t,rfl⟩:=r;rfl
 |byt _=>obtain⟨t,rfl⟩:=r;rfl
 |flt _=>obtain⟨t,rfl⟩:=r;rfl
 |ref _=>cases r;rfl
 |ty _=>cases r;rfl
theorem bO.inj{x y:V}{u:Te}(r:bO x u)(q:bO y u):x=y:=Bw (r.abs.symm.trans q.abs)
theorem bJ.inj:∀{xs ys:List V} {a:List Te},bJ xs a->bJ ys a->xs=ys
 |_,_,_,.nil,.nil=>rfl
 |_,_,_,.cons r t,.cons r' t'=>by rw[r.inj r',bJ.inj t t']
section
variable{X:Cx}{aa:List (Tf×Tq)}{σ:St}{H:Hp}{s:Ah}{a:Tf}{xs ys:List V}
theorem WT.of{K:As}(h:H a=some (.lst xs)):WT K H a xs:=.inl (.inl h)
theorem V0.of{K:As}(h:H a=some (.tup xs)):V0 K H a xs:=.inl (.inl h)
theorem cE.list(I:cE X aa σ H s)(h:WT X.K H a xs):∃its:List Te,bJ xs its/\PlainL s.heap a its.toArray/\xs.length<=sizeLine:=by
 rcases h with h|⟨o,its,n,b,hc,c,hs,d,r⟩
 ·obtain⟨z,its,n,r,e⟩:=h.ok I.hok
  exact⟨its,r,⟨_,n,e,rfl,rfl,rfl⟩,z⟩
 ·refine ⟨its.toList,r,⟨o,n,I.kIn a o b,hc,c,by simpa using hs⟩,?_⟩
  have e:=r.length;simp only[Et] at e;lia
theorem cE.tuple(I:cE X aa σ H s)(h:V0 X.K H a xs):∃its:List Te,bJ xs its/\IsTup s.heap a its.toArray/\xs.length<=sizeLine:=by
 rcases h with h|⟨o,its,n,b,hc,hs,c,r⟩
 ·obtain⟨z,its,r,p⟩:=h.ok I.hok
  exact⟨its,r,p,z⟩
 ·refine ⟨its.toList,r,⟨o,I.kIn a o b,hc,n,by simpa using hs⟩,?_⟩
  have e:=r.length;simp only[Et] at e;lia
theorem cE.list_inj(I:cE X aa σ H s)(h:WT X.K H a xs)(h':WT X.K H a ys):xs=ys:=by
 obtain⟨its,r,⟨o,n,e,_,_,d⟩,_⟩:=I.list h;obtain⟨its',r',⟨o',f,b,_,_,d'⟩,_⟩:=I.list h';rw[e] at b;cases b;rw[d] at d';injection d' with c _;have:its=its':=by simpa using congrArg Se c
 subst this;exact r.inj r'
theorem cE.tuple_inj(I:cE X aa σ H s)(h:V0 X.K H a xs)(h':V0 X.K H a ys):xs=ys:=by
 obtain⟨its,r,⟨o,e,_,n,d⟩,_⟩:=I.tuple h;obtain⟨its',r',⟨o',b,_,f,d'⟩,_⟩:=I.tuple h';rw[e] at b;cases b;rw[d] at d';injection d' with c _;have:its=its':=by simpa using congrArg Se c
 subst this;exact r.inj r'
end
abbrev Cx.wish(X:Cx)(E:Te->Ah->Prop):Cx:={X with xe:=E}
abbrev Cx.nox(X:Cx):Cx:=X.wish λ_ _=>False
theorem Cx.Ok.wish{X:Cx}(ok:X.Ok)(E:Te->Ah->Prop):(X.wish E).Ok:=
 ⟨ok.mod,ok.kind,ok.glob,ok.blt,ok.above,ok.inj,ok.has,ok.cab,ok.hd,ok.frames,ok.stk,ok.exf,ok.bs,ok.bsz,ok.noex,ok.exfs,ok.funs,ok.frf⟩
theorem Cx.Ok.unwish{X:Cx}{E:Te->Ah->Prop}(ok:(X.wish E).Ok):X.Ok:=
 ⟨ok.mod,ok.kind,ok.glob,ok.blt,ok.above,ok.inj,ok.has,ok.cab,ok.hd,ok.frames,ok.stk,ok.exf,ok.bs,ok.bsz,ok.noex,ok.exfs,ok.funs,ok.frf⟩
section
variable{X:Cx}{aa:List (Tf×Tq)}{σ:St}{H:Hp}{s:Ah}{E:Te->Ah->Prop}
theorem cE.wish(I:cE X aa σ H s)(E:Te->Ah->Prop):cE (X.wish E) aa σ H s:=⟨I.ok.wish E,I.os,I.bare,I.base,I.loc,I.cell,I.free,I.freeC,I.pin,I.hok,I.len⟩
theorem cE.unwish(I:cE (X.wish E) aa σ H s):cE X aa σ H s:=⟨I.ok.unwish,I.os,I.bare,I.base,I.loc,I.cell,I.free,I.freeC,I.pin,I.hok,I.len⟩
theorem SP.unwish{D:EA}{f:Flow}{s':Ah}(h:SP (X.wish E) aa D f s'):SP X aa D f s':=by
 cases f with
 |next=>obtain⟨a,H',I,q⟩:=h;exact⟨a,H',I.unwish,q⟩
 |brk=>obtain⟨a,H',I,q⟩:=h;exact⟨a,H',I.unwish,q⟩
 |cont=>obtain⟨a,H',I,q⟩:=h;exact⟨a,H',I.unwish,q⟩
 |ret u=>obtain⟨v,a,H',I,r,q⟩:=h;exact⟨v,a,H',I.unwish,r,q⟩
theorem OK.nox{st:List Tt}{t:TS}(h:OK X.nox st t):OK X st t:=λaa s σ H D I hw=>
 Az (h aa s σ H D (I.wish _) hw) (λ_ _ q=>q.unwish) λ_ _ z=>Gw z
end
section
variable{X:Cx}{st:Tt}{rest:List Tt}{t u:TS}{e:Tj}{te:TE}{pos:Pos}
def oK:TS:=λD σ H=>D.nx σ H
def tSeq(t u:TS):TS:=λD σ H=>t {D with nx:=u D} σ H
theorem DJ:OK X [] oK:=λ_ _ σ H _ I h=>Md ⟨σ,H,I,h⟩
theorem HG(h1:PS X st t)(h2:OK X rest u):OK X (st::rest) (tSeq t u):=by
 intro aa s σ H D I h;refine wpAny_execs_cons (ZB (h1 aa s σ H {D with nx:=u D} I h) λf s1 q=>?_);cases f with
 |next=>
  obtain⟨a,H',b,q⟩:=q;exact h2 aa s1 a H' D b q
 |ret v=>exact q
 |brk=>exact q
 |cont=>exact q
theorem cE.quiet{aa:List (Tf×Tq)}{σ:St}{H:Hp}{s:Ah}(I:cE X aa σ H s):interactive X.env=false:=by simp[interactive,I.ok.kind]
def pC(te:TE):TS:=λD σ H=>te σ H λ_ H1=>D.nx σ H1
theorem DI(a:PE X e te)(hs:Gm e none pos.line X.env=pure false:=by rfl):PS X (.Expr e pos) (pC te):=by intro aa s σ H D I h;exact wpAny_Expr_any (ZB (a aa s σ H _ I h) λv s1 ⟨x,H1,b,c,q1⟩=>⟨σ,H1,b,q1⟩) I.quiet hs
def tRet(te:TE):TS:=λD σ H=>te σ H D.rt
theorem Xl(b:PE X e te):PS X (.Return (some e) pos) (tRet te):=by intro aa s σ H D I h;exact wpAny_Return_some (ZB (b aa s σ H _ I h) λv s1 ⟨x,H1,c,a,q1⟩=>⟨x,σ,H1,c,a,q1⟩)
def tIfS(c:TT)(t u:TS):TS:=λD σ H=>c σ H λb H1=>if b=true then t D σ H1 else u D σ H1
theorem Yi{c:Tj}{a b:List Tt}{tc:TT}(hc:PT X c tc)(f:OK X a t)(hb:OK X b u):PS X (.If c a b pos) (tIfS tc t u):=by
 intro aa s σ H D I h;refine wpAny_If (ZB (hc aa s σ H _ I h) λd s1 ⟨H1,e,q1⟩=>?_);cases d with
 |true=>exact f aa s1 σ H1 D e q1
 |false=>exact hb aa s1 σ H1 D e q1
end
abbrev TG:=V->St->Hp->(St->Hp->Prop)->Prop
abbrev AM:=List V->St->Hp->(St->Hp->Prop)->Prop
def PG(X:Cx)(b:Tj)(t:TG):Prop:=
 ∀(aa:List (Tf×Tq)) (s:Ah) (σ:St) (H:Hp) (v:V) (u:Te) (Q:St->Hp->Prop),cE X aa σ H s->bO v u->t v σ H Q->
  Tg (Th X.prog X.w) X.A (assign b X.env u) (λ_ s'=>∃a H',cE X aa a H' s'/\Q a H') X.xe s
def CD(X:Cx)(c:List Tj)(t:AM):Prop:=
 ∀(aa:List (Tf×Tq)) (s:Ah) (σ:St) (H:Hp) (vs:List V) (b:List Te) (Q:St->Hp->Prop),cE X aa σ H s->bJ vs b->t vs σ H Q->
  Tg (Th X.prog X.w) X.A (Tv ((Tk c X.env).map (·.2)) b) (λ_ s'=>∃a H',cE X aa a H' s'/\Q a H') X.xe s
abbrev TSet:=V->V->V->Hp->(Hp->Prop)->Prop
def PSet(X:Cx)(t:TSet):Prop:=
 ∀(aa:List (Tf×Tq)) (s:Ah) (σ:St) (H:Hp) (o i v:V) (a b u:Te) (Q:Hp->Prop),cE X aa σ H s->bO o a->bO i b->bO v u->t o i v H Q->
  Tg (Th X.prog X.w) X.A (setItem a b u) (λ_ s'=>∃H',cE X aa σ H' s'/\Q H') X.xe s
section
variable{X:Cx}{pos:Pos}
def GL(i:Nat):TG:=λv σ H Q=>Q (σ.set i (some v)) H
theorem N4{i:Nat}{x:Ti}(c:X.N.Nodup)(hi:X.N[i]?=some x)(a:AB X.env.scope x)(b:X.fn x=true∨X.env.scope.names.lookup x=some .local:=by first|exact .inl rfl|exact .inr rfl|assumption):PG X (.Name x pos) (GL i):=by intro aa s σ H v u Q I r h;exact Gx (X5 I c hi a r (λs' d=>⟨_,H,d,h⟩) b)
def gNil:AM:=λvs σ H Q=>vs=[]/\Q σ H
def lF(t:TG)(u:AM):AM:=λvs σ H Q=>∃v r,vs=v::r/\t v σ H λa H'=>u r a H' Q
theorem DA:CD X [] gNil:=by intro aa s σ H vs a Q I r h;obtain⟨e,h⟩:=h;subst e;cases r;exact Ig ⟨σ,H,I,h⟩
theorem QY{e:Tj}{es:List Tj}{t:TG}{u:AM}(h1:PG X e t)(h2:CD X es u)(hs:(Tk (e::es) X.env).map (·.2)=assign e X.env::(Tk es X.env).map (·.2):=by rfl):CD X (e::es) (lF t u):=by
 intro aa s σ H vs g Q I r h;obtain⟨v,f,c,h⟩:=h;subst c;cases r with
 |cons r b=>
  rw[hs];refine Ej (ZB (h1 aa s σ H _ _ _ I r h) λ_ s1 ⟨a,H1,d,q1⟩=>?_);exact h2 aa s1 a H1 _ _ Q d b q1
def gTup(K:As)(n:Nat)(t:AM):TG:=λv σ H Q=>∃a xs,v=.ref a/\V0 K H a xs/\xs.length=n/\t xs σ H Q
theorem oV{es:List Tj}{k:Nat}{t:AM}{n:Nat}(hc:X.calm=true)(h:CD X es t)(j:(Tk es X.env).length=n:=by rfl)(c:(Tk es X.env).findIdx? (·.1)=none:=by rfl):PG X (.Tuple es k pos) (gTup X.K n t):=by intro aa s σ H v u Q I r hw;obtain⟨a,xs,l,i,hl,hw⟩:=hw;subst l;cases r;obtain⟨its,d,g,p⟩:=I.tuple i;refine assign_Tuple_tuple (I.ok.hd hc) g (by simp[j,<-hl,d.length]) c λh' f=>?_;have m:cE X aa σ H {s with heap:=h'}:=I.kept (t':=s.toks) λb o e=>f b o (Bk (Aq e)) e;exact h aa _ σ H xs _ Q m (by simpa using d) hw
def gSub(to a:TE)(t:TSet):TG:=λv σ H Q=>to σ H λo H1=>a σ H1 λi H2=>t o i v H2 λb=>Q σ b
theorem oE{o i:Tj}{to c:TE}{t:TSet}(g:PE X o to)(hi:PE X i c)(hs:PSet X t)(j:∀v,assign (.Subscript o i pos) X.env v=(do
   let a<-Mc [v] (eval o X.env)
   let b<-Mc [v,a] (eval i X.env)
   Mb pos
   Mc [v,a,b] (setItem a b v)
   release [v,a,b] []):=by intro _;rfl):PG X (.Subscript o i pos) (gSub to c t):=by
 intro aa s σ H v u Q I r h;rw[j];refine Ac (Cn (ZB (g aa s σ H _ I h) λa s1 ⟨x,H1,m,f,q1⟩=>?_));refine Ac (Cn (ZB (hi aa s1 σ H1 _ m q1) λb d ⟨y,H2,l,e,q2⟩=>?_));refine Ac (Ea (Ac (Cn (ZB (hs aa d σ H2 x y v a b u _ l f e r q2) λ_ p ⟨n,k,q3⟩=>?_))));exact wpAny_release ⟨σ,n,k,q3⟩
def tAsg(te:TE)(g:TG):TS:=λD σ H=>te σ H λx H1=>g x σ H1 D.nx
theorem JQ{tg e:Tj}{te:TE}{g:TG}(c:PE X e te)(b:PG X tg g)(hs:Fp [tg] e pos.line X.env=pure false:=by rfl)(hw:Fq [tg] e X.env=pure none:=by rfl)(h1:(Tk [tg] X.env).map (·.2)=[assign tg X.env]:=by rfl):PS X (.Assign [tg] e pos) (tAsg te g):=by intro aa s σ H D I h;refine wpAny_Assign_stores (ZB (c aa s σ H _ I h) λv s1 ⟨x,H1,d,a,q1⟩=>?_) hs hw;rw[h1];exact ZB (b aa s1 σ H1 x v _ d a q1) λ_ f q=>q
theorem dH{i:Nat}{x:Ti}{e:Tj}{te:TE}{bp:Pos}(f:X.N.Nodup)(hi:X.N[i]?=some x)(b:AB X.env.scope x)(d:PE X e te)(hs:Gm e (some (.Name x bp)) pos.line X.env=pure false:=by rfl)(c:X.fn x=true∨X.env.scope.names.lookup x=some .local:=by first|exact .inl rfl|exact .inr rfl|assumption):PS X (.Assign [.Name x bp] e pos) (tAsg te (GL i)):=by intro aa s σ H D I h;refine wpAny_Assign_Name (ZB (d aa s σ H _ I h) λv s1 ⟨y,H1,j,a,q1⟩=>?_) hs;exact X5 j f hi b a (λk g=>⟨_,H1,g,q1⟩) c
def tPar(i j:Nat)(ta:TA):TS:=λD σ H=>ta σ H λvs H1=>∃v w,vs=[v,w]/\D.nx ((σ.set i (some v)).set j (some w)) H1
theorem nM{i j:Nat}{x y:Ti}{a b:Tj}{ta:TA}{k g pt:Pos}{kt k2 pt2}(hc:X.calm=true)(t:X.N.Nodup)(hi:X.N[i]?=some x)(F:X.N[j]?=some y)(m:i≠j)(r:X.env.scope.names.lookup x=some .local)(n:X.env.scope.names.lookup y=some .local)(G:PA X [a,b] ta)(hw:Fq [.Tuple [.Name x k,.Name y g] kt pt] (.Tuple [a,b] k2 pt2) X.env=pure (some [x,y]))(hs:Fp [.Tuple [.Name x k,.Name y g] kt pt] (.Tuple [a,b] k2 pt2) pos.line X.env=pure false:=by rfl):PS X (.Assign [.Tuple [.Name x k,.Name y g] kt pt] (.Tuple [a,b] k2 pt2) pos) (tPar i j ta):=by
 intro aa s σ H D I h;rw[exec_Assign_arm];refine Ac (Ea ?_);rw[hs];refine Ac (An ?_);rw[if_neg (by decide)];refine Ac (Tuple_ (ZB (G _ aa s σ H _ I h) λz s1 ⟨vs,H1,O,C,q1⟩=>?_));obtain⟨v,w,J,q1⟩:=q1;subst J;obtain⟨d,c,rfl,B,f⟩:∃d c,z=[d,c]/\bO v d/\bO w c:=by
  cases C with
  |cons p q=>
   cases q with
   |cons p' E=>
    cases E;exact⟨_,_,rfl,p,p'⟩
 refine Dd ?_ (by show 2<=sizeLine;decide);have M:cE X aa σ H1 {s1 with heap:=s1.heap.push {cls:=.type "tuple",data:=.seq [d,c].toArray}}:=O.kept (t':=s1.toks) λb o e=>Ae _ e;rw[hw];refine Ac (An ?_);show Tg (Th X.prog X.w) X.A (do rule "assign.swapped-stores";let items<-Jk (.ref s1.heap.objs.size) 2 none;Tv [λv=>Ja X.env y v,λv=>Ja X.env x v] items.reverse;pure Flow.next) _ _ _;refine Ac (Gy (Ac (Ol (items:= #[d,c]) (I.ok.hd hc) (Kr s1.heap _) λh' l=>?_)));have L:=M.kept (h':=h') (t':=s1.toks) λb o e=>l b o (Bk (Aq e)) e;show Tg _ _ (Tv [λv=>Ja X.env y v,λv=>Ja X.env x v] [c,d]>>=λ_=>pure Flow.next) _ _ _;refine Ac (Ej (Iq (X5 L t F (.inl n) f (λQ K=>?_) (.inr n))));refine Ej (Iq (X5 K t hi (.inl r) B (λP u=>Ig (An ?_)) (.inr r)));rw[Ek _ _ (Dn m)] at u;exact⟨_,H1,u,q1⟩
end
section
variable{X:Cx}{pos:Pos}
def Xw(c:TT)(tb:TS):TS:=λD σ H=>∃W:Nat->St->Hp->Prop,(∃m,W m σ H)/\∀m σ H,W m σ H->
 c σ H λb H1=>if b=true then∃N:St->Hp->Prop,(∀a H',N a H'->∃d,d<m/\W d a H')/\tb {D with nx:=N,ct:=N,bk:=D.nx} σ H1 else D.nx σ H1
theorem jR{c:Tj}{body:List Tt}{tc:TT}{tb:TS}(o:Qg (Th X.prog X.w) X.A X.env X.xe)(hc:PT X c tc)(hb:OK X body tb):PS X (.While c body [] pos) (Xw tc tb):=by
 intro aa s σ H D I h;obtain⟨W,⟨u,w0⟩,turn⟩:=h;refine wpAny_While (codeAny_whileLoop (λn s'=>∃e H',cE X aa e H' s'/\W n e H') ?_ u ⟨σ,H,I,w0⟩);rintro n s1 ⟨d,H1,x,r⟩;refine Fz o (ZB (hc aa s1 d H1 _ x (turn n d H1 r)) λb t ⟨H2,q,q2⟩=>?_);cases b with
 |true=>
  obtain⟨N,p,q2⟩:=q2;rw[if_pos rfl];refine Fz o (ZB (hb aa t d H2 _ q q2) λf y q3=>?_);cases f with
  |next=>
   obtain⟨a,g,m,j⟩:=q3;obtain⟨k,l,i⟩:=p a g j;exact⟨k,l,a,g,m,i⟩
  |cont=>
   obtain⟨a,g,m,j⟩:=q3;obtain⟨k,l,i⟩:=p a g j;exact⟨k,l,a,g,m,i⟩
  |brk=>exact q3
  |ret v=>exact q3
 |false=>
  rw[if_neg Dj];exact Md ⟨d,H2,q,q2⟩
end
structure It where
 go:Nat->Hp->Prop
 yld:Nat->Hp->V->Hp->Prop
 stop:Nat->Hp->Prop
def O8(X:Cx)(aa:List (Tf×Tq))(H:Hp)(b:Tf):Prop:=
 H b=none/\b≠X.env.locals/\b∉X.fs/\(b∈X.ex∨X.s₀.heap.objs.size<=b)/\(∀x c,X.env.cells.lookup x=some c->c≠b)/\∀p∈X.pn++aa,p.1≠b
theorem cE.fpOk{X:Cx}{aa:List (Tf×Tq)}{σ:St}{H H':Hp}{s:Ah}{b:Tf}(I:cE X aa σ H s)(hb:s.heap.objs.size<=b)(d:H' b=none):O8 X aa H' b:=by
 refine⟨d,Go (Ba I.lt hb),I.nofs hb,.inr (Ce I.sz hb),λx c e z=>?_,λp a z=>?_⟩
 ·obtain⟨v,q⟩:=I.cell x c e
  exact absurd (Ba q.lt (by rw[z];exact hb)) (Cm _)
 ·exact absurd (Ba (Aq (I.pin p a).1) (by rw[z];exact hb)) (Cm _)
structure F4(P:Br)(w:Tl)(K:As)(tg:Tj)(J:It)(fp:List Tf)(it:Tf)(tn:Nat->Tp->Prop):Prop where
 mem:it∈fp
 obj:∀i h,tn i h->∀b∈fp,∃o,h.get? b=some o/\∀v,o.data≠ .cell v
 keep:∀i h h',tn i h->(∀b∈fp,∀o,h.get? b=some o->h'.get? b=some o)->tn i h'
 item:∀(X:Cx),X.prog=P->X.w=w->X.K=K->X.calm=true->∀(i:Nat) (aa:List (Tf×Tq)) (s:Ah) (σ:St) (H:Hp) (E:Te->Ah->Prop),cE X aa σ H s->(∀b∈fp,O8 X aa H b)->tn i s.heap->J.go i H->
  Tg (Th P w) X.A (pyNext (.ref it)) (λr s1=>∃u,r=some u∧
   Tg (Th P w) X.A (Fi tg (.ref it) u) (λ_ s2=>∃x H',cE X aa σ H' s2/\bO x u/\J.yld i H x H'/\tn (i+1) s2.heap/\∀b∈fp,H' b=none) E s1) E s
 done:∀(X:Cx),X.prog=P->X.w=w->X.K=K->X.calm=true->∀(i:Nat) (aa:List (Tf×Tq)) (s:Ah) (σ:St) (H:Hp) (E:Te->Ah->Prop),cE X aa σ H s->(∀b∈fp,O8 X aa H b)->tn i s.heap->J.stop i H->
  Tg (Th P w) X.A (pyNext (.ref it)) (λr s1=>r=none/\cE X aa σ H s1) E s
 self:∀(A:Df) (i:Nat) (s:Ah) (Q:Te->Ah->Prop) (E:Te->Ah->Prop),tn i s.heap->Q (.ref it) s->Tg (Th P w) A (Qh (.ref it)) Q E s
abbrev TI:=St->Hp->(It->Hp->Prop)->Prop
def PIE(X:Cx)(aa:List (Tf×Tq))(σ:St)(tg:Tj)(R:It->Hp->Prop)(a:Te)(d:Ah):Prop:=
 ∃(it:Tf) (fp:List Tf) (c:Nat->Tp->Prop) (J:It) (H':Hp),a=.ref it/\cE X aa σ H' d/\F4 X.prog X.w X.K tg J fp it c/\c 0 d.heap/\(∀b∈fp,O8 X aa H' b)/\R J H'
def PI(X:Cx)(tg iter:Tj)(a:TI):Prop:=
 ∀(aa:List (Tf×Tq)) (s:Ah) (σ:St) (H:Hp) (R:It->Hp->Prop),cE X aa σ H s->a σ H R->
  Tg (Th X.prog X.w) X.A (eval iter X.env) (λv s1=>Tg (Th X.prog X.w) X.A (Qh v) (PIE X aa σ tg R) X.xe s1) X.xe s
theorem Ul{M:Model}{A:Df}{E:Te->Ah->Prop}{s:Ah}{tg:Tj}{it:Tf}{u:Te}{o:Tq}{n:String}{vs:Array Te}{Q:Unit->Ah->Prop}(b:s.heap.get? it=some o)(hc:o.cls= .type n)(d:o.data= .fields vs)(c:["enumerate","zip","dict_itemiterator","dict_reverseitemiterator","odict_iterator","itertools.zip_longest","itertools.pairwise"].contains n=false)(a:Q () s):Tg M A (Fi tg (.ref it) u) Q E s:=by
  unfold Fi;cases tg<;>first
    |exact An a
    |(cases u<;>first
        |exact An a
        | (refine Ac (wpAny_load b ?_)
           rw[hc,d];show Tg M A (if(["enumerate","zip","dict_itemiterator","dict_reverseitemiterator","odict_iterator","itertools.zip_longest","itertools.pairwise"].contains n&&vs[0]? ==some (rawInt _))=true then _ else _) Q E s;rw[if_neg (by intro h;rw[c,Bool.false_and] at h;cases h)];exact An a))
noncomputable def Itl(K:As)(a:Tf):It:=
 ⟨λi H=>∃xs x,WT K H a xs/\xs[i]?=some x,λi H x H'=>H'=H/\∀xs,WT K H a xs->xs[i]?=some x,λi H=>∃xs,WT K H a xs/\xs.length<=i⟩
noncomputable def Itt(K:As)(a:Tf):It:=
 ⟨λi H=>∃xs x,V0 K H a xs/\xs[i]?=some x,λi H x H'=>H'=H/\∀xs,V0 K H a xs->xs[i]?=some x,λi H=>∃xs,V0 K H a xs/\xs.length<=i⟩
noncomputable def Itr(lo:Int)(n:Nat):It:=⟨λi _=>i<n,λi H x H'=>H'=H/\x=.int (lo+i),λi _=>n<=i⟩
theorem B6{P:Br}{w:Tl}{K:As}{tg:Tj}(a it:Tf):F4 P w K tg (Itl K a) [it] it (λi h=>h.IsListIter it a i) where
 mem:=by simp
 obj:=λi h st b hb=>by
  have e:b=it:=by simpa using hb
  subst e;obtain⟨o,e,c,d⟩:=st;exact⟨o,e,λv z=>by rw[d] at z;cases z⟩
 keep:=λi h h' st k=>st.at λo e=>k it (by simp) o e
 item:=by intro X q hw r hc i aa s σ H E I j st n;subst q hw r;obtain⟨xs,x,g,m⟩:=n;obtain⟨its,l,p,D⟩:=I.list g;obtain⟨u,G,C⟩:=l.get m;obtain⟨A,f1,f2,f3,y,t⟩:=j it (by simp);refine Ls st p.isList (x:=u) (by simpa using G) λh' f B=>?_;have L:cE X aa σ H {s with heap:=h'}:=I.turned (t':=s.toks) (λb o hb e=>(B.2 b hb).trans e) A f1 f3 y t;obtain⟨o,e,c,d⟩:=id f;exact⟨u,rfl,Ul (s:={s with heap:=h'}) e c d (by decide) ⟨x,H,L,C,⟨rfl,λys F=>by rw[I.list_inj F g];exact m⟩,f,λb hb=>(j b hb).1⟩⟩
 done:=by intro X q hw r hc i aa s σ H E I j st n;subst q hw r;obtain⟨xs,g,m⟩:=n;obtain⟨its,l,p,D⟩:=I.list g;obtain⟨A,f1,f2,f3,y,t⟩:=j it (by simp);have hl:=l.length;exact Me (I.ok.hd hc) st p.isList (by simp;lia) λh' J=>⟨rfl,I.turned (t':=s.toks) (λb o hb e=>J b o hb e) A f1 f3 y t⟩
 self:=λ_ _ _ _ _ st h=>wpAny_pyIter_listiter st h
theorem FX{P:Br}{w:Tl}{K:As}{tg:Tj}(a it:Tf):F4 P w K tg (Itt K a) [it] it (λi h=>h.IsTupleIter it a i) where
 mem:=by simp
 obj:=λi h st b hb=>by
  have e:b=it:=by simpa using hb
  subst e;obtain⟨o,e,c,d⟩:=st;exact⟨o,e,λv z=>by rw[d] at z;cases z⟩
 keep:=λi h h' st k=>st.at λo e=>k it (by simp) o e
 item:=by intro X q hw r hc i aa s σ H E I j st n;subst q hw r;obtain⟨xs,x,g,m⟩:=n;obtain⟨its,l,p,D⟩:=I.tuple g;obtain⟨u,G,C⟩:=l.get m;obtain⟨A,f1,f2,f3,y,t⟩:=j it (by simp);refine wpAny_pyNext_tuple_item st (show s.heap.IsTuple a its.toArray from p) (x:=u) (by simpa using G) λh' f B=>?_;have L:cE X aa σ H {s with heap:=h'}:=I.turned (t':=s.toks) (λb o hb e=>(B.2 b hb).trans e) A f1 f3 y t;obtain⟨o,e,c,d⟩:=id f;exact⟨u,rfl,Ul (s:={s with heap:=h'}) e c d (by decide) ⟨x,H,L,C,⟨rfl,λys F=>by rw[I.tuple_inj F g];exact m⟩,f,λb hb=>(j b hb).1⟩⟩
 done:=by intro X q hw r hc i aa s σ H E I j st n;subst q hw r;obtain⟨xs,g,m⟩:=n;obtain⟨its,l,p,D⟩:=I.tuple g;obtain⟨A,f1,f2,f3,y,t⟩:=j it (by simp);have hl:=l.length;exact wpAny_pyNext_tuple_end (I.ok.hd hc) st (show s.heap.IsTuple a its.toArray from p) (by simp;lia) λh' J=>⟨rfl,I.turned (t':=s.toks) (λb o hb e=>J b o hb e) A f1 f3 y t⟩
 self:=λ_ _ _ _ _ st h=>wpAny_pyIter_tupleiter st h
theorem FW{P:Br}{w:Tl}{K:PySem.W.Frag}{tg:Tj}(it:Tf)(lo:Int)(n:Nat):F4 P w K tg (Itr lo n) [it] it (λi h=>IsRangeIter h it (lo+(i:Nat)*1) ((n:Int) - (i:Nat)) 1) where
 mem:=by simp
 obj:=λi h st b hb=>by
  have e:b=it:=by simpa using hb
  subst e;exact⟨_,st,λv z=>by have p:Data.fields _=Data.cell v:=z;cases p⟩
 keep:=λi h h' st k=>k it (by simp) _ st
 item:=by intro X f hw g hc i aa s σ H E I c st d;subst f hw g;obtain⟨m,f1,f2,f3,l,j⟩:=c it (by simp);have W:=Walks.range (prog:=X.prog) (w:=X.w) (I.ok.hd hc) it lo 1 n;refine W.item i s _ _ d st λv h' tk r a q=>?_;obtain⟨t,rfl⟩:=r;have x:cE X aa σ H {s with heap:=h',toks:=tk}:=I.turned (λb o hb e=>q b o (by simpa using hb) e) m f1 f3 l j;refine⟨_,rfl,Ul (s:={s with heap:=h',toks:=tk}) (n:= "range_iterator") a rfl rfl (by decide) ⟨.int (lo+i),H,x,⟨t,?_⟩,⟨rfl,rfl⟩,a,λb hb=>(c b hb).1⟩⟩;rw[Int.mul_one]
 done:=by intro X f hw g hc i aa s σ H E I c st d;subst f hw g;obtain⟨m,f1,f2,f3,l,j⟩:=c it (by simp);exact wpAny_pyNext_range_end (I.ok.hd hc) st (by have:n<=i:=d;lia) λh' u=>⟨rfl,I.turned (t':=s.toks) (λb o hb e=>u b o hb e) m f1 f3 l j⟩
 self:=λ_ _ _ _ _ st h=>wpAny_pyIter_rangeiter st h
section
variable{X:Cx}{tg:Tj}
def Vk(K:As)(tl:TE):TI:=λσ H R=>tl σ H λx H1=>∃a,x=.ref a/\(∃xs,WT K H1 a xs)/\R (Itl K a) H1
def iTup(K:As)(tl:TE):TI:=λσ H R=>tl σ H λx H1=>∃a,x=.ref a/\(∃xs,V0 K H1 a xs)/\R (Itt K a) H1
theorem iV{l:Tj}{tl:TE}(hl:PE X l tl):PI X tg l (Vk X.K tl):=by
 intro aa s σ H R I h;refine ZB (hl aa s σ H _ I h) λv s1 ⟨x,H1,c,d,q1⟩=>?_;obtain⟨a,e,⟨xs,f⟩,q⟩:=q1;subst e;cases d;obtain⟨its,g,p,i⟩:=c.list f;refine Gz p.isList ?_;refine⟨s1.heap.objs.size,[s1.heap.objs.size],_,_,H1,rfl,c.kept (t':=s1.toks) λb o e=>Ae _ e,B6 a _,⟨_,Ay _ rfl,rfl,rfl⟩,λb hb=>?_,q⟩;have e:b=s1.heap.objs.size:=by simpa using hb
 subst e;exact c.fpOk (Ak _) (c.hok.fresh (Ak _))
theorem nC{l:Tj}{tl:TE}(hl:PE X l tl):PI X tg l (iTup X.K tl):=by
 intro aa s σ H R I h;refine ZB (hl aa s σ H _ I h) λv s1 ⟨x,H1,c,d,q1⟩=>?_;obtain⟨a,e,⟨xs,f⟩,q⟩:=q1;subst e;cases d;obtain⟨its,g,p,i⟩:=c.tuple f;refine Hq (show s1.heap.IsTuple a its.toArray from p) ?_;refine⟨s1.heap.objs.size,[s1.heap.objs.size],_,_,H1,rfl,c.kept (t':=s1.toks) λb o e=>Ae _ e,FX a _,⟨_,Ay _ rfl,rfl,rfl⟩,λb hb=>?_,q⟩;have e:b=s1.heap.objs.size:=by simpa using hb
 subst e;exact c.fpOk (Ak _) (c.hok.fresh (Ak _))
theorem HI{aa:List (Tf×Tq)}{σ:St}{H:Hp}{s:Ah}{R:It->Hp->Prop}{E:Te->Ah->Prop}{lo hi:Int}{t u v:Tx}{tk:Nat}(I:cE X aa σ H s)(h1: -(2 ^ 62)<=lo)(h2:lo<2 ^ 62)(d: -(2 ^ 62)<=hi)(c:hi<2 ^ 62)(q:R (Itr lo (hi - lo).toNat) H):Tg (Th X.prog X.w) X.A (Qh (.ref s.heap.objs.size)) (PIE X aa σ tg R) E {s with heap:=s.heap.push {cls:=.type "range",data:=.fields #[.int lo t,.int hi u,.int 1 v]},toks:=tk}:=by
 refine wpAny_pyIter_range (Sv ..) (small_one h1 h2 d c) ?_;have a:cE X aa σ H {s with heap:=s.heap.push {cls:=.type "range",data:=.fields #[.int lo t,.int hi u,.int 1 v]},toks:=tk}:=I.kept λb o e=>Ae _ e;refine⟨(s.heap.push {cls:=.type "range",data:=.fields #[.int lo t,.int hi u,.int 1 v]}).objs.size,[(s.heap.push {cls:=.type "range",data:=.fields #[.int lo t,.int hi u,.int 1 v]}).objs.size],_,_,H,rfl,a.kept (t':=tk) λb o e=>Ae _ e,FW _ lo (hi - lo).toNat,?_,λb hb=>?_,q⟩
 ·have g : lo + ((0 : Nat) : Int) * 1 = lo := by simp
  have f:(((hi - lo).toNat:Nat):Int) - ((0:Nat):Int)=Hr lo hi 1:=by rw[rangeSize_one];split<;>lia
  show IsRangeIter _ _ (lo+((0:Nat):Int)*1) ((((hi - lo).toNat:Nat):Int) - ((0:Nat):Int)) 1;rw[g,f];exact Ay _ rfl
 ·have e : b = (s.heap.push { cls := .type "range",data := .fields #[.int lo t,.int hi u,.int 1 v] }).objs.size := by simpa using hb
  subst e;exact a.fpOk (Ak _) (a.hok.fresh (Ak _))
def fZ(ta:TA):TI:=λσ H R=>ta σ H λvs H1=>∃j:Int,vs=[.int j]/\ -(2 ^ 62)<=j/\j<2 ^ 62/\R (Itr 0 j.toNat) H1
def nG(ta:TA):TI:=λσ H R=>ta σ H λvs H1=>∃i j:Int,vs=[.int i,.int j]/\(-(2 ^ 62)<=i/\i<2 ^ 62/\ -(2 ^ 62)<=j/\j<2 ^ 62)/\R (Itr i (j - i).toNat) H1
theorem BL{a:Tj}{ta:TA}{p pos:Pos}(f:Gl X "range")(d:X.mg "range"=none)(g:PA X [a] ta)(hs:Aj [a] X.env=[(false,eval a X.env)]:=by rfl):PI X tg (.Call (.Name "range" p) [a] [] pos) (fZ ta):=by
 intro aa s σ H R I h;refine Call_ (RM I f d boot_range (El (ZB (g pos aa s σ H _ I h) λk s1 ⟨vs,H1,i,c,q1⟩=>?_) hs rfl));obtain⟨j,e,q1,q2,q⟩:=q1;subst e;cases c with
 |cons r b=>
  cases b;obtain⟨t,rfl⟩:=r;exact call_range_1 (HI i (by lia) (by lia) q1 q2 (by simpa using q))
theorem BM{a b:Tj}{ta:TA}{p pos:Pos}(l:Gl X "range")(k:X.mg "range"=none)(m:PA X [a,b] ta)(hs:Aj [a,b] X.env=[(false,eval a X.env),(false,eval b X.env)]:=by rfl)(c:Aj [b] X.env=[(false,eval b X.env)]:=by rfl):PI X tg (.Call (.Name "range" p) [a,b] [] pos) (nG ta):=by
 intro aa s σ H R I h;refine Call_ (RM I l k boot_range (El (ZB (m pos aa s σ H _ I h) λo s1 ⟨vs,H1,n,f,q1⟩=>?_) (by rw[hs,c]) (by rw[c];rfl)));obtain⟨i,j,e,⟨q1,q2,q3,g⟩,q⟩:=q1;subst e;cases f with
 |cons r d=>
  cases d with
  |cons r' d=>
   cases d;obtain⟨t,rfl⟩:=r;obtain⟨t',rfl⟩:=r';exact call_range_2 (HI n q1 q2 q3 g q)
def tFor(d:TI)(g:TG)(tb:TS):TS:=λD σ H=>d σ H λJ H1=>∃W:Nat->Nat->St->Hp->Prop,(∃m,W 0 m σ H1)/\∀i m σ H,W i m σ H->
 (J.stop i H/\D.nx σ H)∨(J.go i H/\∃N:St->Hp->Prop,(∀a H',N a H'->∃c,c<m/\W (i+1) c a H')/\∀x H',J.yld i H x H'->g x σ H' λb H2=>tb {D with nx:=N,ct:=N,bk:=D.nx} b H2)
noncomputable def RU(fp:List Tf)(h:Tp):List (Tf×Tq):=fp.filterMap λb=>(h.get? b).map λo=>(b,o)
theorem Y2{fp:List Tf}{h:Tp}{b:Tf}{o:Tq}(hb:b∈fp)(e:h.get? b=some o):(b,o)∈RU fp h:=Nt.mpr ⟨b,hb,by rw[e];rfl⟩
theorem BI{fp:List Tf}{h:Tp}{p:Tf×Tq}(a:p∈RU fp h):p.1∈fp/\h.get? p.1=some p.2:=by
 obtain⟨b,hb,e⟩:=Nt.mp a;cases q:h.get? b with
 |none=>rw[q] at e;cases e
 |some o=>
  rw[q] at e;have c:(b,o)=p:=Bw e;subst c;exact⟨hb,q⟩
theorem cE.pinned{aa:List (Tf×Tq)}{σ:St}{H:Hp}{s:Ah}{fp:List Tf}(I:cE X aa σ H s)(g:∀b∈fp,O8 X aa H b)(f:∀b∈fp,∃o,s.heap.get? b=some o/\∀v,o.data≠ .cell v):cE X (aa++RU fp s.heap) σ H s:=
 I.pins_of λp c=>(Cp.mp c).elim (λz=>I.pin p (Av _ z)) λz=>by obtain⟨hb,e⟩:=BI z;obtain⟨h,f1,f2,_⟩:=g p.1 hb;obtain⟨o,a,d⟩:=f p.1 hb;rw[e] at a;cases a;exact⟨e,h,f1,f2,d⟩
theorem cE.unpinned{aa a:List (Tf×Tq)}{σ:St}{H:Hp}{s:Ah}(I:cE X (aa++a) σ H s):cE X aa σ H s:=I.pins_of λp b=>I.pin p (Av _ (Cg _ b))
theorem dE{iter:Tj}{body:List Tt}{O:TI}{g:TG}{tb:TS}{pos:Pos}(B:Qg (Th X.prog X.w) X.A X.env X.xe)(hc:X.calm=true)(hi:PI X tg iter O)(hg:PG X tg g)(hb:OK X body tb)(hs:∀x,To iter X.env x=pure x:=by intro _;rfl):PS X (.For tg iter body [] pos) (tFor O g tb):=by
 intro aa s σ H D I h;refine wpAny_For (ZB (hi aa s σ H _ I h) λv s1 h1=>ZB h1 λitv s2 h2=>?_) hs;obtain⟨it,fp,P,J,H2,e,I2,T,G,f2,W,⟨m0,w0⟩,turn⟩:=h2;subst e;have stat:∀{H':Hp},(∀b∈fp,H' b=none)->∀b∈fp,O8 X aa H' b:=λhn b hb=>⟨hn b hb,(f2 b hb).2⟩;refine codeAny_forLoop_any (λn s'=>∃i j H',cE X aa j H' s'/\P i s'.heap/\(∀b∈fp,H' b=none)/\W i n j H') ?_ m0 ⟨0,σ,H2,I2,G,λb hb=>(f2 b hb).1,w0⟩;rintro n R ⟨i,c,E,S,y,C,w3⟩;rcases turn i n c E w3 with⟨t,qn⟩|⟨go,N,hN,step⟩
 ·refine Fz B (ZB (T.done X rfl rfl rfl hc i aa R c E X.xe S (stat C) y t) λr s4 ⟨K,I4⟩ => ?_)
  subst K;exact Md ⟨c,E,I4,qn⟩
 ·refine Fz B (ZB (T.item X rfl rfl rfl hc i aa R c E X.xe S (stat C) y go) λr s4 ⟨u,K,h4⟩ => ?_)
  subst K;refine Fz B (ZB h4 λ_ Q ⟨x,U,I5,r5,V,q,L⟩=>?_);have M:=I5.pinned (stat L) (T.obj _ _ q);refine Fz B (ZB (hg _ Q c U x u _ M r5 (step x U V)) λ_ s6 ⟨F,H6,I6,q6⟩=>?_);refine Fz B (ZB (hb _ s6 F H6 _ I6 q6) λf s7 p=>?_);have again:∀{a:St} {l:Hp},cE X (aa++RU fp Q.heap) a l s7->N a l->∃m,m<n/\∃i j H',cE X aa j H' s7/\P i s7.heap/\(∀b∈fp,H' b=none)/\W i m j H':=λ{a l} k z=>by obtain⟨m',hm,Z⟩:=hN a l z;refine⟨m',hm,i+1,a,l,k.unpinned,T.keep _ _ _ q λb hb o e=>(k.pin (b,o) (Av _ (Av _ (Y2 hb e)))).1,λb hb=>?_,Z⟩;obtain⟨o,e,d⟩:=T.obj _ _ q b hb;exact(k.pin (b,o) (Av _ (Av _ (Y2 hb e)))).2.1
  cases f with
  |next=>obtain⟨a,l,k,z⟩:=p;exact again k z
  |cont=>obtain⟨a,l,k,z⟩:=p;exact again k z
  |brk=>obtain⟨a,l,k,p⟩:=p;exact⟨a,l,k.unpinned,p⟩
  |ret v=>obtain⟨Y,a,l,k,r7,p⟩:=p;exact⟨Y,a,l,k.unpinned,r7,p⟩
end
abbrev R2:=V->V->Hp->VK->Prop
def WD(X:Cx)(f:Te->Te->Tw Te)(r:R2):Prop:=
 ∀(aa:List (Tf×Tq)) (s:Ah) (σ:St) (H:Hp) (x y:V) (v u:Te) (Q:VK),cE X aa σ H s->bO x v->bO y u->r x y H Q->
  Tg (Th X.prog X.w) X.A (f v u) (EP X aa σ Q) X.xe s
def UnR(X:Cx)(f:Te->Tw Te)(r:V->Hp->VK->Prop):Prop:=
 ∀(aa:List (Tf×Tq)) (s:Ah) (σ:St) (H:Hp) (x:V) (v:Te) (Q:VK),cE X aa σ H s->bO x v->r x H Q->
  Tg (Th X.prog X.w) X.A (f v) (EP X aa σ Q) X.xe s
def ZR(X:Cx)(f:Te)(r:List V->Hp->VK->Prop):Prop:=
 ∀(aa:List (Tf×Tq)) (s:Ah) (σ:St) (H:Hp) (xs:List V) (a:List Te) (Q:VK),cE X aa σ H s->bJ xs a->r xs H Q->
  Tg (Th X.prog X.w) X.A (call f a) (EP X aa σ Q) X.xe s
def tOp(r:R2)(ta tb:TE):TE:=λσ H Q=>ta σ H λx H1=>tb σ H1 λy H2=>r x y H2 Q
def tUn(r:V->Hp->VK->Prop)(ta:TE):TE:=λσ H Q=>ta σ H λx H1=>r x H1 Q
def rI(C:Int->Int->Prop)(g:Int->Int->V):R2:=λx y H Q=>∃i j,x=.int i/\y=.int j/\C i j/\Q (g i j) H
def FE(g:Int->Int->V):R2:=λx y H Q=>∃i j,x=.int i/\y=.int j/\Q (g i j) H
def rU(g:Int->V):V->Hp->VK->Prop:=λx H Q=>∃i,x=.int i/\Q (g i) H
section
variable{X:Cx}{a b c:Tj}{ta tb tc:TE}{pos:Pos}
theorem binT(k:PE X a ta)(hb:PE X b tb){aa:List (Tf×Tq)}{s:Ah}{σ:St}{H:Hp}{R:V->V->Hp->Prop}(I:cE X aa σ H s)(h:ta σ H λx H1=>tb σ H1 λy H2=>R x y H2){Q:Te->Ah->Prop}{f:Te->Te->Tw Te}(j:∀v u e x y H2,cE X aa σ H2 e->bO x v->bO y u->R x y H2->Tg (Th X.prog X.w) X.A (f v u) Q X.xe e):Tg (Th X.prog X.w) X.A (eval a X.env) (λv d=>Tg (Th X.prog X.w) X.A (eval b X.env) (λu c=>Tg (Th X.prog X.w) X.A (f v u) Q X.xe c) X.xe d) X.xe s:=by refine ZB (k aa s σ H _ I h) λv s1 ⟨x,H1,m,i,q1⟩=>?_;refine ZB (hb aa s1 σ H1 _ m q1) λu e ⟨y,H2,l,g,q2⟩=>?_;exact j v u e x y H2 l i g q2
theorem Wo{op:Operator}{r:R2}(f:WD X (Gj op) r)(g:PE X a ta)(hb:PE X b tb):PE X (.BinOp a op b pos) (tOp r ta tb):=by intro aa s σ H Q I h;exact wpAny_BinOp (binT g hb I h λv u c x y H2 i e d q=>f aa c σ H2 x y v u Q i e d q)
theorem mQ{op:UnaryOp}{r:V->Hp->VK->Prop}(c:UnR X (unaryOp op) r)(d:PE X a ta):PE X (.UnaryOp op a pos) (tUn r ta):=by intro aa s σ H Q I h;exact UnaryOp_ (ZB (d aa s σ H _ I h) λv s1 ⟨x,H1,e,b,q1⟩=>c aa s1 σ H1 x v Q e b q1)
theorem opI{f:Te->Te->Tw Te}{C:Int->Int->Prop}{g:Int->Int->Int}(rule:∀(i j:Int) (t u:Tx) (s:Ah) (Q:Te->Ah->Prop) (E:Te->Ah->Prop),C i j->Q (.int (g i j) s.toks) {s with toks:=s.toks+1}->Tg (Th X.prog X.w) X.A (f (.int i t) (.int j u)) Q E s):WD X f (rI C λi j=>.int (g i j)):=by intro aa s σ H x y v u Q I b a h;obtain⟨i,j,rfl,rfl,hc,q⟩:=h;obtain⟨t,rfl⟩:=b;obtain⟨t',rfl⟩:=a;exact rule i j t t' s _ _ hc ⟨.int (g i j),H,I.tok _,⟨_,rfl⟩,q⟩
theorem opI0{f:Te->Te->Tw Te}{g:Int->Int->Int}(rule:∀(i j:Int) (t u:Tx) (s:Ah) (Q:Te->Ah->Prop) (E:Te->Ah->Prop),Q (.int (g i j) s.toks) {s with toks:=s.toks+1}->Tg (Th X.prog X.w) X.A (f (.int i t) (.int j u)) Q E s):WD X f (FE λi j=>.int (g i j)):=by intro aa s σ H x y v u Q I b a h;obtain⟨i,j,rfl,rfl,q⟩:=h;obtain⟨t,rfl⟩:=b;obtain⟨t',rfl⟩:=a;exact rule i j t t' s _ _ ⟨.int (g i j),H,I.tok _,⟨_,rfl⟩,q⟩
theorem opB0{f:Te->Te->Tw Te}{g:Int->Int->Bool}(rule:∀(i j:Int) (t u:Tx) (s:Ah) (Q:Te->Ah->Prop) (E:Te->Ah->Prop),Q (.bool (g i j)) s->Tg (Th X.prog X.w) X.A (f (.int i t) (.int j u)) Q E s):WD X f (FE λi j=>.bl (g i j)):=by intro aa s σ H x y v u Q I b a h;obtain⟨i,j,rfl,rfl,q⟩:=h;obtain⟨t,rfl⟩:=b;obtain⟨t',rfl⟩:=a;exact rule i j t t' s _ _ ⟨.bl (g i j),H,I,rfl,q⟩
def CDiv(i j:Int):Prop:=0<j/\j<1073741824
def CPow(i j:Int):Prop:=0<=j/\j<=1000000/\i.natAbs<2 ^ 64
def CMul(i j:Int):Prop:=(-(2 ^ 64)<i/\i<2 ^ 64)∨(-(2 ^ 64)<j/\j<2 ^ 64)
theorem CMul.ok{i j:Int}(h:CMul i j):IntMulOk i j:=by
 rcases h with⟨h1,h2⟩|⟨h1,h2⟩
 ·exact .of_left (intBits_le_64 h1 h2)
 ·exact .of_right (intBits_le_64 h1 h2)
theorem zHY:WD X (Gj .Add) (FE λi j=>.int (i+j)):=opI0 λ_ _ _ _ _ _ _ q=>add_int q
theorem RT:WD X (Gj .Sub) (FE λi j=>.int (i - j)):=opI0 λ_ _ _ _ _ _ _ q=>sub_int q
theorem iT:WD X (Gj .Mult) (rI CMul λi j=>.int (i*j)):=opI λ_ _ _ _ _ _ _ hc q=>mul_int q hc.ok
theorem JO:WD X (Gj .FloorDiv) (rI CDiv λi j=>.int (i/j)):=opI λi j _ _ _ _ _ hc q=>by have h1:(0:Int)<j:=hc.1;have h2:j<1073741824:=hc.2;exact floordiv_int (by lia) (by rw[Int.fdiv_eq_ediv_of_nonneg i (by lia)];exact q) (.inl (PyProof.noPylong_small (by lia)))
theorem WJ:WD X (Gj .Mod) (rI (λ_ j=>0<j) λi j=>.int (i % j)):=opI λi j _ _ _ _ _ hc q=>by have h1:(0:Int)<j:=hc;exact mod_int' (by lia) (by rw[Int.fmod_eq_emod_of_nonneg i (by lia)];exact q)
theorem lZ:WD X (Gj .Pow) (rI CPow λi j=>.int (i ^ j.toNat)):=opI λ_ _ _ _ _ _ _ hc q=>pow_int_small hc.1 hc.2.1 hc.2.2 q
theorem unI{f:Te->Tw Te}{g:Int->Int}(rule:∀(i:Int) (t:Tx) (s:Ah) (Q:Te->Ah->Prop) (E:Te->Ah->Prop),Q (.int (g i) s.toks) {s with toks:=s.toks+1}->Tg (Th X.prog X.w) X.A (f (.int i t)) Q E s):UnR X f (rU λi=>.int (g i)):=by intro aa s σ H x v Q I a h;obtain⟨i,rfl,q⟩:=h;obtain⟨t,rfl⟩:=a;exact rule i t s _ _ ⟨.int (g i),H,I.tok _,⟨_,rfl⟩,q⟩
theorem oF:UnR X (unaryOp .USub) (rU λi=>.int (-i)):=unI λ_ _ _ _ _ q=>neg_int q
end
section
variable{X:Cx}{a b c:Tj}{ta tb tc:TE}{pos:Pos}
theorem JD{aa:List (Tf×Tq)}{σ:St}{H:Hp}{s:Ah}{Q:VK}{k k':Bool}(I:cE X aa σ H s)(q:Q (.bl k) H)(e:k=k'):EP X aa σ Q (.bool k') s:=by subst e;exact⟨.bl k,H,I,rfl,q⟩
theorem HA:WD X (Dk .Lt) (FE λi j=>.bl (decide (i<j))):=opB0 λ_ _ _ _ _ _ _ q=>lt_int q
theorem G9:WD X (Dk .LtE) (FE λi j=>.bl (decide (i<=j))):=opB0 λ_ _ _ _ _ _ _ q=>le_int q
theorem Ui:WD X (Dk .Gt) (FE λi j=>.bl (decide (j<i))):=opB0 λ_ _ _ _ _ _ _ q=>gt_int q
theorem Um:WD X (Dk .GtE) (FE λi j=>.bl (decide (j<=i))):=opB0 λ_ _ _ _ _ _ _ q=>ge_int q
theorem Vm:WD X (Dk .Is) (λx y H Q=>y=.non/\Q (.bl (decide (x=.non))) H):=by
 intro aa s σ H x y v u Q I a b h;obtain⟨rfl,q⟩:=h;cases b;refine is_none_gen (JD I q ?_);cases x<;>first
  |(cases a;rfl)
  |(obtain⟨t,rfl⟩:=a;rfl)
theorem N3:WD X (Dk .IsNot) (λx y H Q=>y=.non/\Q (.bl (!decide (x=.non))) H):=by
 intro aa s σ H x y v u Q I a b h;obtain⟨rfl,q⟩:=h;cases b;refine isnot_none_gen (JD I q ?_);cases x<;>first
  |(cases a;rfl)
  |(obtain⟨t,rfl⟩:=a;rfl)
theorem WD.or{f:Te->Te->Tw Te}{r r':R2}(h:WD X f r)(h':WD X f r'):WD X f (λx y H Q=>r x y H Q∨r' x y H Q):=by
 intro aa s σ H x y v u Q I b a q;rcases q with q|q
 ·exact h aa s σ H x y v u Q I b a q
 ·exact h' aa s σ H x y v u Q I b a q
theorem aV(b:Tj){op:CmpOp}(h:op≠ .In:=by decide)(h2:op≠ .NotIn:=by decide):Hs op b=false:=by
 have c:(op==CmpOp.In)=false:=by cases op<;>first|rfl|exact absurd rfl h
 have a:(op==CmpOp.NotIn)=false:=by cases op<;>first|rfl|exact absurd rfl h2
 cases b<;>simp[Hs,c,a]
theorem oX{op:CmpOp}{r:R2}(f:WD X (Dk op) r)(i:PE X a ta)(hb:PE X b tb)(g:Hs op b=false):PE X (.Compare a [op] [b] pos) (tOp r ta tb):=by intro aa s σ H Q I h;exact wpAny_Compare1 (binT i hb I h λv u c x y H2 j e d q=>f aa c σ H2 x y v u Q j e d q) g
def Vy(t:TE):TT:=λσ H Q=>t σ H λx H'=>∃k,x=.bl k/\Q k H'
theorem eE{op:CmpOp}{r:R2}(j:WD X (Dk op) r)(m:PE X a ta)(hb:PE X b tb)(l:Hs op b=false):PT X (.Compare a [op] [b] pos) (Vy (tOp r ta tb)):=by
 intro aa s σ H Q I h;refine wpAny_isTrue_Compare1 (ZB (m aa s σ H _ I h) λv s1 ⟨x,H1,p,i,q1⟩=>ZB (hb aa s1 σ H1 _ p q1) λu d ⟨y,H2,o,g,q2⟩=>
  ZB (j aa d σ H2 x y v u _ o i g q2) λc t ⟨z,q,n,f,k,e,q3⟩=>?_) l
 subst e;cases f;exact Ef ⟨q,n,q3⟩
def FT(r r':R2)(ta tb tc:TE):TE:=λσ H Q=>ta σ H λx H1=>tb σ H1 λy H2=>r x y H2 λz a=>∃k,z=.bl k∧
 (if k=true then tc σ a λb c=>r' y b c Q else Q (.bl false) a)
theorem Xy{op f:CmpOp}{r r':R2}(C:WD X (Dk op) r)(g:WD X (Dk f) r')(E:PE X a ta)(hb:PE X b tb)(hc:PE X c tc)(D:Qi [op,f] [b,c]=false:=by with_unfolding_all rfl):PE X (.Compare a [op,f] [b,c] pos) (FT r r' ta tb tc):=by
 intro aa s σ H Q I h;refine Compare_chain (ZB (E aa s σ H _ I h) λv s1 ⟨x,H1,J,A,q1⟩=>chain_link (ZB (hb aa s1 σ H1 _ J q1) λu q ⟨y,H2,G,i,q2⟩=>
  ZB (C aa q σ H2 x y v u _ G A i q2) λd p ⟨z,l,j,w,k,e,q3⟩=>?_)) D
 subst e;cases w;refine Ef ?_;cases k with
 |false=>exact ite_ff ⟨.bl false,l,j,rfl,q3⟩
 |true=>exact ite_tt (chain_last (ZB (hc aa p σ l _ j q3) λn o ⟨m,K,F,t,B⟩=>g aa o σ K y m u n Q F i t B))
theorem iZ{op f:CmpOp}{r r':R2}(F:WD X (Dk op) r)(g:WD X (Dk f) r')(J:PE X a ta)(hb:PE X b tb)(hc:PE X c tc)(G:Qi [op,f] [b,c]=false:=by with_unfolding_all rfl):PT X (.Compare a [op,f] [b,c] pos) (Vy (FT r r' ta tb tc)):=by
 intro aa s σ H Q I h;refine isTrue_chain (ZB (J aa s σ H _ I h) λv s1 ⟨x,H1,P,B,q1⟩=>test_link (ZB (hb aa s1 σ H1 _ P q1) λu q ⟨y,H2,O,i,q2⟩=>
  ZB (F aa q σ H2 x y v u _ O B i q2) λd p ⟨z,l,j,A,k,e,q3⟩=>?_)) G
 subst e;cases A;refine Ef ?_;cases k with
 |false=>
  obtain⟨k',L,E⟩:=q3;cases L;exact ite_ff ⟨l,j,E⟩
 |true=>
  refine ite_tt (test_last (ZB (hc aa p σ l _ j q3) λn o ⟨m,S,N,w,D⟩=>ZB (g aa o σ S y m u n _ N i w D) λd' U ⟨T,R,M,t,V,K,C⟩=>?_));subst K;cases t;exact Ef ⟨R,M,C⟩
theorem PR:(sizeLine:Nat)<2 ^ 63:=by rw[Di];decide
theorem E7:WD X (Gj .Add) (λx y H Q=>∃i j,x=.str i/\y=.str j/\i.length+j.length<=sizeLine/\Q (.str (i++j)) H):=by intro aa s σ H x y v u Q I b a h;obtain⟨i,j,rfl,rfl,c,q⟩:=h;obtain⟨t,rfl⟩:=b;obtain⟨t',rfl⟩:=a;exact add_str (λt' tk=>⟨.str (i++j),H,I.tok _,⟨_,rfl⟩,q⟩) c
theorem R7{x:V}{a:List Te}(r:bJ [x] a):∃u,a=[u]/\bO x u:=by
 cases r with
 |cons c b=>cases b;exact⟨_,rfl,c⟩
theorem D6{x y:V}{b:List Te}(r:bJ [x,y] b):∃u a,b=[u,a]/\bO x u/\bO y a:=by
 cases r with
 |cons f e=>
  cases e with
  |cons d c=>cases c;exact⟨_,_,rfl,f,d⟩
theorem KL(hc:X.calm=true):ZR X (.builtin "max") (λxs H Q=>∃i j,xs=[.int i,.int j]/\Q (.int (if j>i then j else i)) H):=by
 intro aa s σ H xs c Q I r h;obtain⟨i,j,rfl,q⟩:=h;obtain⟨u,b,rfl,⟨t,rfl⟩,⟨t',rfl⟩⟩:=D6 r;refine max_two_ints (I.ok.hd hc) λh' tk k=>⟨_,H,I.kept k,?_,q⟩;by_cases a:j>i
 ·rw[if_pos a,if_pos a];exact⟨_,rfl⟩
 ·rw[if_neg a,if_neg a];exact⟨_,rfl⟩
theorem PB(hc:X.calm=true):ZR X (.builtin "min") (λxs H Q=>∃i j,xs=[.int i,.int j]/\Q (.int (if j<i then j else i)) H):=by
 intro aa s σ H xs c Q I r h;obtain⟨i,j,rfl,q⟩:=h;obtain⟨u,b,rfl,⟨t,rfl⟩,⟨t',rfl⟩⟩:=D6 r;refine min_two_ints (I.ok.hd hc) λh' tk k=>⟨_,H,I.kept k,?_,q⟩;by_cases a:j<i
 ·rw[if_pos a,if_pos a];exact⟨_,rfl⟩
 ·rw[if_neg a,if_neg a];exact⟨_,rfl⟩
end
structure ObjM(h:Tp)(x dx C:Tf)(mA:Ti->Option Te):Prop where
 obj:h.get? x=some (Sb C dx)
 ns:h.Ns1 dx mA
 ne:dx≠x
theorem BD{h:Tp}{dx:Tf}{b:Ti->Option Te}(n:h.Ns1 dx b):∃od,h.get? dx=some od/\∀name,W.lookIn name od=some (b name):=by
 obtain⟨o,es,l,f,j,i,_,g⟩:=n;refine⟨o,f,λname=>?_⟩;have e:=g name;unfold nsFind findBy at e;rw[<-Array.find?_toList] at e;unfold W.lookIn;rw[j];dsimp only;split
 ·rename_i y q
  rw[q] at e;exact congrArg some e
 ·rename_i q
  rw[q] at e;have a:es.toList.any (·.refKey)=false:=by rw[List.any_eq_false];intro y d;obtain⟨z,t,c⟩:=i y (Array.mem_toList_iff.mp d);simp[DictEntry.refKey,c]
  have k:¬es.toList.any (·.refKey)=true:=by rw[a];exact Dj
  rw[if_neg k];exact congrArg some e
theorem ObjM.look{h:Tp}{x dx C:Tf}{a:Ti->Option Te}(I:ObjM h x dx C a):∃od,W.InstAt h x (Sb C dx) C (some od)/\∀name,W.lookIn name od=some (a name):=
 let ⟨od,b,hl⟩:=BD I.ns
 ⟨od,⟨I.obj,rfl,rfl,b⟩,hl⟩
theorem O9.some_of{v:V}{o:Option Te}(r:O9 (some v) o):∃u,o=some u/\bO v u:=by
 cases o with
 |none=>exact(show False from r).elim
 |some u=>exact⟨u,rfl,r⟩
section
variable{P:Br}{w:Tl}{H H':Hp}{h h':Tp}{a C dx:Tf}{fs fs':List (Ti×V)}
theorem gS(c:Q6 P w H h)(e:H a=some (.ins C dx fs)):∃b,ObjM h a dx C b/\(∀f,O9 (fs.lookup f) (b f))/\Sc b (fs.map (·.1))/\fs.length<=1000/\H dx=some (.own a):=by obtain⟨d,z,i,g,b,n,r,q⟩:=(show ZJ P w H h a (.ins C dx fs) from c a _ e);exact⟨b,⟨g,n,i⟩,r,q,z,d⟩
end
structure Cls(K:As)(C:Tf):Prop where
 pg:W.plainGet K C Str.empty=true
 hd:W.hasDictIn K C=true
 po:W.plainOver K C=true
 sa:W.findIn K (.ref C) "__setattr__"=some (some (.builtin "object.__setattr__"))
theorem Cls.get{K:As}{C:Tf}(c:Cls K C)(f:Ti):W.plainGet K C f=true:=c.pg
section
variable{X:Cx}{aa:List (Tf×Tq)}{σ:St}{H:Hp}{s:Ah}{A:Df}{E:Te->Ah->Prop}{Q:Te->Ah->Prop}{c:Te}{b:Bool}
inductive N7(K:As)(H:Hp):V->Te->Prop where
 |non:N7 K H .non (.type "NoneType")
 |bl (x:Bool):N7 K H (.bl x) (.type "bool")
 |int (i:Int):N7 K H (.int i) (.type "int")
 |str (x:Ti):N7 K H (.str x) (.type "str")
 |flt (x:UInt64):N7 K H (.flt x) (.type "float")
 |lst {a:Tf} {xs:List V} (e:H a=some (.lst xs)):N7 K H (.ref a) (.type "list")
 |frz {a:Tf} {o:Tq} {xs:List V} (e:H a=some (.frz o (.lst xs))):N7 K H (.ref a) (.type "list")
 |tup {a:Tf} {xs:List V} (e:H a=some (.tup xs)):N7 K H (.ref a) (.type "tuple")
 |dK {a:Tf} {kvs:List (Z7×V)} (e:H a=some (.dK kvs)):N7 K H (.ref a) (.type "dict")
 |dT {a:Tf} {kvs:List (List Z7×V)} (e:H a=some (.dT kvs)):N7 K H (.ref a) (.type "dict")
 |ins {a C dx:Tf} {fs:List (Ti×V)} (e:H a=some (.ins C dx fs)) (cl:Cls K C) (ha:W.findIn K (.ref C) "__class__"=some (some (.builtin "object.__class__")))
   (hn:W.specialIn K (.builtin "object.__class__") "__get__"=some (some (.builtin "getset_descriptor.__get__"))) (htk:W.takesIn K (.builtin "object.__class__")=some true)
   (hm:W.mroIn K C (.type "object")=some true):N7 K H (.ref a) (.ref C)
theorem SX{x:V}{u t:Te}(I:cE X aa σ H s)(d:bO x u)(ty:N7 X.K H x t)(e:W.kitOne X.K t c=some b)(h:∀tk,Q (.bool b) {s with toks:=tk}):Tg (Th X.prog X.w) A (call (.builtin "isinstance") [u,c]) Q E s:=by
 cases ty with
 |non=>cases (show u=Value.none from d);exact Ga W.kitx_none I.kIn True.intro e (λz=>nomatch z) h
 |bl y=>cases (show u=Rr y from d);exact Ga W.kitx_bool I.kIn True.intro e (λz=>nomatch z) h
 |int i=>obtain⟨t,q⟩:=(show∃t,u=Qd i t from d);cases q;exact Ga W.kitx_int I.kIn True.intro e (λz=>nomatch z) h
 |str y=>obtain⟨t,q⟩:=(show∃t,u=Qe y t from d);cases q;exact Ga W.kitx_str I.kIn True.intro e (λz=>nomatch z) h
 |flt y=>obtain⟨t,q⟩:=(show∃t,u=Su y t from d);cases q;exact Ga W.kitx_float I.kIn True.intro e (λz=>nomatch z) h
 | @lst a xs f=>
  cases (show u=Bx a from d);obtain⟨_,_,n,_,h1⟩:=(show ZJ X.prog X.w H s.heap a (.lst xs) from I.hok a _ f);exact Ga Nc I.kIn ⟨_,h1,rfl⟩ e (λz=>nomatch z) h
 | @frz a j xs f=>
  cases (show u=Bx a from d);obtain⟨_,_,_,n,_,h1⟩:=(show ZJ X.prog X.w H s.heap a (.frz j (.lst xs)) from I.hok a _ f);exact Ga Nc I.kIn ⟨_,h1,rfl⟩ e (λz=>nomatch z) h
 | @tup a xs f=>
  cases (show u=Bx a from d);obtain⟨_,_,_,p⟩:=(show ZJ X.prog X.w H s.heap a (.tup xs) from I.hok a _ f);obtain⟨o,h1,h2,_⟩:=p;exact Ga W.kitx_tuple I.kIn ⟨o,h1,h2⟩ e (λz=>nomatch z) h
 | @dK a kvs f=>
  cases (show u=Bx a from d);obtain⟨_,_,vs,_,p⟩:=(show ZJ X.prog X.w H s.heap a (.dK kvs) from I.hok a _ f);obtain⟨o,es,r,h1,h2,_⟩:=p;exact Ga W.kitx_dict I.kIn ⟨o,h1,h2.1⟩ e (λz=>nomatch z) h
 | @dT a kvs f=>
  cases (show u=Bx a from d);obtain⟨_,_,xs,_,o,es,r,h1,h2,_⟩:=(show ZJ X.prog X.w H s.heap a (.dT kvs) from I.hok a _ f);exact Ga W.kitx_dict I.kIn ⟨o,h1,h2.1⟩ e (λz=>nomatch z) h
 | @ins a C dx fs f cl m k g l=>
  cases (show u=Bx a from d);obtain⟨v,O,_⟩:=gS I.hok f;obtain⟨od,J,_⟩:=O.look;exact Ga (W.kitx_own (cl.get _) cl.hd m k g l) I.kIn J e (λz=>nomatch z) h
end
structure XX(k:Nat)(A:Df):Prop where
 hd:A.handled=none
 dp:A.depth+3*k+5<recursionLimit
 un:A.units+16*k+200<cLine
theorem XX.mono{j k:Nat}{A:Df}(r:XX k A)(h:j<=k):XX j A:=⟨r.hd,by have:=r.dp;lia,by have:=r.un;lia⟩
theorem XX.deeper{k:Nat}{A:Df}(r:XX (k+1) A)(env:Env):XX k (A.deeper env):=
 ⟨r.hd,by have:=r.dp;show A.depth+1+3*k+5<_;lia,by have:=r.un;show A.units+3+16*k+200<_;lia⟩
theorem XX.depth{k:Nat}{A:Df}(r:XX k A):A.depth<recursionLimit:=by have:=r.dp;lia
theorem XX.units{k:Nat}{A:Df}(r:XX k A):A.units+64<cLine:=by have:=r.un;lia
def tNil:TA:=λ_ H Q=>Q [] H
def LQ(ta:TE)(a:TA):TA:=λσ H Q=>ta σ H λx H1=>a σ H1 λxs H2=>Q (x::xs) H2
section
variable{X:Cx}{e:Tj}{es:List Tj}{te:TE}{t:TA}{pos:Pos}
theorem Y7:PA X [] tNil:=λ_ _ _ _ H Q I h=>Ih ⟨[],H,I,.nil,h⟩
theorem bC(d:PE X e te)(c:PA X es t)(hs:Aj (e::es) X.env=(false,eval e X.env)::Aj es X.env:=by rfl):PA X (e::es) (LQ te t):=by intro pos aa s σ H Q I h;rw[hs];show Tg _ _ (spliced ((false,eval e X.env)::Fx pos (Aj es X.env))) _ _ s;refine Gk (ZB (d aa s σ H _ I h) λu s1 ⟨x,H1,g,b,q1⟩=>?_);exact ZB (c pos aa s1 σ H1 _ g q1) λi j ⟨xs,H2,f,a,q2⟩=>⟨x::xs,H2,f,.cons b a,q2⟩
def tTup(t:TA):TE:=λσ H Q=>t σ H λxs H1=>xs.length<=sizeLine/\∀p,H1 p=none->Q (.ref p) (aN H1 p (.tup xs))
def tLst(t:TA):TE:=λσ H Q=>t σ H λxs H1=>xs.length<=sizeLine/\∀p,H1 p=none->Q (.ref p) (aN H1 p (.lst xs))
theorem Wz{x1}(h:PA X es t):PE X (.Tuple es x1 pos) (tTup t):=by intro aa s σ H Q I d;refine wpAny_Tuple_spliced (ZB (h pos aa s σ H _ I d) λc s1 ⟨xs,H1,a,r,z,q⟩=>⟨by rw[<-r.length];exact z,?_⟩);have f:H1 s1.heap.objs.size=none:=a.hok.fresh (Ak _);refine⟨.ref s1.heap.objs.size,aN H1 s1.heap.objs.size (.tup xs),a.laid (t':=s1.toks) (λb u e=>Ae _ e) (Ak _) ?_,rfl,q _ f⟩;exact⟨z,c,r,⟨_,Ay _ rfl,rfl,_,rfl⟩⟩
theorem fI(h:PA X es t):PE X (.List es pos) (tLst t):=by intro aa s σ H Q I d;refine wpAny_List_spliced (ZB (h pos aa s σ H _ I d) λc s1 ⟨xs,H1,a,r,z,q⟩=>⟨by rw[<-r.length];exact z,?_⟩);have f:H1 s1.heap.objs.size=none:=a.hok.fresh (Ak _);refine⟨.ref s1.heap.objs.size,aN H1 s1.heap.objs.size (.lst xs),a.laid (t':=s1.toks) (λb u e=>Ae _ e) (Ak _) ?_,rfl,q _ f⟩;exact⟨z,c,0,r,Ay _ rfl⟩
end
abbrev Sp:=List V->Hp->VK->XK->Prop
abbrev CXT:=List Env->Hp->Ah->XK->Te->Ah->Prop
structure Env0(P:Br)(w:Tl)(K:As)(mg:Ti->Option Te)(base:Tp)(A:Df)(outer:List Env)(s:Ah)(H:Hp):Prop where
 frames:A.frames=some outer
 mod:Mod K mg base
 bs:∀b o,base.get? b=some o->s.heap.get? b=some o/\H b=none
 bsz:base.objs.size<=s.heap.objs.size
 funs:s.heap.FunFrames base outer
 frf:∀b∈A7 outer,H b=none
 hok:Q6 P w H s.heap
 bare:Ma s.gens
def CE(outer:List Env)(P:Br)(w:Tl)(H:Hp)(s:Ah)(Q:VK)(u:Te)(s':Ah):Prop:=
 ∃v H',s'.os=s.os/\Ma s'.gens/\Un (A7 outer) [] H H' s.heap s'.heap/\Q6 P w H' s'.heap/\bO v u/\Q v H'
def CR(CX:CXT)(outer:List Env)(P:Br)(w:Tl)(H:Hp)(s:Ah)(Q:VK)(E:XK)(r:Qj)(s':Ah):Prop:=
 match r with
 |.ok (.ret u)=>CE outer P w H s Q u s'
 |.ok _=>False
 |.error e=>CX outer H s E e s'
structure aU(P:Br)(w:Tl)(K:As)(mg:Ti->Option Te)(base:Tp)(CX:CXT)(k:Nat)(f:Tf)(fd:Fk)(ps:List Ti)(sp:Sp):Prop where
 len:∀vs H Q E,sp vs H Q E->vs.length=ps.length
 run:∀(A:Df) (outer:List Env) (s:Ah) (H:Hp) (args:Args) (us:List Te) (vs:List V) (Q:VK) (E:XK),XX k A->Env0 P w K mg base A outer s H->Qk s fd args (ps.zip us)->bJ vs us->sp vs H Q E->
  Gp (Th P w) A (.call (.ref f) args) (CR CX outer P w H s Q E) s
section
variable{X:Cx}{aa:List (Tf×Tq)}{σ:St}{H:Hp}{s s':Ah}
theorem cE.env0(I:cE X aa σ H s):Env0 X.prog X.w X.K X.mg X.base X.A X.stack s H:=
 ⟨I.ok.frames,I.ok.mod,I.bs,Ce I.ok.bsz I.sz,I.stack,I.stkFree,I.hok,I.bare⟩
theorem cE.after{Q:VK}{u:Te}(I:cE X aa σ H s)(h:CE X.stack X.prog X.w H s Q u s'):EP X aa σ Q u s':=by obtain⟨v,H',os,a,un,e,r,q⟩:=h;obtain⟨f,g,d,t,c⟩:=s';obtain rfl:c=s.os:=os;exact⟨v,H',I.call (h':=f) (g':=g) (d':=d) (t':=t) (ch:=[]) un e a (λb z=>absurd z (by simp)),r,q⟩
end
def Uk(sp:Sp)(dvs:List V)(E:XK)(t:TA):TE:=λσ H Q=>t σ H λvs H1=>sp (vs++dvs) H1 Q E
def P9(K:As)(fd:Fk)(ps:List Ti)(ds:List Te):Prop:=
 ∀(s:Ah) (a:List Te),K.In s.heap->(a++ds).length=ps.length->Qk s fd ⟨a,[]⟩ (ps.zip (a++ds))
theorem P9.all{K:As}{fd:Fk}{ps:List Ti}(h:∀a:List Te,a.length=ps.length->bindArgs fd ⟨a,[]⟩=pure (ps.zip a)):P9 K fd ps []:=λs a _ hl=>by rw[Cv] at hl⊢;exact .of_eq (h a hl)
def ED(CX:CXT)(X:Cx)(E:XK):Prop:=∀(aa:List (Tf×Tq)) (σ:St) (H:Hp) (s:Ah) (e:Te) (s':Ah),cE X aa σ H s->CX X.stack H s E e s'->X.xe e s'
section
variable{X:Cx}{CX:CXT}{k:Nat}{f C:Tf}{fd:Fk}{ps:List Ti}{sp:Sp}{dvs:List V}{ds:List Te}{E:XK}{x m:Ti}{p pos ax:Pos}{e o:Tj}{es:List Tj}{ta:TE}{t:TA}
theorem Vg{aa:List (Tf×Tq)}{σ:St}{H:Hp}{s:Ah}{Q:VK}{a:List Te}{vs:List V}(F:aU X.prog X.w X.K X.mg X.base CX k f fd ps sp)(g:XX k X.A)(hb:P9 X.K fd ps ds)(i:bJ dvs ds)(d:ED CX X E)(I:cE X aa σ H s)(r:bJ vs a)(h:sp (vs++dvs) H Q E):Tg (Th X.prog X.w) X.A (call (.ref f) a) (EP X aa σ Q) X.xe s:=by
 have c:bJ (vs++dvs) (a++ds):=r.append i;have hl:(a++ds).length=ps.length:=by rw[<-c.length];exact F.len _ _ _ _ h
 refine wpAny_call (Kg (F.run X.A X.stack s H ⟨a,[]⟩ (a++ds) (vs++dvs) Q E g I.env0 (hb s a I.kIn hl) c h) λr s' b=>?_);cases r with
 |error e=>exact d aa σ H s e s' I b
 |ok j=>
  cases j with
  |ret u=>exact I.after b
  |next=>exact Gw b
  |brk=>exact Gw b
  |cont=>exact Gw b
theorem C9(F:aU X.prog X.w X.K X.mg X.base CX k f fd ps sp)(g:XX k X.A)(l:Gl X x)(i:X.mg x=some (.ref f))(j:Ht X.K (.ref f)=true)(hb:P9 X.K fd ps ds)(n:bJ dvs ds)(d:ED CX X E)(o:PA X (e::es) t)(b:(x==("__debug__":Ti))=false:=by decide)(m:Aj (e::es) X.env=(false,eval e X.env)::Aj es X.env:=by rfl)(a:(Fx pos (Aj es X.env)).any (·.1)=false:=by rfl):PE X (.Call (.Name x p) (e::es) [] pos) (Uk sp dvs E t):=by intro aa s σ H Q I h;refine Fs (CZ I l i ?_ b);refine W.callWith_K (h₀:=X.base) I.ok.mod.kin j (ZB (o pos aa s σ H _ I h) λu s1 ⟨vs,H1,c,r,q⟩=>⟨c.kIn,?_⟩) m a;exact Vg F g hb n d c r q
end
structure cI(N P:List Ti)(sc:Tr):Prop where
 kind:sc.kind=.function
 co:sc.isCoroutine=false
 gen:sc.isGenerator=false
 nd:N.Nodup
 pre:N.take P.length=P
 par:∀x∈P,sc.names.lookup x=some .local∨sc.names.lookup x=some .cell
 nofree:∀y∈sc.names,y.2≠ .free
theorem KJ{kindOf:Ti->Option Tu}{x:Ti}:∀{binds:List (Ti×Te)} {m:Ti->Option Te},(∀v,(x,v)∉binds)->bindL kindOf binds m x=m x
 |[],_,_=>rfl
 | (n,v) :: r,m,h => by
  unfold bindL;rw[KJ λw hw=>h w (Ao _ hw)];split
  ·have : x ≠ n := by rintro rfl;exact h v Ap
   simp[this]
  ·rfl
theorem KH{kindOf:Ti->Option Tu}{x:Ti}:∀{binds:List (Ti×Te)} {m:Ti->Option Te},(∀v,(x,v)∉binds)->bindC kindOf binds m x=m x
 |[],_,_=>rfl
 | (n,v) :: r,m,h => by
  unfold bindC;rw[KH λw hw=>h w (Ao _ hw)];split
  ·rfl
  ·have : x ≠ n := by rintro rfl;exact h v Ap
   simp[this]
theorem KI{kindOf:Ti->Option Tu}{x:Ti}{v:Te}:∀{P:List Ti} {vs:List Te} {i:Nat} {m:Ti->Option Te},P.Nodup->P[i]?=some x->vs[i]?=some v->kindOf x=some .local->bindL kindOf (P.zip vs) m x=some v
 |[],_,_,_,_,h,_,_=>by simp at h
 |_::_,[],_,_,_,_,h,_=>by simp at h
 |p::P,w::vs,0,m,a,h1,h2,b=>by simp at h1 h2;subst h1;subst h2;show bindL kindOf ((p,w)::P.zip vs) m p=_;unfold bindL;rw[KJ λv c=>(Cw.mp a).1 (Mf c).1,if_pos b];simp
 |p::P,w::vs,i+1,m,a,h1,h2,b=>by show bindL kindOf ((p,w)::P.zip vs) m x=_;unfold bindL;exact KI (i:=i) (Cw.mp a).2 (by simpa using h1) (by simpa using h2) b
theorem KG{kindOf:Ti->Option Tu}{x:Ti}{v:Te}:∀{P:List Ti} {vs:List Te} {i:Nat} {m:Ti->Option Te},P.Nodup->P[i]?=some x->vs[i]?=some v->kindOf x≠some .local->bindC kindOf (P.zip vs) m x=some v
 |[],_,_,_,_,h,_,_=>by simp at h
 |_::_,[],_,_,_,_,h,_=>by simp at h
 |p::P,w::vs,0,m,a,h1,h2,b=>by simp at h1 h2;subst h1;subst h2;show bindC kindOf ((p,w)::P.zip vs) m p=_;unfold bindC;rw[KH λv c=>(Cw.mp a).1 (Mf c).1,if_neg b];simp
 |p::P,w::vs,i+1,m,a,h1,h2,b=>by show bindC kindOf ((p,w)::P.zip vs) m x=_;unfold bindC;exact KG (i:=i) (Cw.mp a).2 (by simpa using h1) (by simpa using h2) b
noncomputable def start(N:List Ti)(vs:List V):St:=vs.map some++Bi (N.length - vs.length) none
noncomputable def IZ(CX:CXT)(P:Br)(w:Tl)(K:As)(mg:Ti->Option Te)(base:Tp)(N:List Ti)(a:Ti)(scope:Tr)(f:Tf)(c:Te)(A:Df)(outer:List Env)(s:Ah)(H:Hp)(E:XK):Cx where
 prog:=P
 w:=w
 K:=K
 mg:=mg
 base:=base
 A:=A.deeper (Ks a scope s.heap.objs.size f c)
 N:=N
 s₀:=s
 H₀:=H
 env:=Ks a scope s.heap.objs.size f c
 outer:=outer
 stack:=Ks a scope s.heap.objs.size f c::outer
 ex:=[]
 calm:=true
 fn:=λ_=>true
 pn:=[]
 xe:=λe s'=>Tg (Th P w) (A.deeper (Ks a scope s.heap.objs.size f c)) (leaving (Ks a scope s.heap.objs.size f c) e) (λ_ b=>CX outer H s E e b) (λd b=>CX outer H s E d b) s'
theorem GA{a:Tr}{n:Nat}{x:Ti}(h:a.names.lookup x=some .cell):∃c,(Ts n a.names []).lookup x=some c:=by have q:=Pk a.names n [] (.inl h);exact Option.isSome_iff_exists.mp q
theorem A9{CX:CXT}{P:Br}{w:Tl}{K:As}{mg:Ti->Option Te}{base:Tp}{N ps:List Ti}{d:Ti}{scope:Tr}{f:Tf}{t:Te}{A:Df}{outer:List Env}{s s1:Ah}{H:Hp}{E:XK}{B:List Te}{vs:List V}(S:cI N ps scope)(I:A.handled=none)(g:Env0 P w K mg base A outer s H)(hl:vs.length=ps.length)(r:bJ vs B)(x:InCallC s s.heap.objs.size (bindL (Ks d scope s.heap.objs.size f t).kindOf (ps.zip B) λ_=>none) (Ts (s.heap.objs.size+1) scope.names []) (bindC (Ks d scope s.heap.objs.size f t).kindOf (ps.zip B) λ_=>none) s1):cE (IZ CX P w K mg base N d scope f t A outer s H E) [] (start N vs) H s1:=by
 have G:ps.length<=N.length:=by have:=congrArg List.length S.pre;rw[Bt] at this;lia
 obtain⟨h1,tk,rfl,D⟩:=x.done;have j:∀b:Tf,b∉(IZ CX P w K mg base N d scope f t A outer s H E).ex:=λb z=>absurd (show b∈([]:List Tf) from z) (by simp);refine⟨⟨g.mod,S.kind,rfl,rfl,Ak _,λy z c h1 h2=>?_,λy l=>?_,λy c _ h=>?_,λ_=>I,Around.frames_deeper g.frames,.inr ⟨rfl,rfl⟩,λb z=>absurd z (j b),g.bs,g.bsz,λb _ _=>j b,λb z=>absurd z (j b),g.funs,g.frf⟩,rfl,g.bare,Un.kept D,⟨_,x.toInCall.ns,λi y v h1 h2 L=>?_⟩,λy c h=>⟨_,x.cell y c h⟩,g.hok.fresh (Ak _),λy c h=>?_,λp o=>absurd (show p∈([]:List (Tf×Tq)) from o) (by simp),g.hok.kept D,?_⟩
 ·exact name_of_addr x.apart (By h1) (By h2)
 ·have l:scope.names.lookup y=some .cell∨scope.names.lookup y=some .free:=l
  rcases l with l|l
  ·exact GA l
  ·exact absurd rfl (S.nofree _ (By l))
 ·exact Dg (x.above y c (By h))
 ·have hi:i<vs.length:=by
   unfold start at h2;by_cases hi:i<vs.length
   ·exact hi
   ·rw [Bj (by simpa using hi)] at h2
    rw[Db] at h2;split at h2<;>cases h2
  have J:vs[i]?=some v:=by
   unfold start at h2;rw[Af (by simpa using hi),Cb] at h2;cases e:vs[i]? with
   |none=>rw[e] at h2;cases h2
   |some a=>rw[e] at h2;cases h2;rfl
  obtain⟨u,C,F⟩:=r.get J;have o:ps[i]?=some y:=by rw[<-S.pre,Cc (by lia)];exact h1
  have m:ps.Nodup:=by rw[<-S.pre];exact S.nd.sublist (List.take_sublist _ _)
  refine⟨u,F,?_⟩;rcases S.par y (Bv o) with k|k
  ·exact .inl ⟨k,KI m o C k⟩
  ·obtain⟨c,e⟩:=GA (n:=s.heap.objs.size+1) k
   refine .inr ⟨.inl k,c,e,?_⟩;have q:=x.cell y c e;rw[KG m o C (by show scope.names.lookup y≠_;rw[k];decide)] at q;exact q
 ·exact g.hok.fresh (Dg (x.above y c (By h)))
 ·unfold start
  show _=N.length;rw[Cf,Cd,Ir];lia
theorem Wj{CX:CXT}{P:Br}{w:Tl}{K:As}{mg:Ti->Option Te}{base:Tp}{k:Nat}{f:Tf}{name a:Ti}{d:Arguments}{body:List Tt}{scope:Tr}{D kV doc C c ct O:Te}{F od:Option Tf}{m:Array (Option Te)}{N ps:List Ti}{sp:Sp}(lk:K.lookup f=some ⟨O,od,.func (Jl name a d body scope D kV doc C F c ct),m⟩)(B:Kh K c a=true)(S:cI N ps scope)(len:∀vs H Q E,sp vs H Q E->vs.length=ps.length)(Z:∀(A:Df) (outer:List Env) (s:Ah) (H:Hp) (vs:List V) (Q:VK) (E:XK),XX k (A.deeper (Ks a scope s.heap.objs.size f c))->sp vs H Q E->∃t,OK (IZ CX P w K mg base N a scope f c A outer s H E) body t/\t {nx:=λ_ H'=>Q .non H',rt:=Q} (start N vs) H):aU P w K mg base CX (k+1) f (Jl name a d body scope D kV doc C F c ct) ps sp:=by
 refine⟨len,λA outer s H args L vs Q E z j hb r h=>?_⟩;have hl:=len _ _ _ _ h;have G:K.In s.heap:=j.mod.kin.keeps λb o e=>(j.bs b o e).1;have p:s.heap.NoLimit:=j.mod.nolimit.keeps λb o e=>(j.bs b o e).1;have M:∀y∈ps.zip L,scope.names.lookup y.1=some .local∨(scope.names.lookup y.1=some .cell/\((Ts (s.heap.objs.size+1) scope.names []).lookup y.1).isSome=true):=λ⟨n,v⟩ R=>by
  rcases S.par n (Mf R).1 with q|q
  ·exact .inl q
  ·exact .inr ⟨q,Pk _ _ _ (.inl q)⟩
 refine codeAny_call_function z.depth (G _ _ lk) rfl S.co S.gen rfl (W.codeRec_of G B) (hb _ _ _ _ ?_);refine wpAny_newFunctionEnv_cells S.kind M λenv X s1 x=>?_;subst X;refine⟨p.keeps x.toInCall.keep,codeAny_func ?_⟩;obtain⟨t,T,U⟩:=Z A outer s H vs Q E (z.deeper _) h;have I:cE (IZ CX P w K mg base N a scope f c A outer s H E) [] (start N vs) H s1:=A9 S z.hd j hl r x;refine Az (T [] s1 (start N vs) H _ I U) (λY s' hs=>?_) λe s' hs=>hs;have i:∀{g:St} {H':Hp} {v:V} {u:Te},cE (IZ CX P w K mg base N a scope f c A outer s H E) [] g H' s'->bO v u->Q v H'->CE outer P w H s Q u s':=
  λ{g H' v u} J l q=>⟨v,H',J.os,J.bare,J.base,J.hok,l,q⟩
 cases Y with
 |ret u=>
  obtain⟨v,g,H',J,l,q⟩:=hs;exact i J l q
 |next=>
  obtain⟨g,H',J,q⟩:=hs;exact i (v:=V.non) (u:=Value.none) J rfl q
 |brk=>
  obtain⟨_,_,_,q⟩:=hs;exact Gw q
 |cont=>
  obtain⟨_,_,_,q⟩:=hs;exact Gw q
section
variable{X:Cx}{x:Ti}{p pos:Pos}{e:Tj}{es:List Tj}{t:TA}{id T:String}{r:List V->Hp->VK->Prop}
def tCB(r:List V->Hp->VK->Prop)(t:TA):TE:=λσ H Q=>t σ H λvs H1=>r vs H1 Q
theorem M8(hc:ZR X (.builtin id) r)(j:Gl X x)(i:X.mg x=none)(f:Bo x=some (.builtin id))(l:PA X (e::es) t)(g:x≠ "__name__":=by decide)(b:(x==("__debug__":Ti))=false:=by decide)(k:Aj (e::es) X.env=(false,eval e X.env)::Aj es X.env:=by rfl)(a:(Fx pos (Aj es X.env)).any (·.1)=false:=by rfl):PE X (.Call (.Name x p) (e::es) [] pos) (tCB r t):=by intro aa s σ H Q I h;refine Fs (RM I j i f ?_ g b);exact PyProof.Rows.callWith_builtin1 (ZB (l pos aa s σ H _ I h) λc s1 ⟨vs,H1,m,d,q1⟩=>hc aa s1 σ H1 vs c Q m d q1) k a
theorem VV(hc:ZR X (.type T) r)(j:Gl X x)(i:X.mg x=none)(f:Bo x=some (.type T))(l:PA X (e::es) t)(g:x≠ "__name__":=by decide)(b:(x==("__debug__":Ti))=false:=by decide)(k:Aj (e::es) X.env=(false,eval e X.env)::Aj es X.env:=by rfl)(a:(Fx pos (Aj es X.env)).any (·.1)=false:=by rfl):PE X (.Call (.Name x p) (e::es) [] pos) (tCB r t):=by intro aa s σ H Q I h;refine Fs (RM I j i f ?_ g b);exact El (ZB (l pos aa s σ H _ I h) λc s1 ⟨vs,H1,m,d,q1⟩=>hc aa s1 σ H1 vs c Q m d q1) k a
end
end L2
namespace HT
open PySem PyProof.Rows
section
variable{prog:Br}{w:Tl}{A:Df}{E:Te->Ah->Prop}{s:Ah}
theorem zEV{t b:Tf}{vs ws:List Te}{Q:Te->Ah->Prop}(o:IsTup s.heap t vs.toArray)(hb:IsTup s.heap b ws.toArray)(k:vs≠[])(h1:ws=[]->Q (.ref t) s)(h2:ws≠[]->Q (.ref s.heap.objs.size) {s with heap:=s.heap.push {cls:=.type "tuple",data:=.seq (vs++ws).toArray}})(hsz:vs.length+ws.length<=sizeLine):Tg (Th prog w) A (Gj .Add (.ref t) (.ref b)) Q E s:=by
 obtain⟨⟨cls,m,data,i⟩,h,hc,n,l⟩:=id o;obtain⟨⟨p,g,data2,c⟩,a,f,j,d⟩:=id hb;simp only at hc l f d;subst hc l f d;have e:vs.toArray++ws.toArray=(vs++ws).toArray:=by simp
 by_cases hw:ws=[]
 ·exact Mg ⟨_,h,rfl⟩ ⟨_,a,rfl⟩ Lo Nu Ib Hu (Hl _ _)
   (tuple_addW1 t b vs.toArray ws.toArray n j m g i c (by simpa using k) (by simp[hw])) ⟨h,a,h1 hw⟩
 ·refine Mg ⟨_,h,rfl⟩ ⟨_,a,rfl⟩ Lo Nu Ib Hu (Hl _ _)
   (tuple_addW2 t b vs.toArray ws.toArray n j m g i c (by simpa using k) (by simpa using hw) (by rw[At,At];exact hsz)) ⟨h,a,?_⟩
  rw[e];exact h2 hw
noncomputable def sIx(n d:Nat):Option Int->Nat
 |none=>d
 |some v=>if v<0 then(v+(n:Int)).toNat else min v.toNat n
theorem HN(n d:Nat):sIx n d none=d:=rfl
theorem DX(n d k:Nat):sIx n d (some (k:Int))=min k n:=by show(if(k:Int)<0 then((k:Int)+(n:Int)).toNat else min (k:Int).toNat n)=min k n;rw[if_neg (by lia),Dt]
theorem Yh(n d:Nat)(b:d<=n)(o:Option Int):sIx n d o<=n:=by
 cases o with
 |none=>exact b
 |some v=>
  show(if v<0 then(v+(n:Int)).toNat else min v.toNat n)<=n;by_cases a:v<0
  ·rw[if_pos a];lia
  ·rw[if_neg a];exact Nat.min_le_right _ _
theorem CK(v:Int)(n d:Nat):(if v<0 then max (v+(n:Int)) 0 else min v (n:Int))=((sIx n d (some v):Nat):Int):=by
 show(if v<0 then max (v+(n:Int)) 0 else min v (n:Int))=(((if v<0 then(v+(n:Int)).toNat else min v.toNat n):Nat):Int);by_cases a:v<0
 ·simp only[if_pos a];lia
 ·simp only[if_neg a];lia
theorem EG(lo hi:Option Int)(n:Nat):Hd lo hi 1 (n:Int)=(((sIx n 0 lo:Nat):Int),((sIx n n hi:Nat):Int)):=by
 have h1:¬((1:Int)<0):=by lia
 unfold Hd;simp only[h1,if_false];refine Ta ?_ ?_
 ·cases lo with
  |none=>rfl
  |some v=>exact CK v n 0
 ·cases hi with
  |none=>rfl
  |some v=>exact CK v n n
theorem FC(i j:Nat):Fv (i:Int) (j:Int) 1=j - i:=by
 unfold Fv;have h1:(1:Int)>0:=by lia
 simp only[h1,if_true,Int.ediv_one];split<;>lia
theorem NK{v:Te}{o:Option Int}{Q:Option Int->Ah->Prop}(p:IsPart v o)(h:Q o s):Tg (Th prog w) A (Py v) Q E s:=by
 cases p with
 |none=>exact slicePart_none h
 |int i t=>exact slicePart_int h
theorem VZ{e:Tf}{d c:Te}{lo hi:Option Int}{n:Nat}{Q:Int×Int×Nat->Ah->Prop}(hs:s.heap.IsSliceOf e d c .none)(f:IsPart d lo)(pu:IsPart c hi)(h:Q (((sIx n 0 lo:Nat):Int),1,sIx n n hi - sIx n 0 lo) s):Tg (Th prog w) A (Kb (.ref e) (pure (n:Int))) Q E s:=by obtain⟨os,a,g,b⟩:=id hs;unfold Kb Rf;refine Ac (Ac (Em a b (x:=d) rfl (Ac (Em a b (x:=c) rfl (Ac (Em a b (x:=.none) rfl (An ?_)))))));refine Ac (slicePart_none ?_);show Tg _ _ (if((1:Int)==0)=true then _ else _) _ _ s;rw[if_neg (by decide)];refine Ac (NK f (Ac (NK pu (Ac (An ?_)))));show Tg _ _ (match Hd lo hi 1 (n:Int) with|(lo,hi)=>pure (lo,(1:Int),Fv lo hi 1)) _ _ s;rw[EG lo hi n];show Tg _ _ (pure (((sIx n 0 lo:Nat):Int),(1:Int),Fv ((sIx n 0 lo:Nat):Int) ((sIx n n hi:Nat):Int) 1)) _ _ s;rw[FC];exact An h
theorem dU(xs:Array Te)(i k:Nat):((Au k).filterMap λ(m:Nat)=>xs[((i:Int)+(m:Int)*1).toNat]?).toArray=((xs.toList.drop i).take k).toArray:=by
 have e:(λ(m:Nat)=>xs[((i:Int)+(m:Int)*1).toNat]?)=λm=>xs[i+m]? :=by
  funext m;have:((i:Int)+(m:Int)*1).toNat=i+m:=by lia
  rw[this]
 rw[e];have:=pick_run xs i k;rw[List.filterMap_map] at this;have a:((λx=>xs[x]?)∘λx=>i+x)=λm=>xs[i+m]? :=rfl;rw[a] at this;rw[this]
theorem QO{t c:Tf}{items:Array Te}{j i:Te}{lo hi:Option Int}{Q:Te->Ah->Prop}(a:IsTup s.heap t items)(hs:s.heap.IsSliceOf c j i .none)(k:IsPart j lo)(pu:IsPart i hi)(hw:¬(sIx items.size 0 lo=0/\sIx items.size items.size hi=items.size))(h:Q (.ref s.heap.objs.size) {s with heap:=s.heap.push {cls:=.type "tuple",data:=.seq ((items.toList.drop (sIx items.size 0 lo)).take (sIx items.size items.size hi - sIx items.size 0 lo)).toArray}})(hsz:items.size<=sizeLine):Tg (Th prog w) A (Lc (.ref t) (.ref c)) Q E s:=by
 have b:sizeOk (.seq ((items.toList.drop (sIx items.size 0 lo)).take (sIx items.size items.size hi - sIx items.size 0 lo)).toArray):=by show((items.toList.drop (sIx items.size 0 lo)).take (sIx items.size items.size hi - sIx items.size 0 lo)).toArray.size<=sizeLine;rw[At,Bt,Pl,Et];lia
 have n:sIx items.size items.size hi<=items.size:=Yh _ _ (Ak _) hi;obtain⟨os,d,f,l⟩:=id hs;have g:s.TypeIs (.ref c) "slice":=⟨os,d,f⟩;unfold Lc;try with_reducible refine Cn ?_
 first|refine Ac (An ?_)|skip
 refine Ac (Kt a.typeIs (by decide) ?_);refine Ac (Du (name:=Am "__getitem__") a.typeIs Eu
  (Ep Eu a.typeIs entry_tuple_getitem ?_ (args_tuple_getitem _ _)))
 show Tg _ _ (Kc (.ref t)>>=_) _ _ s;refine Ac (tupleItemsOf_ a ?_);refine Ac (Ki g ?_);rw[if_pos (by decide)];refine Ac (VZ hs k pu ?_);have e:¬((((sIx items.size 0 lo:Nat):Int)==0&&(1:Int)==1&&(sIx items.size items.size hi - sIx items.size 0 lo)==items.size)=true):=by intro q;rw[Ag,Ag] at q;have q1:((sIx items.size 0 lo:Nat):Int)=0:=eq_of_beq q.1.1;have q2:sIx items.size items.size hi - sIx items.size 0 lo=items.size:=eq_of_beq q.2;exact hw ⟨by lia,by lia⟩
 show Tg _ _ (if(((sIx items.size 0 lo:Nat):Int)==0&&(1:Int)==1&&(sIx items.size items.size hi - sIx items.size 0 lo)==items.size)=true then _ else _) _ _ s;rw[if_neg e,dU]
 first
  |exact Ac (m:=Gb _) (Dd (An ⟨_,rfl,An h⟩) b)
  |exact Ac (m:=Gb _) (Dd (Ac (An (An ⟨_,rfl,An h⟩))) b)
  |exact Ac (Ac (m:=Gb _) (Dd (An (An ⟨_,rfl,An h⟩)) b))
  |exact Ac (Ac (m:=Gb _) (Dd (An ⟨_,rfl,An h⟩) b))
end
end HT
namespace L2
open PySem PySem.Spec PyProof.Rows
abbrev TO:=St->Hp->(Option Int->Hp->Prop)->Prop
def PO(X:Cx)(e:Option Tj)(t:TO):Prop:=
 ∀(aa:List (Tf×Tq)) (s:Ah) (σ:St) (H:Hp) (Q:Option Int->Hp->Prop),cE X aa σ H s->t σ H Q->
  Tg (Th X.prog X.w) X.A (evalPart e X.env) (λu s'=>∃o H',cE X aa σ H' s'/\IsPart u o/\Q o H') X.xe s
def jI:TO:=λ_ H Q=>Q none H
def oD(t:TE):TO:=λσ H Q=>t σ H λx H1=>∃i,x=.int i/\Q (some i) H1
section
variable{X:Cx}{e:Tj}{te:TE}{lo hi:Option Tj}{tl th:TO}{pos p2:Pos}
theorem zE1:PO X none jI:=by intro aa s σ H Q I h;rw[evalPart_none];exact An ⟨none,H,I,.none,h⟩
theorem mY(h:PE X e te):PO X (some e) (oD te):=by intro aa s σ H Q I hw;rw[evalPart_some];refine ZB (h aa s σ H _ I hw) λu s1 ⟨x,H1,b,a,q1⟩=>?_;obtain⟨i,rfl,q⟩:=q1;obtain⟨t,rfl⟩:=a;exact⟨some i,H1,b,.int i t,q⟩
def SlR(X:Cx)(r:V->Option Int->Option Int->Hp->VK->Prop):Prop:=
 ∀(aa:List (Tf×Tq)) (s:Ah) (σ:St) (H:Hp) (x:V) (v b a:Te) (lo hi:Option Int) (c:Tf) (Q:VK),cE X aa σ H s->bO x v->s.heap.IsSliceOf c b a .none->IsPart b lo->IsPart a hi->r x lo hi H Q->
  ∃T id,typeLookup (.type T) "__getitem__"=pure (some (.builtin id))/\s.TypeIs v T/\Tg (Th X.prog X.w) X.A (Lc v (.ref c)) (EP X aa σ Q) X.xe s
theorem SlR.or{r r':V->Option Int->Option Int->Hp->VK->Prop}(h:SlR X r)(h':SlR X r'):SlR X (λx lo hi H Q=>r x lo hi H Q∨r' x lo hi H Q):=by
 intro aa s σ H x v b a lo hi c Q I d hs e pu q;rcases q with q|q
 ·exact h aa s σ H x v b a lo hi c Q I d hs e pu q
 ·exact h' aa s σ H x v b a lo hi c Q I d hs e pu q
def tSl(r:V->Option Int->Option Int->Hp->VK->Prop)(te:TE)(tl th:TO):TE:=λσ H Q=>te σ H λx H1=>tl σ H1 λl H2=>th σ H2 λu a=>r x l u a Q
theorem fJ{r:V->Option Int->Option Int->Hp->VK->Prop}(n:SlR X r)(p:PE X e te)(hl:PO X lo tl)(k:PO X hi th):PE X (.Subscript e (.Slice lo hi none p2) pos) (tSl r te tl th):=by intro aa s σ H Q I h;refine Subscript_ (ZB (p aa s σ H _ I h) λv s1 ⟨x,H1,C,i,q1⟩=>?_);refine wpAny_Slice (ZB (hl aa s1 σ H1 _ C q1) λd g ⟨l,H2,B,j,q2⟩=>ZB (k aa g σ H2 _ B q2) λc a ⟨u,f,z,pu,q3⟩=>?_);rw[evalPart_none];refine An ?_;have y:cE X aa σ f {a with heap:=a.heap.push {cls:=.type "slice",data:=.fields #[d,c,.none]}}:=z.kept (t':=a.toks) λb D q=>Ae _ q;obtain⟨T,id,t,m,o⟩:=n aa {a with heap:=a.heap.push {cls:=.type "slice",data:=.fields #[d,c,.none]}} σ f x v d c l u a.heap.objs.size Q y i (Tb ..) j pu q3;show Tg (Th X.prog X.w) X.A (subscriptTail e (.Slice lo hi none p2) v (.ref a.heap.objs.size)) (EP X aa σ Q) X.xe {a with heap:=a.heap.push {cls:=.type "slice",data:=.fields #[d,c,.none]}};exact Rw (ops:=[.ref a.heap.objs.size,v]) m t o (by with_unfolding_all rfl)
noncomputable def GC(xs:List V)(lo hi:Option Int):List V:=(xs.drop (HT.sIx xs.length 0 lo)).take (HT.sIx xs.length xs.length hi - HT.sIx xs.length 0 lo)
theorem OL(xs:List V)(lo hi:Option Int):(GC xs lo hi).length<=xs.length:=by unfold GC;rw[Bt,Pl];lia
def rSlT(K:As):V->Option Int->Option Int->Hp->VK->Prop:=λx lo hi H Q=>∃a xs,x=.ref a/\V0 K H a xs∧
 ¬(HT.sIx xs.length 0 lo=0/\HT.sIx xs.length xs.length hi=xs.length)/\∀p,H p=none->Q (.ref p) (aN H p (.tup (GC xs lo hi)))
theorem zGJ:SlR X (rSlT X.K):=by
 intro aa s σ H x v k j lo hi l Q I f hs g pu h;obtain⟨a,xs,rfl,i,hw,q⟩:=h;cases f;obtain⟨its,r,e,d⟩:=I.tuple i;have c:its.toArray.size=xs.length:=by rw[At];exact r.length.symm
 refine⟨"tuple",_,PyProof.Rows.slot_tuple_getitem.lookup,e.typeIs,?_⟩;refine HT.QO e hs g pu (by rw[c];exact hw) ?_ (by rw[c];exact d);rw[c];refine⟨.ref s.heap.objs.size,_,I.laid (t':=s.toks) (o:=.tup (GC xs lo hi)) (λb m q=>Ae _ q) (Ak _) ?_,rfl,q _ (I.hok.fresh (Ak _))⟩;exact⟨Ce (OL xs lo hi) d,_,(r.drop (HT.sIx xs.length 0 lo)).take (HT.sIx xs.length xs.length hi - HT.sIx xs.length 0 lo),Kr _ _⟩
theorem bJ.nil_iff{xs:List V}{a:List Te}(r:bJ xs a):a=[]↔xs=[]:=by
 cases r with
 |nil=>simp
 |cons _ _=>simp
end
noncomputable def K4(n:Nat)(i:Int):Option Nat:=if 0<=i then(if i<n then some i.toNat else none) else if -(n:Int)<=i then some (i+n).toNat else none
noncomputable def WU{α:Type}(xs:List α)(i:Int):Option α:=(K4 xs.length i).bind λj=>xs[j]?
theorem CU{n:Nat}{i:Int}{j:Nat}(h:K4 n i=some j):seqIndex? i n=some j/\j<n/\ -(n:Int)<=i/\i<n:=by
 unfold K4 at h;by_cases a:0<=i
 ·rw[if_pos a] at h
  by_cases h1:i<n
  ·rw[if_pos h1] at h
   have e:i.toNat=j:=Bw h;exact⟨by rw[Ql a h1,e],by lia,by lia,h1⟩
  ·rw[if_neg h1] at h;cases h
 ·rw[if_neg a] at h
  by_cases h1: -(n:Int)<=i
  ·rw[if_pos h1] at h
   have e:(i+n).toNat=j:=Bw h;exact⟨by rw[Pd (by lia) h1,e],by lia,h1,by lia⟩
  ·rw[if_neg h1] at h;cases h
theorem IK{α:Type}{xs:List α}{i:Int}{v:α}(h:WU xs i=some v):∃j,seqIndex? i xs.length=some j/\xs[j]?=some v/\j<xs.length/\ -(xs.length:Int)<=i/\i<xs.length:=by
 unfold WU at h;cases e:K4 xs.length i with
 |none=>rw[e] at h;cases h
 |some j=>
  rw[e] at h;obtain⟨h1,h2,b,a⟩:=CU e;exact⟨j,h1,h,h2,b,a⟩
theorem QE{α:Type}(xs:List α)(v:α):WU (xs++[v]) (-1)=some v:=by
 have hl:(xs++[v]).length=xs.length+1:=by simp
 have e:K4 (xs++[v]).length (-1)=some xs.length:=by unfold K4;rw[hl,if_neg (by decide),if_pos (by lia)];congr 1;lia
 unfold WU;rw[e];show(xs++[v])[xs.length]?=some v;simp
def IF(b:Tj):Prop:=∀o i,subscripted b false o i=operate [o,i] (Lc o i)
def AA(X:Cx)(r:R2):Prop:=
 ∀(value a:Tj) (aa:List (Tf×Tq)) (s:Ah) (σ:St) (H:Hp) (x y:V) (v u:Te) (Q:VK),cE X aa σ H s->bO x v->bO y u->r x y H Q->
  subscripted a false v u=operate [v,u] (Lc v u)->Tg (Th X.prog X.w) X.A (subscriptTail value a v u) (EP X aa σ Q) X.xe s
def MtR(X:Cx)(id:String)(r:V->List V->Hp->VK->Prop):Prop:=
 ∀(aa:List (Tf×Tq)) (s:Ah) (σ:St) (H:Hp) (x:V) (xs:List V) (v:Te) (a:List Te) (Q:VK),cE X aa σ H s->bO x v->bJ xs a->r x xs H Q->
  Tg (Th X.prog X.w) X.A (call (.builtin id) (v::a)) (EP X aa σ Q) X.xe s
section
variable{X:Cx}{a b:Tj}{ta tb:TE}{pos:Pos}
theorem AA.or{r r':R2}(h:AA X r)(h':AA X r'):AA X (λx y H Q=>r x y H Q∨r' x y H Q):=by
 intro value a aa s σ H x y v u Q I c b q hs;rcases q with q|q
 ·exact h value a aa s σ H x y v u Q I c b q hs
 ·exact h' value a aa s σ H x y v u Q I c b q hs
theorem gQ{r:R2}(f:AA X r)(g:PE X a ta)(hb:PE X b tb)(hs:IF b):PE X (.Subscript a b pos) (tOp r ta tb):=by intro aa s σ H Q I h;exact Subscript_ (binT g hb I h λv u c x y H2 i e d q=>f a b aa c σ H2 x y v u Q i e d q (hs _ _))
def rIxL(K:As):R2:=λx y H Q=>∃p xs i v,x=.ref p/\y=.int i/\WT K H p xs/\WU xs i=some v/\Q v H
def rIxT(K:As):R2:=λx y H Q=>∃p xs i v,x=.ref p/\y=.int i/\V0 K H p xs/\WU xs i=some v/\Q v H
def rIxS:R2:=λx y H Q=>∃z i c,x=.str z/\y=.int i/\z.length<=sizeLine/\WU z.cps.toList i=some c/\Q (.str ⟨#[c]⟩) H
theorem zEL:AA X (rIxL X.K):=by
 intro value b aa s σ H x y v u Q I l k h hs;obtain⟨p,xs,i,z,rfl,rfl,m,n,q⟩:=h;cases l;obtain⟨t,rfl⟩:=k;obtain⟨its,r,d,B⟩:=I.list m;obtain⟨j,h1,h2,D,A,o⟩:=IK n;obtain⟨w,g,c⟩:=r.get h2;have hl:=r.length;have C:=PR;have a:EP X aa σ Q w s:=⟨z,H,I,c,q⟩;by_cases f:0<=i
 ·have e:i.toNat=j:=by rw[Ql f o] at h1;exact Bw h1
  exact item_listR d.isList f (by lia) (by rw[e];simpa using g) a hs
 ·have e:(i+(its.toArray.size:Int)).toNat=j:=by rw[Pd (by lia) A] at h1;rw[At,<- hl];exact Bw h1
  exact Lu (x:=w) d.isList.typeIs slot_list_getitem.lookup
   (wpAny_getItem_list_neg (Q:=λr s'=>r=w/\EP X aa σ Q r s') d.isList (by lia) (by rw[At]<;>lia) (by lia) (by rw[e];simpa using g) ⟨rfl,a⟩) hs
theorem zJI:AA X (rIxT X.K):=by
 intro value a aa s σ H x y v u Q I f e h hs;obtain⟨p,xs,i,z,rfl,rfl,g,k,q⟩:=h;cases f;obtain⟨t,rfl⟩:=e;obtain⟨its,r,d,m⟩:=I.tuple g;obtain⟨j,h1,h2,B,A,o⟩:=IK k;obtain⟨w,l,b⟩:=r.get h2;have hl:=r.length;have n:=PR;have c:EP X aa σ Q w s:=⟨z,H,I,b,q⟩;exact Lu (x:=w) d.typeIs slot_tuple_getitem.lookup
  (getItem_tuple (j:=j) (Q:=λr s'=>r=w/\EP X aa σ Q r s') d (by lia) (by lia) (by rw[At,<-hl];exact h1) (by simpa using l) ⟨rfl,c⟩) hs
theorem iG:AA X rIxS:=by
 intro value a aa s σ H x y v u Q I d b h hs;obtain⟨z,i,c,rfl,rfl,m,e,q⟩:=h;obtain⟨t,rfl⟩:=d;obtain⟨t',rfl⟩:=b;obtain⟨j,h1,h2,o,g,f⟩:=IK e;have hl:z.cps.toList.length=z.length:=by simp[Str.length]
 rw[hl] at h1 g f;have n:=PR;exact Rw (typeIs_str s z t) slot_str_getitem.lookup (getItem_str (c:=c) (by have l:decide (i< -(2 ^ 63:Int))=false:=decide_eq_false (by lia);have k:decide (i≥2 ^ 63)=false:=decide_eq_false (by lia);rw[l,k,Bool.or_false]) (by rw[h1];simpa using h2) ⟨.str ⟨#[c]⟩,H,I.tok _,⟨_,rfl⟩,q⟩) hs
def rIx(K:As):R2:=λx y H Q=>rIxL K x y H Q∨rIxT K x y H Q∨rIxS x y H Q
theorem zJK:AA X (rIx X.K):=zEL.or (zJI.or iG)
theorem E1(its:List Te)(n j:Nat)(u:Te):Fc (·.setIfInBounds j u) {cls:=.type "list",data:=.seq its.toArray n}={cls:=.type "list",data:=.seq (its.set j u).toArray n}:=by simp[Fc]
theorem cE.lst{aa:List (Tf×Tq)}{σ:St}{H:Hp}{s:Ah}{p:Tf}{xs:List V}(I:cE X aa σ H s)(h:H p=some (.lst xs)):∃(its:List Te) (n:Nat),bJ xs its/\s.heap.get? p=some {cls:=.type "list",data:=.seq its.toArray n}/\xs.length<=sizeLine:=by obtain⟨z,its,n,r,e⟩:=I.hok p _ h;exact⟨its,n,r,e,z⟩
theorem cE.lstUpd{aa:List (Tf×Tq)}{σ:St}{H:Hp}{s:Ah}{p:Tf}{xs ys:List V}{its its':List Te}{n a:Nat}{f:Tq->Tq}(I:cE X aa σ H s)(h:H p=some (.lst xs))(g:s.heap.get? p=some {cls:=.type "list",data:=.seq its.toArray n})(c:f {cls:=.type "list",data:=.seq its.toArray n}={cls:=.type "list",data:=.seq its'.toArray a})(r:bJ ys its')(d:ys.length<=sizeLine)(t:Nat):cE X aa σ (aN H p (.lst ys)) {s with heap:=s.heap.update p f,toks:=t}:=by
 have e:(s.heap.update p f).get? p=some {cls:=.type "list",data:=.seq its'.toArray a}:=by rw[Mh f g (by rw[c]<;>rfl),c]
 refine I.write (x:=p) (e:=p) (by rw[h];trivial) (.inl rfl) (λb u hb q=>(Lv _ _ (Dn hb)).trans q) ⟨_,e⟩ ?_;exact⟨d,its',a,r,e⟩
def lS:V->V->V->Hp->(Hp->Prop)->Prop:=λo i v H Q=>∃p xs k j,o=.ref p/\i=.int k/\H p=some (.lst xs)/\K4 xs.length k=some j/\Q (aN H p (.lst (xs.set j v)))
theorem nY:PSet X lS:=by
 intro aa s σ H o i v z A u Q I m w l h;obtain⟨p,xs,k,j,rfl,rfl,c,y,q⟩:=h;cases m;obtain⟨t,rfl⟩:=w;obtain⟨its,n,r,a,x⟩:=I.lst c;obtain⟨h1,h2,e,d⟩:=CU y;have hl:=r.length;have B:=PR;have g:cE X aa σ (aN H p (.lst (xs.set j v))) {s with heap:=s.heap.update p (Fc (·.setIfInBounds j u))}:=
  I.lstUpd c a (E1 its n j u) (r.set l j) (by rw[Bz];exact x) s.toks
 by_cases f:0<=k
 ·have b:k.toNat=j:=by rw[Ql f d] at h1;exact Bw h1
  exact W.ki_setAt a f (by lia) (by rw[At,<-hl];exact d) (by rw[b];exact⟨_,g,q⟩)
 ·have b:(k+(its.toArray.size:Int)).toNat=j:=by rw[Pd (by lia) e] at h1;rw[At,<- hl];exact Bw h1
  exact W.ki_setBack a (by lia) (by rw[At,<-hl];exact e) (by lia) (by rw[b];exact⟨_,g,q⟩)
theorem JZ(lo hi:Option Int)(n:Nat):(Ii lo hi none n).1=((HT.sIx n 0 lo:Nat):Int)/\(Ii lo hi none n).2.1=((HT.sIx n n hi:Nat):Int)/\(Ii lo hi none n).2.2=1:=by
 refine⟨?_,?_,rfl⟩
 ·cases lo with
  |none=>simp[Ii,HT.sIx]
  |some i=>
   simp only[Ii,HT.sIx,Pn,show(1:Int)>0 by decide,if_true];by_cases h:i<0
   ·simp only[h,if_true]<;>lia
   ·simp only[h,if_false]<;>lia
 ·cases hi with
  |none=>simp[Ii,HT.sIx]
  |some i=>
   simp only[Ii,HT.sIx,Pn,show(1:Int)>0 by decide,if_true];by_cases h:i<0
   ·simp only[h,if_true]<;>lia
   ·simp only[h,if_false]<;>lia
theorem MB(its:List Te)(lo hi:Option Int):slicePick its.toArray lo hi none=((its.drop (HT.sIx its.length 0 lo)).take (HT.sIx its.length its.length hi - HT.sIx its.length 0 lo)).toArray:=by obtain⟨h1,h2,a⟩:=JZ lo hi its.toArray.size;unfold slicePick;rw[h1,h2,a];simp only[sliceRange_one,pick_run,At]<;>rfl
def rSlL(K:As):V->Option Int->Option Int->Hp->VK->Prop:=λx lo hi H Q=>∃a xs,x=.ref a/\WT K H a xs/\∀p,H p=none->Q (.ref p) (aN H p (.lst (GC xs lo hi)))
theorem jA:SlR X (rSlL X.K):=by intro aa s σ H x v k j lo hi l Q I d hs e pu h;obtain⟨a,xs,rfl,g,q⟩:=h;cases d;obtain⟨its,r,c,f⟩:=I.list g;have i:=r.length;refine⟨"list",_,slot_list_getitem.lookup,c.isList.typeIs,?_⟩;refine wpAny_getItem_list_slice c.isList hs e pu .none (by simp) ?_ (by rw[At]<;>lia);rw[MB,<-i];refine⟨.ref s.heap.objs.size,_,I.laid (t':=s.toks) (o:=.lst (GC xs lo hi)) (λb m q=>Ae _ q) (Ak _) ?_,rfl,q _ (I.hok.fresh (Ak _))⟩;exact⟨Ce (OL xs lo hi) f,_,0,(r.drop (HT.sIx xs.length 0 lo)).take (HT.sIx xs.length xs.length hi - HT.sIx xs.length 0 lo),Ay _ rfl⟩
theorem IN:ZR X (.builtin "len") (λxs H Q=>∃p ys,xs=[.ref p]/\(WT X.K H p ys∨V0 X.K H p ys)/\Q (.int ys.length) H):=by
 intro aa s σ H xs f Q I r h;obtain⟨p,ys,rfl,a,q⟩:=h;obtain⟨u,rfl,d⟩:=R7 r;cases d;have g:=PR;rcases a with a|a
 ·obtain⟨its,r',b,e⟩:=I.list a
  have c:=r'.length;exact Calls.call_len_list b.isList (by simp only[At]<;>lia) ⟨.int ys.length,H,I.tok _,⟨s.toks+1,by rw[At,c]⟩,q⟩
 ·obtain⟨its,r',b,e⟩:=I.tuple a
  have c:=r'.length;exact len_tuple b (by simp only[At]<;>lia) ⟨.int ys.length,H,I.tok _,⟨s.toks+1,by rw[At,c]⟩,q⟩
theorem IP:ZR X (.builtin "len") (λxs H Q=>∃z,xs=[.str z]/\z.length<=sizeLine/\Q (.int z.length) H):=by intro aa s σ H xs a Q I r h;obtain⟨z,rfl,b,q⟩:=h;obtain⟨u,rfl,t,rfl⟩:=R7 r;have c:=PR;exact len_str (by lia) ⟨.int z.length,H,I.tok _,⟨_,rfl⟩,q⟩
theorem ZR.or{f:Te}{r r':List V->Hp->VK->Prop}(h:ZR X f r)(h':ZR X f r'):ZR X f (λxs H Q=>r xs H Q∨r' xs H Q):=by
 intro aa s σ H xs a Q I b q;rcases q with q|q
 ·exact h aa s σ H xs a Q I b q
 ·exact h' aa s σ H xs a Q I b q
theorem IQ:ZR X (.type "list") (λxs H Q=>∃p ys,xs=[.ref p]/\(WT X.K H p ys∨V0 X.K H p ys)/\∀l,H l=none->Q (.ref l) (aN H l (.lst ys))):=by
 intro aa s σ H xs t Q I r h;obtain⟨p,ys,rfl,d,q⟩:=h;obtain⟨u,rfl,k⟩:=R7 r;cases k;have f:∀(its:List Te),bJ ys its->ys.length<=sizeLine->∀(h':Tp) (a:Nat),(∀b o',s.heap.get? b=some o'->h'.get? b=some o')->
   h'.get? s.heap.objs.size=some {cls:=.type "list",dict:=none,data:=.seq its.toArray a,slots:= #[]}->EP X aa σ Q (.ref s.heap.objs.size) {s with heap:=h'}:=λits r' c h' a kp e=>
  ⟨.ref s.heap.objs.size,_,I.laid (t':=s.toks) kp (Ak _) (show ZJ X.prog X.w _ h' _ (.lst ys) from⟨c,its,a,r',e⟩),rfl,q _ (I.hok.fresh (Ak _))⟩
 rcases d with d|d
 ·obtain⟨its,r',g,c⟩:=I.list d
  have m:=r'.length;obtain⟨o,i,hc,n,j⟩:=g.isList;exact call_list_seq p (.inl rfl) i hc j (λh' a kp e=>f its r' c h' a kp e) (by simp only[At]<;>lia)
 ·obtain⟨its,r',g,c⟩:=I.tuple d
  have m:=r'.length;obtain⟨o,i,hc,n,j⟩:=g;exact call_list_seq p (.inr rfl) i hc j (λh' a kp e=>f its r' c h' a kp e) (by simp only[At]<;>lia)
theorem L5:ZR X (.type "tuple") (λxs H Q=>∃p ys,xs=[.ref p]/\((WT X.K H p ys/\∀l,H l=none->Q (.ref l) (aN H l (.tup ys)))∨(V0 X.K H p ys/\Q (.ref p) H))):=by
 intro aa s σ H xs j Q I r h;obtain⟨p,ys,rfl,h⟩:=h;obtain⟨u,rfl,g⟩:=R7 r;cases g;rcases h with⟨c,q⟩|⟨c,q⟩
 ·obtain⟨its,r',a,d⟩:=I.list c
  have k:=r'.length;refine call_tuple_list a.isList (λh' kp=>?_) (by simp only[At]<;>lia);have f:cE X aa σ H {s with heap:=h'}:=I.kept (t':=s.toks) kp;have i:cE X aa σ (aN H h'.objs.size (.tup ys)) {s with heap:=h'.push {cls:=.type "tuple",data:=.seq its.toArray}}:=
   f.laid (t':=s.toks) (λb o e=>Ae _ e) (Ak _) (show ZJ X.prog X.w _ _ _ (.tup ys) from⟨d,its,r',Kr _ _⟩)
  exact⟨.ref h'.objs.size,_,i,rfl,q _ (f.hok.fresh (Ak _))⟩
 ·obtain⟨its,r',a,d⟩:=I.tuple c
  exact call_tuple_same a ⟨.ref p,H,I,rfl,q⟩
def tyV(K:As)(T:String)(x:V)(H:Hp):Prop:=match x with
 |.str _=>T= "str"
 |.int _=>T= "int"
 | .ref p => (T = "list" /\ ∃ xs,WT K H p xs) ∨ (T = "tuple" /\ ∃ o,K.lookup p = some o /\ o.cls = .type "tuple" /\ o.dict = none) ∨
   (T= "dict" /\((∃kvs,H p=some (.dK kvs))∨∃kvs,H p=some (.dT kvs)))∨(T= "set" /\∃S n,H p=some (.set S n))
 |_=>False
theorem Yg{aa:List (Tf×Tq)}{σ:St}{H:Hp}{s:Ah}{T:String}{x:V}{v:Te}(I:cE X aa σ H s)(r:bO x v)(ty:tyV X.K T x H):s.TypeIs v T/\∀a,v=.ref a->∃h,s.heap.get? a=some h/\h.dict=none:=by
 cases x with
 |str z=>
  obtain⟨t,rfl⟩:=r;cases (show T= "str" from ty);exact⟨typeIs_str s z t,λ_ e=>nomatch e⟩
 |int i=>
  obtain⟨t,rfl⟩:=r;cases (show T= "int" from ty);exact⟨typeIs_int s i t,λ_ e=>nomatch e⟩
 |ref p=>
  cases r;rcases ty with⟨rfl,xs,j⟩|⟨rfl,o,b,hc,d⟩|⟨rfl,b⟩|⟨rfl,S,n,b⟩
  ·obtain⟨its,_,g,_⟩:=I.list j
   refine⟨g.isList.typeIs,λa e=>?_⟩;cases e;obtain⟨o,n,e,c,d,_⟩:=g;exact⟨o,e,d⟩
  ·refine ⟨⟨o,I.kIn p o b,hc⟩,λa e => ?_⟩
   cases e;exact⟨o,I.kIn _ o b,d⟩
  ·have z: ∃o,s.heap.get? p=some o/\o.ExactDict:=by
    rcases b with⟨kvs,b⟩|⟨kvs,b⟩
    ·obtain⟨_,_,_,_,o,_,_,e,ex,_⟩:=I.hok p _ b
     exact⟨o,e,ex⟩
    ·obtain⟨_,_,_,_,o,_,_,e,ex,_⟩:=I.hok p _ b
     exact⟨o,e,ex⟩
   obtain⟨o,e,ex⟩:=z;refine⟨⟨o,e,ex.1⟩,λa f=>?_⟩;cases f;exact⟨o,e,ex.2.1⟩
  ·obtain⟨o,_,_,_,e,ex,_⟩:=I.hok p _ b
   refine⟨⟨o,e,ex.1⟩,λa f=>?_⟩;cases f;exact⟨o,e,ex.2.1⟩
 |_=>exact Gw ty
def tBM(K:As)(T:String)(r:V->List V->Hp->VK->Prop)(to:TE)(t:TA):TE:=λσ H Q=>to σ H λx H1=>tyV K T x H1/\t σ H1 λxs H2=>r x xs H2 Q
variable{o e:Tj}{es:List Tj}{to:TE}{t:TA}{name:Ti}{ax ag:Pos}{T id:String}{r:V->List V->Hp->VK->Prop}
theorem dM(pa:PlainAttrs T)(slot:Slot T name id)(a:typeOf (.builtin id)=pure (.type "method_descriptor"))(k:MtR X id r)(j:PE X o to)(l:PA X (e::es) t)(n:Hv o name X.env (eval o X.env)=eval o X.env:=by rfl)(m:((Fx ag (Aj (e::es) X.env)).all (λx=> !x.1)&&(Nv ag (Jm [] X.env)).all (λx=>x.1.isSome)&&decide ((e::es).length+([]:List Jn).length+(if([]:List Jn).isEmpty then 0 else 1)<30))=true:=by rfl)(p:(ax.endLine==ag.line)=true:=by rfl)(hs:Aj (e::es) X.env=(false,eval e X.env)::Aj es X.env:=by rfl)(q:(Fx ag (Aj es X.env)).any (·.1)=false:=by rfl):PE X (.Call (.Attribute o name ax) (e::es) [] ag) (tBM X.K T r to t):=by intro aa s σ H Q I h;refine wpAny_Call_method_late n m p rfl (ZB (j aa s σ H _ I h) λv s1 ⟨x,H1,d,b,ty,q1⟩=>?_);obtain⟨h1,h2⟩:=Yg d b ty;refine⟨T,id,pa,slot,a,h1,h2,?_⟩;have c:=l ag aa s1 σ H1 _ d q1;rw[hs] at c⊢;refine Gh (by show(false || (Fx ag (Aj es X.env)).any (·.1))=false;rw[q]<;>rfl) (Hb ?_);exact ZB c λf g ⟨vs,H2,u,i,q2⟩=>k aa g σ H2 x vs v f Q u b i q2
end
def MtM(X:Cx)(id:String)(r:V->List V->Hp->VK->Prop):Prop:=
 ∀(aa:List (Tf×Tq)) (s:Ah) (σ:St) (H:Hp) (x:V) (xs:List V) (v:Te) (a:List Te) (Q:VK),cE X aa σ H s->bO x v->bJ xs a->r x xs H Q->
  Tg (Th X.prog X.w) X.A (call (.builtin id) (v::a)) (EP X aa σ Q) X.xe s
theorem bJ.one:∀{x:V} {a:List Te},bJ [x] a->∃u,a=[u]/\bO x u
 |_,_,.cons r .nil=>⟨_,rfl,r⟩
theorem bJ.eraseIdx:∀{xs:List V} {a:List Te} (i:Nat),bJ xs a->bJ (xs.eraseIdx i) (a.eraseIdx i)
 |_,_,_,.nil=>.nil
 |_,_,0,.cons _ t=>t
 |_,_,i+1,.cons r t=>.cons r (bJ.eraseIdx i t)
section
variable{X:Cx}{aa:List (Tf×Tq)}{σ:St}{H:Hp}{s:Ah}{l b:Tf}{xs ys zs:List V}
theorem cE.lset{its its':List Te}{n:Nat}{f:Array Te->Array Te}{t':Nat}(I:cE X aa σ H s)(g:H l=some (.lst xs))(e:s.heap.get? l=some {cls:=.type "list",data:=.seq its.toArray n})(d:f its.toArray=its'.toArray)(b:bJ ys its')(a:ys.length<=sizeLine):cE X aa σ (aN H l (.lst ys)) {s with heap:=s.heap.update l (Fc f),toks:=t'}:=by have q:=PySem.IsL.update e f;rw[d] at q;refine I.write (x:=l) (e:=l) (by rw[g];exact trivial) (.inl rfl) (λh u hb c=>(Lv s.heap (Fc f) (Dn hb)).trans c) ⟨_,q⟩ ?_;exact⟨a,its',_,b,q⟩
theorem cE.lnew{its:List Te}{t':Nat}(I:cE X aa σ H s)(b:bJ ys its)(a:ys.length<=sizeLine):cE X aa σ (aN H s.heap.objs.size (.lst ys)) {s with heap:=s.heap.push {cls:=.type "list",data:=.seq its.toArray},toks:=t'}:=
 I.laid (λ_ _ q=>Ae _ q) (Ak _) ⟨a,its,0,b,Ay _ rfl⟩
theorem cE.fresh(I:cE X aa σ H s):H s.heap.objs.size=none:=I.hok.fresh (Ak _)
theorem cE.lstM(I:cE X aa σ H s)(a:H l=some (.lst xs)):xs.length<=sizeLine/\∃(its:List Te) (n:Nat),bJ xs its/\xs.length=its.length/\s.heap.get? l=some {cls:=.type "list",data:=.seq its.toArray n}:=by obtain⟨z,its,n,r,e⟩:=I.hok l _ a;exact⟨z,its,n,r,r.length,e⟩
end
section
variable{X:Cx}
def DO:V->List V->Hp->VK->Prop:=λx vs H Q=>∃l xs y,x=.ref l/\vs=[y]/\H l=some (.lst xs)/\xs.length<sizeLine/\Q .non (aN H l (.lst (xs++[y])))
theorem aF:MtM X "list.append" DO:=by intro aa s σ H x vs v f Q I b c h;obtain⟨l,xs,y,rfl,rfl,a,g,q⟩:=h;cases b;obtain⟨u,rfl,d⟩:=c.one;obtain⟨z,its,n,r,hl,e⟩:=I.lstM a;refine Om F.slot_list_append ⟨_,e,rfl⟩ F.entry_list_append (F.args_list_append_2 _ _) (PySem.list_append l its.toArray n u (by rw[At];lia)) ⟨e,?_⟩;refine⟨.non,_,I.lset (its':=its++[u]) a e (by simp) (r.append (.cons d .nil)) ?_,rfl,q⟩;rw[Cf,Ex];lia
end
section
variable{prog:Br}{w:Tl}{A:Df}{E:Te->Ah->Prop}{s:Ah}
set_option maxRecDepth 100000 in
end
section
variable{κ:Type}[DecidableEq κ]
noncomputable def SE(kvs:List (κ×V))(k:κ):Option V:=(kvs.find? λa=>decide (a.1=k)).map (·.2)
noncomputable def W7(kvs:List (κ×V))(k:κ)(v:V):List (κ×V):=
 if(kvs.any λa=>decide (a.1=k))=true then kvs.map (λa=>if a.1=k then(a.1,v) else a) else kvs++[(k,v)]
theorem Q4{p:κ×V}{r:List (κ×V)}{k:κ}(e:p.1=k):SE (p::r) k=some p.2:=by simp[SE,Gq,e]
theorem UH{p:κ×V}{r:List (κ×V)}{k:κ}(e:¬p.1=k):SE (p::r) k=SE r k:=by simp[SE,Gq,e]
theorem NN(k:κ):∀kvs:List (κ×V),(kvs.any λa=>decide (a.1=k))=(SE kvs k).isSome
 |[]=>rfl
 |p::r=>by
  rw[Jb];by_cases e:p.1=k
  ·simp only[Q4 e,decide_eq_true e,Bool.true_or,Nw]
  ·rw[UH e,decide_eq_false e,Nx];exact NN k r
theorem ON(kvs:List (κ×V))(k:κ)(v:V):(W7 kvs k v).length<=kvs.length+1:=by
 unfold W7;split
 ·rw[Cd];lia
 ·rw[Cf,Bu,Gr];lia
theorem dN{kvs:List (κ×V)}{k:κ}(v:V)(h:SE kvs k=none):W7 kvs k v=kvs++[(k,v)]:=by unfold W7;rw[NN,h];exact if_neg (by decide)
theorem O9.isSome_eq{o:Option V}{u:Option Te}(r:O9 o u):o.isSome=u.isSome:=by
 cases o with
 |none=>cases u with
  |none=>rfl
  |some _=>exact(show False from r).elim
 |some _=>cases u with
  |none=>exact(show False from r).elim
  |some _=>rfl
theorem O9.getD{o:Option V}{u:Option Te}{d:V}{d':Te}(r:O9 o u)(rd:bO d d'):bO (o.getD d) (u.getD d'):=by
 cases o with
 |none=>cases u with
  |none=>exact rd
  |some _=>exact(show False from r).elim
 |some _=>cases u with
  |none=>exact(show False from r).elim
  |some _=>exact r
theorem KV.val{kvs:List (κ×V)}{vs:List (κ×Te)}(r:KV kvs vs)(k:κ):O9 (SE kvs k) (Oo vs k):=by
 unfold KV at r;induction r with
 |nil=>exact True.intro
 | @cons p q ps a h t d=>
  obtain⟨h1,h2⟩:=h;by_cases e:p.1=k
  ·have c:q.1=k:=h1.symm.trans e
   have b:Oo (q::a) k=some q.2:=by simp[Oo,Gq,c]
   rw[Q4 e,b];exact h2
  ·have c : ¬ q.1 = k := λz => e (h1.trans z)
   have b:Oo (q::a) k=Oo a k:=by simp[Oo,Gq,c]
   rw[UH e,b];exact d
theorem KV.any{kvs:List (κ×V)}{vs:List (κ×Te)}(r:KV kvs vs)(k:κ):(kvs.any λa=>decide (a.1=k))=vs.any λa=>decide (a.1=k):=by
 unfold KV at r;induction r with
 |nil=>rfl
 |cons h t b=>rw[Jb,Jb,b,h.1]
theorem KV.repl{kvs:List (κ×V)}{vs:List (κ×Te)}(r:KV kvs vs)(k:κ){y:V}{u:Te}(b:bO y u):KV (kvs.map λa=>if a.1=k then(a.1,y) else a) (vs.map λa=>if a.1=k then(a.1,u) else a):=by
 unfold KV at r⊢;induction r with
 |nil=>exact .nil
 | @cons p q ps d h t c=>
  rw[Bg,Bg];refine .cons ?_ c;obtain⟨h1,h2⟩:=h;by_cases e:p.1=k
  ·rw[if_pos e,if_pos (h1.symm.trans e)];exact⟨h1,b⟩
  ·rw[if_neg e,if_neg (λz=>e (h1.trans z))];exact⟨h1,h2⟩
theorem KV.put{kvs:List (κ×V)}{vs:List (κ×Te)}(r:KV kvs vs)(k:κ){y:V}{u:Te}(a:bO y u):KV (W7 kvs k y) (Sf vs k u):=by
 unfold W7 Sf;rw[r.any k];by_cases e:(vs.any λb=>decide (b.1=k))=true
 ·rw[if_pos e,if_pos e];exact r.repl k a
 ·rw[if_neg e,if_neg e];exact Sw r ⟨rfl,a⟩
theorem KV.length{kvs:List (κ×V)}{vs:List (κ×Te)}(r:KV kvs vs):kvs.length=vs.length:=Nr r
end
theorem K5{P:Br}{w:Tl}{k:Z7}{u:Te}(r:bO (kV k) u):(aM P w).is k u=true:=by
 cases k with
 |inl i=>obtain⟨t,e⟩:=(show∃t,u=Qd i t from r);subst e;exact GY P w i t
 |inr x=>obtain⟨t,e⟩:=(show∃t,u=Qe x t from r);subst e;exact GZ P w x t
theorem K3{P:Br}{w:Tl}:∀{ks:List Z7} {a:List Te},bJ (ks.map kV) a->ItemsAre (aM P w) ks a
 |[],_,r=>by rw[Dw] at r;cases r;exact .nil
 |k::ks,_,r=>by
  rw[Bg] at r;cases r with
  |cons h t=>exact .cons (K5 h) (K3 t)
abbrev KT(H:Hp):List (List Z7×V)->List (List Z7×Tf×Te)->Prop:=Paired λp q=>p.1=q.1/\H q.2.1=some (.tup (p.1.map kV))/\bO p.2 q.2.2
theorem KT.val{H:Hp}{kvs:List (List Z7×V)}{xs:List (List Z7×Tf×Te)}(r:KT H kvs xs)(k:List Z7):O9 (SE kvs k) ((atKey xs k).map (·.2)):=by
 induction r with
 |nil=>exact True.intro
 | @cons p q ps a h t d=>
  obtain⟨h1,_,h2⟩:=h;by_cases e:p.1=k
  ·have c:q.1=k:=h1.symm.trans e
   have b:atKey (q::a) k=some q.2:=by simp[atKey,Gq,c]
   rw[Q4 e,b];exact h2
  ·have c : ¬ q.1 = k := λz => e (h1.trans z)
   have b:atKey (q::a) k=atKey a k:=by simp[atKey,Gq,c]
   rw[UH e,b];exact d
theorem KT.repl{H:Hp}{kvs:List (List Z7×V)}{xs:List (List Z7×Tf×Te)}(r:KT H kvs xs)(k:List Z7){y:V}{u:Te}(b:bO y u):KT H (kvs.map λa=>if a.1=k then(a.1,y) else a) (xs.map (putAt k u)):=by
 induction r with
 |nil=>exact .nil
 | @cons p q ps f h t c=>
  rw[Bg,Bg];refine .cons ?_ c;obtain⟨h1,h2,d⟩:=h;unfold putAt;by_cases e:p.1=k
  ·rw[if_pos e,if_pos (h1.symm.trans e)];exact⟨h1,h2,b⟩
  ·rw[if_neg e,if_neg (λz=>e (h1.trans z))];exact⟨h1,h2,d⟩
theorem KT.put{H:Hp}{kvs:List (List Z7×V)}{xs:List (List Z7×Tf×Te)}(r:KT H kvs xs)(k:List Z7){b:Tf}{y:V}{u:Te}(hb:H b=some (.tup (k.map kV)))(a:bO y u):KT H (W7 kvs k y) (storedH xs k b u):=by
 have e:(kvs.any λc=>decide (c.1=k))=(atKey xs k).isSome:=by rw[NN,(r.val k).isSome_eq,Option.isSome_map]
 unfold W7 storedH;rw[e];by_cases q:(atKey xs k).isSome=true
 ·rw[if_pos q,if_pos q];exact r.repl k a
 ·rw[if_neg q,if_neg q];exact Sw r ⟨rfl,hb,a⟩
theorem KT.keeps{H H':Hp}{kvs:List (List Z7×V)}{xs:List (List Z7×Tf×Te)}(r:KT H kvs xs)(a:∀b ys,H b=some (.tup ys)->H' b=some (.tup ys)):KT H' kvs xs:=
 Paired.mapP r λ_ _ z=>⟨z.1,a _ _ z.2.1,z.2.2⟩
section
variable{P:Br}{w:Tl}{H:Hp}{h:Tp}{a:Tf}
theorem Xh{u:HO}(ok:Q6 P w H h)(e:Rd H a u):ZJ P w H h a u:=e.ok ok
theorem KP{kvs:List (Z7×V)}(ok:Q6 P w H h)(e:Rd H a (.dK kvs)):kvs.length<=sizeLine/\(a==Fn)=false/\∃vs,KV kvs vs/\h.DictOf (aM P w) a vs:=
 show ZJ P w H h a (.dK kvs) from Xh ok e
theorem eI{kvs:List (Z7×V)}(ok:Q6 P w H h)(e:H a=some (.dK kvs)):kvs.length<=sizeLine/\(a==Fn)=false/\∃vs,KV kvs vs/\h.DictOf (aM P w) a vs:=KP ok (.inl e)
theorem MX{ks:List Z7}(ok:Q6 P w H h)(e:H a=some (.tup (ks.map kV))):(tupleKind (aM P w)).is h ks a:=by obtain⟨_,its,r,o,h1,h2,n,b⟩:=(show ZJ P w H h a (.tup (ks.map kV)) from ok a _ e);exact⟨o,its.toArray,n,h1,h2,b,by simpa using K3 r⟩
theorem KS{kvs:List (List Z7×V)}(ok:Q6 P w H h)(e:Rd H a (.dT kvs)):kvs.length<=sizeLine/\(a==Fn)=false∧ ∃xs,KT H kvs xs/\h.DictOfH (tupleKind (aM P w)) a xs:=by
 obtain⟨z,y,xs,r,o,es,j,h1,h2,i,g,f⟩:=(show ZJ P w H h a (.dT kvs) from Xh ok e);refine⟨z,y,xs,r,o,es,j,h1,h2,i,g,λx b=>?_,f⟩;have all:∀{l:List (List Z7×V)} {m:List (List Z7×Tf×Te)},KT H l m->∀x∈m,(tupleKind (aM P w)).is h x.1 x.2.1:=by
  intro l m q;induction q with
  |nil=>intro x b;exact nomatch b
  | @cons p q ps k c t d=>
   intro x b;rcases Ai.mp b with e|b
   ·subst e
    exact MX ok (by rw[<-c.1];exact c.2.1)
   ·exact d x b
 exact all r x b
theorem Yy{kvs:List (List Z7×V)}(ok:Q6 P w H h)(e:H a=some (.dT kvs)):kvs.length<=sizeLine/\(a==Fn)=false∧ ∃xs,KT H kvs xs/\h.DictOfH (tupleKind (aM P w)) a xs:=KS ok (.inl e)
end
def OW(H:Hp)(a:Tf)(y:V)(r:Option V):Prop:=
 (∃kvs k,Rd H a (.dK kvs)/\y=kV k/\r=SE kvs k)∨∃kvs k b,Rd H a (.dT kvs)/\y=.ref b/\H b=some (.tup (k.map kV))/\r=SE kvs k
def DPut(H:Hp)(a:Tf)(y v:V)(H':Hp):Prop:=
 (∃kvs k,H a=some (.dK kvs)/\y=kV k/\kvs.length<sizeLine/\H'=aN H a (.dK (W7 kvs k v)))∨
 ∃kvs k b,H a=some (.dT kvs)/\y=.ref b/\H b=some (.tup (k.map kV))/\kvs.length<sizeLine/\H'=aN H a (.dT (W7 kvs k v))
theorem OW.k{H:Hp}{a:Tf}{kvs:List (Z7×V)}{k:Z7}(e:H a=some (.dK kvs)):OW H a (kV k) (SE kvs k):=.inl ⟨kvs,k,.inl e,rfl,rfl⟩
theorem DPut.k{H:Hp}{a:Tf}{kvs:List (Z7×V)}{k:Z7}{v:V}(e:H a=some (.dK kvs))(hl:kvs.length<sizeLine):DPut H a (kV k) v (aN H a (.dK (W7 kvs k v))):=.inl ⟨kvs,k,e,rfl,hl,rfl⟩
section
variable{X:Cx}{aa:List (Tf×Tq)}{σ:St}{H:Hp}{s:Ah}{a:Tf}{y v:V}{u r:Te}{o:Option V}{A:Df}{E:Te->Ah->Prop}
theorem cE.big(I:cE X aa σ H s):Fn<s.heap.objs.size:=by have h:Tn<s.heap.objs.size:=(I.mod.glob.keeps I.bk).lt;exact Pe (by decide) h
theorem AX{Q:Te->Ah->Prop}(q:A.units+1<cLine)(I:cE X aa σ H s)(g:OW H a y (some v))(n:bO y u)(h:∀f s',cE X aa σ H s'->bO v f->Q f s'):Tg (Th X.prog X.w) A (Lc (.ref a) u) Q E s:=by
 rcases g with⟨kvs,k,e,j,l⟩|⟨kvs,k,b,e,j,x,l⟩
 ·subst j
  obtain⟨z,t,vs,d,m⟩:=KP I.hok e;obtain⟨f,hw,c⟩:=O9.some_of (v:=v) (o:=Oo vs k) (by rw[l];exact d.val k);exact wpAny_getItem_of (K5 n) m.mapOf hw (h f _ (I.tok _) c)
 ·subst j
  cases (show u=Bx b from n);obtain⟨z,t,xs,d,m⟩:=KS I.hok e;obtain⟨f,hw,c⟩:=O9.some_of (v:=v) (o:=(atKey xs k).map (·.2)) (by rw[l];exact d.val k);obtain⟨p,r,i⟩:=Ar.mp hw;refine wpAny_getItem_heap (Hw q) (MX I.hok x) m r ?_;rw[i];exact h f _ (I.tok _) c
theorem CM{h':Tp}{t':Nat}{c:HO}(I:cE X aa σ H s)(d:Mut (H a))(hs:Fo a s.heap h')(f:∃q,h'.get? a=some q)(new:ZJ X.prog X.w (aN H a c) h' a c):cE X aa σ (aN H a c) {s with heap:=h',toks:=t'}:=
 I.write (x:=a) (e:=a) d (.inl rfl) (λb q hb z=>(hs.2 b hb).trans z) f new
theorem Uu{P:Br}{w:Tl}{H':Hp}{h':Tp}{kvs:List (Z7×V)}{vs:List (Z7×Te)}(z:kvs.length<=sizeLine)(c:(a==Fn)=false)(b:KV kvs vs)(d:h'.DictOf (aM P w) a vs):ZJ P w H' h' a (.dK kvs):=⟨z,c,vs,b,d⟩
theorem AY{H':Hp}{Q:Unit->Ah->Prop}(D:A.units+1<cLine)(I:cE X aa σ H s)(g:DPut H a y v H')(t:bO y u)(x:bO v r)(h:∀s',cE X aa σ H' s'->Q () s'):Tg (Th X.prog X.w) A (setItem (.ref a) u r) Q E s:=by
 rcases g with⟨kvs,k,e,n,l,o⟩|⟨kvs,k,b,e,n,C,l,o⟩
 ·subst n o
  obtain⟨z,m,vs,d,p⟩:=eI I.hok e;have j:vs.length<=sizeLine:=by rw[<-d.length];exact z
  have hl:(W7 kvs k v).length<=sizeLine:=by have:=ON kvs k v;lia
  refine wpAny_setItem_pairs (hsz:=j) (K5 t) p λh' f hs=>h _ ?_;have F:∃q,h'.get? a=some q:=let ⟨q,_,_,i,_⟩:=f;⟨q,i⟩
  exact CM I (by rw[e];exact True.intro) hs F (Uu hl m (d.put k x) f)
 ·subst n o
  cases (show u=Bx b from t);obtain⟨z,m,xs,d,p⟩:=Yy I.hok e;have j:xs.length<=sizeLine:=by rw[<-Nr d];exact z
  have hl:(W7 kvs k v).length<=sizeLine:=by have:=ON kvs k v;lia
  refine wpAny_setItem_heap (hsz:=j) (Hw D) (MX I.hok C) p λh' f hs=>h _ ?_;obtain⟨q,es,L,i,h2,K,J,_,G⟩:=f;refine CM I (by rw[e];exact True.intro) hs ⟨q,i⟩ ⟨hl,m,_,(d.put k C x).keeps λc ys B=>?_,q,es,L,i,h2,K,J,G⟩;rw[bF (fQ B e (λz=>nomatch z))];exact B
end
theorem GD{X:Cx}{aa:List (Tf×Tq)}{σ:St}{H:Hp}{s:Ah}{a:Tf}{y:V}{o:Option V}(I:cE X aa σ H s)(g:OW H a y o):s.TypeIs (.ref a) "dict":=by
 rcases g with⟨kvs,k,e,_,_⟩|⟨kvs,k,b,e,_,_,_⟩
 ·obtain⟨_,_,vs,_,c⟩:=KP I.hok e
  exact c.typeIs
 ·obtain⟨_,_,xs,_,c⟩:=KS I.hok e
  exact c.typeIs
def kO(td ty tv:TE):TS:=λD σ H=>tv σ H λv H1=>td σ H1 λx H2=>ty σ H2 λy c=>∃a b,x=.ref a/\DPut c a y v b/\D.nx σ b
section
variable{X:Cx}{o i e value:Tj}{pos bp du:Pos}{td ty tv:TE}
theorem gR(j:X.A.units+1<cLine)(k:PE X o td)(hi:PE X i ty)(f:PE X value tv)(hs:Gm value (some (.Subscript o i bp)) pos.line X.env=pure false):PS X (.Assign [.Subscript o i bp] value pos) (kO td ty tv):=by intro aa s σ H D I h;refine wpAny_Assign_Subscript (ZB (f aa s σ H _ I h) λr s1 ⟨v,H1,p,e,q1⟩=>ZB (k aa s1 σ H1 _ p q1) λu b ⟨x,H2,n,d,q2⟩=>ZB (hi aa b σ H2 _ n q2) λz w ⟨y,B,m,c,a,q,ex,g,q3⟩=>?_) hs;subst ex;obtain rfl:u=Bx a:=d;exact AY j m g c e λt l=>⟨σ,q,l,q3⟩
end
theorem fN{P:Br}{w:Tl}{H:Hp}(h:Tp)(hb:Fn<h.objs.size):ZJ P w H (h.push {cls:=.type "dict",data:=.dict #[]}) h.objs.size (.dK []):=
 ⟨Cy _,beq_eq_false_iff_ne.mpr (Dn (Bk hb)),[],.nil,Qm h⟩
def mN:TE:=λ_ H Q=>∀p,H p=none->Q (.ref p) (aN H p (.dK []))
section
variable{X:Cx}{pos:Pos}
theorem zBR:PE X (.Dict [] [] pos) mN:=λaa s σ H Q I h=>
 wpAny_Dict_empty ⟨.ref s.heap.objs.size,_,I.laid (a:=s.heap.objs.size) (o:=.dK []) (t':=s.toks) (λ_ _ q=>Ae _ q) (Ak _) (fN s.heap I.big),rfl,h _ (I.hok.fresh (Ak _))⟩
end
noncomputable def M0(kvs more:List (Z7×V)):List (Z7×V):=more.foldl (λacc a=>W7 acc a.1 a.2) kvs
theorem KV.merge:∀{more:List (Z7×V)} {a:List (Z7×Te)} {kvs:List (Z7×V)} {vs:List (Z7×Te)},KV more a->KV kvs vs->KV (M0 kvs more) (merged vs a):=by
 intro more a kvs vs r;unfold KV at r;induction r generalizing kvs vs with
 |nil=>intro q;exact q
 | @cons p q ps d h t c=>
  intro b;have e:KV (W7 kvs p.1 p.2) (Sf vs q.1 q.2):=by have:=b.put p.1 h.2;rw[<-h.1];exact this
  exact c e
structure M1(X:Cx)(o:Tj)(m:Ti)(ax:Pos)(e:Tj)(ag:Pos):Prop where
 base:Hv o m X.env (eval o X.env)=eval o X.env
 few:((Fx ag (Aj [e] X.env)).all (λx=> !x.1)&&(Nv ag (Jm [] X.env)).all (λx=>x.1.isSome)
  && decide (([e]:List Tj).length+([]:List Jn).length+(if([]:List Jn).isEmpty then 0 else 1)<30))=true
 line:(ax.endLine==ag.line)=true
 trees:Fx ag (Aj [e] X.env)=[(false,eval e X.env)]
structure M2(X:Cx)(o:Tj)(m:Ti)(ax:Pos)(e f:Tj)(ag:Pos):Prop where
 base:Hv o m X.env (eval o X.env)=eval o X.env
 few:((Fx ag (Aj [e,f] X.env)).all (λx=> !x.1)&&(Nv ag (Jm [] X.env)).all (λx=>x.1.isSome)
  && decide (([e,f]:List Tj).length+([]:List Jn).length+(if([]:List Jn).isEmpty then 0 else 1)<30))=true
 line:(ax.endLine==ag.line)=true
 trees:Fx ag (Aj [e,f] X.env)=[(false,eval e X.env),(false,eval f X.env)]
def IsD(H:Hp)(a:Tf):Prop:=(∃kvs,Rd H a (.dK kvs))∨∃kvs,Rd H a (.dT kvs)
theorem Wk{X:Cx}{aa:List (Tf×Tq)}{σ:St}{H:Hp}{s:Ah}{a:Tf}(I:cE X aa σ H s)(d:IsD H a):s.TypeIs (.ref a) "dict" /\(∀b,Bx a=.ref b->∃c,s.heap.get? b=some c/\c.dict=none)/\(a==Fn)=false:=by
 rcases d with⟨kvs,e⟩|⟨kvs,e⟩
 ·obtain⟨_,g,vs,_,f⟩:=KP I.hok e
  refine⟨f.typeIs,λb q=>?_,g⟩;cases q;obtain⟨c,_,_,h1,h2,_⟩:=f;exact⟨c,h1,h2.2.1⟩
 ·obtain⟨_,g,xs,_,f⟩:=KS I.hok e
  refine⟨f.typeIs,λb q=>?_,g⟩;cases q;obtain⟨c,_,_,h1,h2,_⟩:=f;exact⟨c,h1,h2.2.1⟩
section
variable{X:Cx}{aa:List (Tf×Tq)}{σ:St}{H:Hp}{s:Ah}{a:Tf}{y d:V}{u r:Te}{o:Option V}{A:Df}{E:Te->Ah->Prop}
theorem jJ{Q:Te->Ah->Prop}(n:A.units+1<cLine)(I:cE X aa σ H s)(g:OW H a y o)(m:bO y u)(h:∀j s',cE X aa σ H s'->bO (o.getD .non) j->Q j s'):Tg (Th X.prog X.w) A (call (.builtin "dict.get") [.ref a,u]) Q E s:=by
 rcases g with⟨kvs,k,e,i,l⟩|⟨kvs,k,b,e,i,p,l⟩
 ·subst i
  obtain⟨z,f,vs,c,d⟩:=KP I.hok e;refine Mi Eg d.typeIs Fl (Hx _ _) (meets_dict_get (aM X.prog X.w) a (K5 m) f) ⟨_,d.mapOf,h _ _ (I.tok _) ?_⟩;rw[l];exact(c.val k).getD rfl
 ·subst i
  cases (show u=Bx b from m);obtain⟨z,f,xs,c,d⟩:=KS I.hok e;refine Mi Eg d.typeIs Fl (Hx _ _) (meetsH_dict_get (tupleKind (aM X.prog X.w)) a b f) ⟨Hw n,k,xs,MX I.hok p,d,h _ _ (I.tok _) ?_⟩;rw[l];exact(c.val k).getD rfl
theorem oH{Q:Te->Ah->Prop}(p:A.units+1<cLine)(I:cE X aa σ H s)(g:OW H a y o)(n:bO y u)(rd:bO d r)(h:∀m s',cE X aa σ H s'->bO (o.getD d) m->Q m s'):Tg (Th X.prog X.w) A (call (.builtin "dict.get") [.ref a,u,r]) Q E s:=by
 rcases g with⟨kvs,k,e,j,l⟩|⟨kvs,k,b,e,j,q,l⟩
 ·subst j
  obtain⟨z,i,vs,c,f⟩:=KP I.hok e;refine Mi Eg f.typeIs Fl (Ld _ _ _) (meets_dict_get_default (aM X.prog X.w) a (K5 n) i r) ⟨_,f.mapOf,h _ _ (I.tok _) ?_⟩;rw[l];exact(c.val k).getD rd
 ·subst j
  cases (show u=Bx b from n);obtain⟨z,i,xs,c,f⟩:=KS I.hok e;refine Mi Eg f.typeIs Fl (Ld _ _ _) (meetsH_dict_get_default (tupleKind (aM X.prog X.w)) a b i r) ⟨Hw p,k,xs,MX I.hok q,f,h _ _ (I.tok _) ?_⟩;rw[l];exact(c.val k).getD rd
end
def iE(td ty tx:TE):TE:=λσ H Q=>td σ H λx H1=>∃a,x=.ref a/\IsD H1 a/\ty σ H1 λy H2=>tx σ H2 λz b=>∃o,OW b a y o/\Q (o.getD z) b
section
variable{X:Cx}{o e f:Tj}{ax ag:Pos}{td ty tx:TE}
theorem fU(n:X.A.units+1<cLine)(p:PE X o td)(r:PE X e ty)(q:PE X f tx)(m:M2 X o "get" ax e f ag):PE X (.Call (.Attribute o "get" ax) [e,f] [] ag) (iE td ty tx):=by
 intro aa s σ H Q I h;refine Op m.base m.few m.line Le Eg Mj (ZB (p aa s σ H _ I h) λu s1 ⟨x,H1,c,l,a,ex,d,q1⟩=>?_);subst ex;obtain rfl:u=Bx a:=l;obtain⟨t1,i,_⟩:=Wk c d;refine⟨t1,i,?_⟩;rw[m.trees];refine Gh rfl (Hb (Gk (ZB (r aa s1 σ H1 _ c q1) λG j ⟨y,H2,w,k,q2⟩=>
  Gk (ZB (q aa j σ H2 _ w q2) λJ E ⟨z,B,v,rz,F,g,q3⟩=>Ih ?_))))
 exact oH n v g k rz λC D t b=>⟨_,B,t,b,q3⟩
end
end L2
namespace Att
open PySem PySem.W PySem.Calls PyProof.Rows
theorem OB{P:Qc}{h:Tp}:∀(ns:List Int) (vs:List Te),WellAll P h vs (ns.map WData.int)->Rx vs ns:=by
 intro ns;induction ns with
 |nil=>
  intro vs w;rw[Dw] at w;cases w;exact .nil
 |cons n ns c=>
  intro vs w;rw[Bg] at w;cases w with
  |cons a b=>
   cases a;exact .cons _ _ (c _ b)
theorem BU{l:OpenLaw}{n:Nat}(s:l.most=some n){P:Qc}{h:Tp}{args:List WData}{b:List Te}(c:l.row.toRowW.claim.pre args=true)(g:WellAll P h b args):∃a vs ns,b=[Bx a]/\args=[WData.list (ns.map WData.int)]/\h.get? a=some {cls:=.type "list",data:=.seq vs.toArray}/\Rx vs ns/\ns.length<=n:=by
 have i:WShape.hasAll [] args [.list .int]=true:=(pre_splitW c).1;have hc:l.pre.holds [] {args:=args}=true:=(pre_splitW c).2;obtain⟨d,r,rfl,h1,h2⟩:=hasAllW_cons i;obtain rfl:=hasAllW_nil h2;obtain⟨xs,rfl,t⟩:=hasW_list h1;obtain⟨ns,rfl⟩:=items_int t;have u:ns.length<=n:=by
  unfold OpenLaw.pre at hc;have f:(WTm.not (.lt (.lit (.int (n:Int))) (.len (.arg 0)))).holds [] {args:=[.list (ns.map .int)]}=true:=by have f:=(holds_andW hc).1;rw[s] at f;exact f
  have e:=condW_of f (w_not (w_lt w_lit (w_len_list (w_arg rfl))));rw[Cd] at e;refine Eb λq=>?_;have m:(n:Int)<((ns.length:Nat):Int):=by lia
  first
   |(rw[decide_eq_true m] at e;exact absurd e (by decide))
   |(simp at e;lia)
 cases g with
 |cons k j=>
  cases j;cases k with
  |list p o=>exact⟨_,_,ns,rfl,rfl,p,OB ns _ o,u⟩
theorem BO(l:OpenLaw)(args:List WData):l.row.toRowW.claim.post args (.bool true) args=true:=
 postW_of (r:=l.row.toRowW) (X:=(true==true))
  (show Tc [] (.bool true) .bool=true by first|rfl|decide|simp[Tc,WShape.arms,WShape.armsAll])
  (show(WTm.eq .res (.lit (.bool true))).value [] {args:=args,res:=some (.bool true),after:=args}=some (.bool (true==true)) from w_eq_bool (w_res rfl) w_lit) rfl
theorem F6{l:OpenLaw}{n:Nat}{q:Br}{loose:List Ti}{XP:(Ti->Option Te)->Tp->Prop}{YP:Tl->Tp->Prop}{d:DefRec}(A:l.most=some n)(p:d.params.defaults=[])(call:∀(w:Tl) (s₀ b:Ah) (mg j:Ti->Option Te) (fa:Tf) (o:Tq) (i h doc:Te) (a:Tf) (vs:List Te) (ns:List Int),Ground q loose [] XP w s₀ mg j b.heap->YP w b.heap->b.heap.get? fa=some o->o.data=.func (docDef d.name d.params d.body d.scope i h doc)->b.heap.CodeRec h d.name->mg d.name=some (.ref fa)->b.heap.get? a=some {cls:=.type "list",data:=.seq vs.toArray}->Rx vs ns->ns.length<=n->b.gens= #[]->Gp (Th l.prog w) Nd (.call (.ref fa) ⟨[.ref a],[]⟩) (λr s'=>r=.ok (.ret (.bool true))/\OldK b.heap s'.heap/\s'.os=b.os/\Ma s'.gens) b):WalkO q loose XP YP l.row.toRowW d [] (λf vs=>Rt f vs):=by intro w s₀ b mg j G Y fa o i h doc I kV z E s v m D args t as e u x k C;obtain rfl:I=.none:=Dflts.none v p;obtain rfl:kV=.none:=Dflts.noKw v;obtain⟨a,vs,ns,rfl,rfl,g,c,J⟩:=BU A e k;refine enter_call (Kg (call w s₀ b mg j fa o i h doc a vs ns G Y z (fd_plain E) s m g c J D) λr s' y=>?_);obtain⟨rfl,h2,H,F⟩:=y;exact⟨.inl ⟨.bool true,.bool true,[],rfl,λ_=>rfl,.bool true,BO l _,λ_=>⟨Ku,λ_ B=>(nomatch B)⟩⟩,h2,H,F⟩
end Att
namespace L2
open PySem PySem.Spec PyProof.Rows
theorem LU:∀{vs:List Te} {ns:List Int},Rx vs ns->bJ (ns.map V.int) vs
 |_,_,.nil=>.nil
 |_,_,.cons n t h=>.cons ⟨t,rfl⟩ (LU h)
def Only(H:Hp):Prop:=∀b,H b=none∨∃o xs,H b=some (.frz o (.lst xs))
theorem jH{P:Br}{w:Tl}{K:As}{mg B:Ti->Option Te}{CX:CXT}{k:Nat}{fa a:Tf}{fd:Fk}{x:Ti}{sp:Sp}{c:Ah}{vs:List Te}{ns:List Int}(R:K.In c.heap)(j:c.heap.Ns Tn mg)(hb:c.heap.Ns builtinsNs B)(E:∀x:Ti,x≠ "__name__" ->B x=Bo x)(T:c.heap.NoLimit)(hg:c.gens= #[])(y:c.heap.get? a=some {cls:=.type "list",data:=.seq vs.toArray})(hi:Rx vs ns)(hl:ns.length<=sizeLine)(hr:XX k Nd)(F:∀base:Tp,K.In base->base.Ns Tn mg->aU P w K mg base CX k fa fd [x] sp)(X:∀(s:Ah) (u:Te),Qk s fd ⟨[u],[]⟩ [(x,u)])(C:∀H:Hp,Only H->WT K H a (ns.map V.int)->sp [.ref a] H (λv _=>v=.bl true) λ_ _ _=>False)(G:∀H e s',CX [] H c (λ_ _ _=>False) e s'->False):Gp (Th P w) Nd (.call (.ref fa) ⟨[.ref a],[]⟩) (λr s'=>r=.ok (.ret (.bool true))/\OldK c.heap s'.heap/\s'.os=c.os/\Ma s'.gens) c:=by
 have J:=LU hi;have W:=hi.length;have L: ∀H:Hp,Only H->WT K H a (ns.map V.int)->Q6 P w H c.heap->(∀b,H b≠none->b=a)->(H a≠none->K.lookup a=none)->
   Gp (Th P w) Nd (.call (.ref fa) ⟨[.ref a],[]⟩) (λr s'=>r=.ok (.ret (.bool true))/\OldK c.heap s'.heap/\s'.os=c.os/\Ma s'.gens) c:=by
  intro H M hS i N hK;have O:∀{b:Tf} {o:Tq},c.heap.get? b=some o->H b=none->(JK c.heap H).get? b=some o:=λe n=>pH e n;have A:∀{b:Tf} {o:Tq} {es:Array Ly} {p:Nat},c.heap.get? b=some o->o.data=.dict es p->H b=none:=λ{b o es p} e d=>by
   cases q:H b with
   |none=>rfl
   |some u=>
    have I:b=a:=N b (by rw[q];simp);subst I;rw[y] at e;cases e;have d':Data.seq vs.toArray _=Data.dict es p:=d;cases d'
  have f:∀{b:Tf} {m:Ti->Option Te},c.heap.Ns b m->(JK c.heap H).Ns b m:=λ{b m} ⟨o,es,p,e,d,r⟩=>⟨o,es,p,O e (A e d),d,r⟩;have l:K.In (JK c.heap H):=λb o e=>O (R b o e) (by
   cases q:H b with
   |none=>rfl
   |some u=>
    have I:b=a:=N b (by rw[q];simp);subst I;rw[hK (by rw[q];simp)] at e;cases e)
  have hM:Mod K mg (JK c.heap H):=⟨l,f j,⟨B,f hb,E⟩,let ⟨mc,h1,h2⟩:=T;⟨mc,f h1,h2⟩⟩;have e0:Env0 P w K mg (JK c.heap H) Nd [] c H:=⟨rfl,hM,λb o e=>nJ e,Nat.le_of_eq (A8 _ _),trivial,λb hb=>absurd (show b∈([]:List Tf) from hb) (by simp),i,.of_eq hg⟩;refine Kg ((F _ l (f j)).run Nd [] c H ⟨[.ref a],[]⟩ [.ref a] [.ref a] _ _ hr e0 (X c (.ref a)) (.cons rfl .nil) (C H M hS)) λr s' h=>?_;cases r with
  |error e=>exact(G H e s' h).elim
  |ok fl=>
   cases fl with
   |next=>exact Gw h
   |brk=>exact Gw h
   |cont=>exact Gw h
   |ret u=>
    obtain⟨v,H',os,t,un,U,r',q⟩:=h;have Y:v=.bl true:=q;subst Y;obtain rfl:u=Rr true:=r';refine⟨rfl,OldK.of_keep λb o e=>?_,os,t⟩;cases q:H b with
    |none=>exact un.keep b o e q (by intro z;exact absurd (show b∈([]:List Tf) from z) (by simp)) (by simp)
    |some u=>
     rcases M b with z|⟨Z,xs,z⟩
     ·rw[q] at z;cases z
     ·have S:=un.frzs b Z _ z
      obtain⟨Q,_⟩:=i b _ z;obtain⟨e2,_⟩:=U b _ S;rw[e] at Q;cases Q;exact e2
 cases D:K.lookup a with
 |some o=>
  have e:=R a o D;rw[y] at e;cases e;refine L (λ_=>none) (λ_=>.inl rfl) (.inr ⟨_,vs.toArray,_,D,rfl,rfl,rfl,by rw[At,W];exact hl,by simpa using J⟩) (λb u z=>by have g:(none:Option HO)=some u:=z;cases g) (λb z=>absurd rfl z) λz=>absurd rfl z
 |none=>
  refine L (λb=>if b=a then some (.frz {cls:=.type "list",data:=.seq vs.toArray} (.lst (ns.map V.int))) else none) (λb=>?_) (.inl (.inr ⟨{cls:=.type "list",data:=.seq vs.toArray},if_pos rfl⟩)) (λb u z=>?_) (λb z=>?_) λ_=>D
  ·by_cases hb:b=a
   ·exact .inr ⟨_,_,if_pos hb⟩
   ·exact .inl (if_neg hb)
  ·by_cases hb:b=a
   ·have g:=(if_pos hb).symm.trans z
    cases g;subst hb;exact⟨y,by rw[Cd];exact hl,vs,_,J,y⟩
   ·have g:=(if_neg hb).symm.trans z
    cases g
  ·by_cases hb:b=a
   ·exact hb
   ·exact absurd (if_neg hb) z
theorem nH{l:Sg}{n k:Nat}{q:Br}{loose:List Ti}{XP:(Ti->Option Te)->Tp->Prop}{YP:Tl->Tp->Prop}{d:DefRec}{K:Qc->As}{CX:Tl->CXT}{sp:Tl->Sp}{x:Ti}(C:l.most=some n)(p:n<=sizeLine)(t:d.params.defaults=[])(B:XX k Nd)(I:∀(w:Tl) (h:Tp),YP w h->(K w.params).In h)(F:∀(w:Tl) (mg:Ti->Option Te) (fa:Tf) (h:Tp),(K w.params).In h->h.Ns Tn mg->mg d.name=some (.ref fa)->∃fd:Fk,(∀(s:Ah) (u:Te),Qk s fd ⟨[u],[]⟩ [(x,u)])∧ ∀base:Tp,(K w.params).In base->base.Ns Tn mg->aU l.prog w (K w.params) mg base (CX w) k fa fd [x] (sp w))(m:∀(w:Tl) (H:Hp) (a:Tf) (ns:List Int),ns.length<=n->Only H->WT (K w.params) H a (ns.map V.int)->sp w [.ref a] H (λv _=>v=.bl true) λ_ _ _=>False)(y:∀(w:Tl) (H:Hp) (s:Ah) (e:Te) (s':Ah),CX w [] H s (λ_ _ _=>False) e s'->False):W.WalkO q loose XP YP l.row.toRowW d [] (λf vs=>Rt f vs):=by refine Att.F6 C t λw s₀ i mg O fa o N R doc a vs ns G Y P Q E r j c z D=>?_;have A:=I w _ Y;obtain⟨fd,hb,M⟩:=F w mg fa _ A G.T.g r;exact jH A G.T.g G.T.b G.T.builtins G.T.nolimit D j c (Ce z p) B M hb (λH L J=>m w H a ns z L J) λH e s'=>y w H i e s'
theorem zA3{l:Sg}{n k:Nat}{q:Br}{loose:List Ti}{XP:(Ti->Option Te)->Tp->Prop}{YP:Tl->Tp->Prop}{d:DefRec}{K:Qc->As}{CX:CXT}{sp:As->Sp}{x:Ti}(m:l.most=some n)(c:n<=sizeLine)(g:d.params.defaults=[])(j:XX k Nd)(o:∀(w:Tl) (h:Tp),YP w h->(K w.params).In h)(F:∀(w:Tl) (mg:Ti->Option Te) (fa:Tf) (h:Tp),(K w.params).In h->h.Ns Tn mg->mg d.name=some (.ref fa)->∃fd:Fk,(∀(s:Ah) (u:Te),Qk s fd ⟨[u],[]⟩ [(x,u)])∧ ∀base:Tp,(K w.params).In base->base.Ns Tn mg->aU l.prog w (K w.params) mg base CX k fa fd [x] (sp (K w.params)))(b:∀(K:As) (H:Hp) (a:Tf) (ns:List Int),ns.length<=n->Only H->WT K H a (ns.map V.int)->sp K [.ref a] H (λv _=>v=.bl true) λ_ _ _=>False)(i:∀(H:Hp) (s:Ah) (e:Te) (s':Ah),CX [] H s (λ_ _ _=>False) e s'->False):W.WalkO q loose XP YP l.row.toRowW d [] (λf vs=>Rt f vs):=
 nH (K:=K) (CX:=λ_=>CX) (sp:=λw=>sp (K w.params)) m c g j o F (λw H a ns h1 h2 p=>b (K w.params) H a ns h1 h2 p) λ_ H s e s'=>i H s e s'
noncomputable def ZG(s:Tt):Arguments:=match s with
 |.FunctionDef _ a _ _ _ _ _ _ _ _=>a
 |_=>{posonlyargs:=[],args:=[],vararg:=none,kwonlyargs:=[],kw_defaults:=[],kwarg:=none,defaults:=[]}
noncomputable def ZY(s:Tt):List Tt:=match s with
 |.FunctionDef _ _ b _ _ _ _ _ _ _=>b
 |_=>[]
noncomputable def cQ(s:Tt):Tr:=match s with
 |.FunctionDef _ _ _ _ _ _ a _ _ _=>a
 |_=>{kind:=.function,names:=[],isGenerator:=false,isCoroutine:=false}
abbrev CX0:CXT:=λ_ _ _ _ _ _=>False
abbrev E0:XK:=λ_ _ _=>False
theorem Ud{X:Cx}:ED CX0 X E0:=λ_ _ _ _ _ _ _ h=>h.elim
structure XW(K:As)(x qual:Ti)(st:Tt)(f:Tf)(fd:Fk):Prop where
 ex:∃(oc:Te) (od:Option Tf) (kV doc pm:Te) (an:Option Tf) (cdv ct:Te) (osl:Array (Option Te)),
  fd=Jl x qual (ZG st) (ZY st) (cQ st) .none kV doc pm an cdv ct/\K.lookup f=some ⟨oc,od,.func fd,osl⟩/\Kh K cdv qual=true
 kp:Ht K (.ref f)=true
section
variable{P:Br}{w:Tl}{K:As}{mg:Ti->Option Te}{base:Tp}
theorem XW.ok{x a:Ti}{st:Tt}{f:Tf}{fd:Fk}{N ps:List Ti}{k:Nat}{sp:Sp}(F:XW K x a st f fd)(S:cI N ps (cQ st))(len:∀vs H Q E,sp vs H Q E->vs.length=ps.length)(i:∀(b:Te) (A:Df) (outer:List Env) (s:Ah) (H:Hp) (vs:List V) (Q:VK) (E:XK),XX k (A.deeper (Ks a (cQ st) s.heap.objs.size f b))->sp vs H Q E->∃t,OK (IZ CX0 P w K mg base N a (cQ st) f b A outer s H E).nox (ZY st) t/\t {nx:=λ_ H'=>Q .non H',rt:=Q} (start N vs) H):aU P w K mg base CX0 (k+1) f fd ps sp:=by obtain⟨l,od,kV,doc,j,m,b,ct,e,rfl,lk,d⟩:=F.ex;refine Wj lk d S len λA outer s H vs Q E g c=>?_;obtain⟨t,h,q⟩:=i b A outer s H vs Q E g c;exact⟨t,h.nox,q⟩
theorem XW.binds{x a:Ti}{st:Tt}{f:Tf}{fd:Fk}{ps:List Ti}(F:XW K x a st f fd)(h:∀(kV doc d:Te) (e:Option Tf) (b ct:Te) (c:List Te),c.length=ps.length->bindArgs (Jl x a (ZG st) (ZY st) (cQ st) .none kV doc d e b ct) ⟨c,[]⟩=pure (ps.zip c)):P9 K fd ps []:=by obtain⟨j,od,kV,doc,d,e,b,ct,g,rfl,lk,i⟩:=F.ex;exact .all (h kV doc d e b ct)
theorem Va{x a:Ti}{st:Tt}{f:Tf}{h:Te}{od g:Option Tf}{d:Array (Option Te)}{kV doc e b ct:Te}(l:K.lookup f=some ⟨h,od,.func (Jl x a (ZG st) (ZY st) (cQ st) .none kV doc e g b ct),d⟩)(c:Kh K b a=true)(k:Ht K (.ref f)=true):XW K x a st f (Jl x a (ZG st) (ZY st) (cQ st) .none kV doc e g b ct):=⟨⟨h,od,kV,doc,e,g,b,ct,d,rfl,l,c⟩,k⟩
end
theorem Wv{A:Df}{k:Nat}(a:XX k A):A.units+1<cLine:=Ny (Nat.add_le_add_left (by decide:1<=64) _) a.units
section
variable{X:Cx}
theorem pv(i:Nat){x:Ti}{pos:Pos}(d:X.N[i]?=some x:=by rfl)(b:Vis X.env.scope x:=by first|exact Mx rfl|exact My (Mx rfl)|exact My (My rfl))(c:(x==("__debug__":Ti))=false:=by decide)(a:(x==("__classdict__":Ti))=false:=by decide):PE X (.Name x pos) (OI i):=E9 d b c a
end
theorem OC{A B:Prop}(h:B):if false=true then A else B:=by rw[if_neg Dj];exact h
theorem OD{A B:Prop}(h:A):if true=true then A else B:=by rw[if_pos rfl];exact h
def aP(H H':Hp):Prop:=∀b o,H b=some o->H' b=some o
theorem aP.refl(H:Hp):aP H H:=λ_ _ h=>h
theorem aP.trans{H H1 H2:Hp}(a:aP H H1)(b:aP H1 H2):aP H H2:=λc o h=>b c o (a c o h)
theorem aP.seq{K:As}{H H':Hp}{a:Tf}{xs:List V}(e:aP H H')(h:WT K H a xs):WT K H' a xs:=by
 rcases h with(h|⟨o,h⟩)|h
 ·exact .inl (.inl (e _ _ h))
 ·exact .inl (.inr ⟨o,e _ _ h⟩)
 ·exact .inr h
theorem IV{env:Env}{f:Ti×Tu->List (Ti×Tf)->Tw (ForInStep (List (Ti×Tf)))}(i:∀n k r,f (n,k) r=if(k==Bp)=true then(cellOf env n>>=λc=>pure (Cu ((n,c)::r))) else pure (Cu r)):∀(names:List (Ti×Tu)) (b:List (Ti×Tf)),(∀y∈names,y.2=.free->∃c,env.cells.lookup y.1=some c)->∃cl,forIn names b f=(pure cl:Tw (List (Ti×Tf)))/\(∀x c,cl.lookup x=some c->b.lookup x=some c∨env.cells.lookup x=some c)∧(∀x c,b.lookup x=some c->∃g,cl.lookup x=some g)/\∀x,(x,Bp)∈names->∃c,cl.lookup x=some c
 |[],b,_=>⟨b,rfl,λ_ _ e=>.inl e,λ_ c e=>⟨c,e⟩,λ_ h=>nomatch h⟩
 | (n,k) :: r,b,h => by
  have p:∀y∈r,y.2=.free->∃c,env.cells.lookup y.1=some c:=λy s=>h y (Ao _ s);by_cases j:k=.free
  ·subst j
   obtain⟨c,hc⟩:=h (n,.free) Ap rfl;have hc:env.cells.lookup n=some c:=hc;obtain⟨cl,o,m,d,l⟩:=IV i r ((n,c)::b) p;refine⟨cl,?_,λx g e=>?_,λx g e=>?_,λx a=>?_⟩
   ·rw [Jo,i,if_pos (show (Bp == Bp) = true by decide)]
    have t:cellOf env n=pure c:=by unfold cellOf;rw[hc]
    rw[t,pure_bind,pure_bind];exact o
   ·rcases m x g e with q|q
    ·by_cases a:x=n
     ·subst a
      rw[Eh] at q;cases q;exact .inr hc
     ·rw[Cs,beq_eq_false_iff_ne.mpr a] at q
      exact .inl q
    ·exact .inr q
   ·by_cases a:x=n
    ·subst a
     exact d x c (Eh ..)
    ·refine d x g ?_
     rw[Cs,beq_eq_false_iff_ne.mpr a];exact e
   ·rcases Ai.mp a with q|q
    ·cases q
     exact d n c (Eh ..)
    ·exact l x q
  ·obtain⟨cl,o,m,d,l⟩:=IV i r b p
   refine⟨cl,?_,m,d,λx a=>?_⟩
   ·have hb : ¬ (k == Bp) = true := by simpa using j
    rw[Jo,i,if_neg hb,pure_bind];exact o
   ·rcases Ai.mp a with q|q
    ·cases q
     exact absurd rfl j
    ·exact l x q
theorem IW{env:Env}{scope:Tr}(h:∀y∈scope.names,y.2=.free->∃c,env.cells.lookup y.1=some c):∃cl,closureFor scope env=pure cl/\(∀x c,cl.lookup x=some c->env.cells.lookup x=some c)/\∀x,(x,Bp)∈scope.names->∃c,cl.lookup x=some c:=by
 simp only[closureFor];obtain⟨cl,a,d,_,b⟩:=IV (env:=env) (f:=λx r=>match x with
  |(name,kind)=>if(kind==Bp)=true then(cellOf env name>>=λc=>pure (Cu ((name,c)::r))) else pure (Cu r)) (λ_ _ _=>rfl) scope.names [] h
 refine⟨cl,?_,λx c e=>?_,b⟩
 ·first
   |exact a
   |(refine Eq.trans (congrArg (λm=>m>>=pure) a) ?_;exact pure_bind _ _)
 ·rcases d x c e with q|q
  ·cases q
  ·exact q
noncomputable def aJ(ix:List Nat)(σ:St):St:=ix.map λi=>(σ[i]?).join
def PTs(Y:Cx)(a:List Tj)(b:TT):Prop:=
 ∀(aa:List (Tf×Tq)) (s:Ah) (σ:St) (H:Hp) (Q:Bool->Hp->Prop),cE Y aa σ H s->b σ H Q->
  Tg (Th Y.prog Y.w) Y.A (forIn a true λc r=>if r=true then do let ok<-isTrue c Y.env (eval c Y.env);pure (Cu ok) else pure (Cu r)) (TP Y aa σ Q) Y.xe s
def tYes:TT:=λ_ H Q=>Q true H
theorem kZ{Y:Cx}:PTs Y [] tYes:=λ_ _ _ H _ I h=>wpAny_tests_nil ⟨H,I,h⟩
theorem gF{Y:Cx}{c:Tj}{a:TT}(h:PT Y c a):PTs Y [c] a:=λaa s σ H Q I hw=>wpAny_tests_one (h aa s σ H Q I hw)
structure Blk(Y:Cx)(tg:Tj)(ifs:List Tj)(elt:Tj)(g:TG)(tt:TT)(te:TE):Prop where
 tg:PG Y tg g
 ts:PTs Y ifs tt
 el:PE Y elt te
theorem AW{prog:Br}{w:Tl}{A:Df}{s:Ah}{l t iter:Tj}{j:List Tj}{scope:Tr}{pos:Pos}{it acc:Te}{env:Env}{R:Qj->Ah->Prop}(I:Nat->Ah->Prop)(turn:∀n s,I n s->Tg (Th prog w) A (pyNext it) (λr b=>match r with
   |none=>R (.ok .next) b
   | some v => Tg (Th prog w) A (Fi t it v) (λ_ s₀ => Tg (Th prog w) A (assign t env v) (λ_ f =>
     Tg (Th prog w) A (forIn j true λc r=>if r=true then do let ok<-isTrue c env (eval c env);pure (Cu ok) else pure (Cu r)) (λok a=>if ok=true then Tg (Th prog w) A (eval l env) (λx e=>
      Tg (Th prog w) A (call (.builtin "list.append") [acc,x]) (λ_ d=>∃m,m<n/\I m d) (λ_ _=>False) e) (λ_ _=>False) a
      else∃m,m<n/\I m a) (λ_ _=>False) f)
     (λ_ _=>False) s₀) (λ_ _=>False) b) (λ_ _=>False) s)
  (n:Nat) (h:I n s):Gp (Th prog w) A (.compLoop (.ListComp l [⟨t,iter,j,0⟩] scope pos) 0 it acc env) R s:=by
 refine Pf rfl I (λn s y=>?_) n h;show Tg _ A ((Pz (.ListComp l [⟨t,iter,j,0⟩] scope pos) 0 it acc env).onRaise (λx=>do Qn x env;Mk x)) _ _ s;refine Qo ?_;rw[compTurn_list];refine Ac (Ea (Ac (Az (turn n s y) (λr b i=>?_) λ_ _ h'=>h'.elim)));cases r with
 |none=>exact An i
 |some v=>
  refine Ac (Az i (λ_ s₀ k=>?_) λ_ _ h'=>h'.elim);refine Ac (Az k (λ_ f q=>?_) λ_ _ h'=>h'.elim);refine Ac (Az q (λu a g=>?_) λ_ _ h'=>h'.elim);cases u with
  |false=>exact An ⟨rfl,g⟩
  |true=>exact Ac (Ac (Az g (λx e p=>Ac (Az p (λ_ d o=>An (An ⟨rfl,o⟩)) λ_ _ h'=>h'.elim)) λ_ _ h'=>h'.elim))
section
variable{X:Cx}{aa:List (Tf×Tq)}{σ:St}{H H':Hp}{s s1 s':Ah}{h'':Tp}
theorem cE.offNew{a:St}{H1:Hp}(d:cE X aa σ H1 s1)(i:cE X aa a H' s')(h:H' s1.heap.objs.size=none)(f:∀b o,b≠s1.heap.objs.size->s'.heap.get? b=some o->h''.get? b=some o):cE X aa a H' {s' with heap:=h''}:=
 i.turned (t':=s'.toks) (it:=s1.heap.objs.size) f h (Go d.lt) (.inr d.sz)
  (λx c e z=>by obtain⟨v,q⟩:=d.cell x c e;have:=q.lt;rw[z] at this;exact Cm _ this)
  λp g z=>by have:=Aq (d.pin p g).1;rw[z] at this;exact Cm _ this
end
def Wu(D:Tf)(ix:List Nat)(nl:Nat)(J:It)(g:TG)(h:TT)(te:TE)(σ:St)(H0:Hp)(Q:Hp->Prop):Prop:=
 ∃W:Nat->Nat->List V->Hp->Prop,(∃m,W 0 m [] (aN H0 D (.lst [])))/\∀i m acc H1,W i m acc H1->
  (J.stop i H1/\Q H1)∨
  (J.go i H1/\ ∃N:List V->Hp->Prop,(∀d H',N d H'-> ∃c,c<m/\W (i+1) c d H')∧
   ∀x H2,J.yld i H1 x H2->g x (aJ ix σ++Bi nl none) H2 λa j=>a.take ix.length=aJ ix σ∧
    h a j λb f=>if b=true then te a f λv e=>e D=some (.lst acc)/\acc.length<sizeLine/\N (acc++[v]) (aN e D (.lst (acc++[v]))) else N acc f)
theorem U7{env:Env}{x:Ti}:∀{l:List (Ti×Tu)},l.lookup x=some .free->(l.map λ(n,k)=>if(k==Bp&&env.scope.kind== .function&&env.kindOf n==some .cell) then(n,Cj) else(n,k)).lookup x=some .cell∨(l.map λ(n,k)=>if(k==Bp&&env.scope.kind== .function&&env.kindOf n==some .cell) then(n,Cj) else(n,k)).lookup x=some .free
 |[],h=>by cases h
 | (n,k) :: r,h => by
  show Nf x ((if(k==Bp&&env.scope.kind== .function&&env.kindOf n==some .cell)=true then(n,Cj) else(n,k))::_)=some .cell∨Nf x ((if(k==Bp&&env.scope.kind== .function&&env.kindOf n==some .cell)=true then(n,Cj) else(n,k))::_)=some .free;by_cases b:x=n
  ·subst b
   rw[Eh] at h;cases h;by_cases hc:(Bp==Bp&&env.scope.kind== .function&&env.kindOf x==some .cell)=true
   ·left
    rw[if_pos hc,Eh]
   ·right
    rw[if_neg hc,Eh]
  ·have hb:(x==n)=false:=beq_eq_false_iff_ne.mpr b
   simp only[Cs,hb] at h;have a:=U7 (env:=env) h;by_cases hc:(k==Bp&&env.scope.kind== .function&&env.kindOf n==some .cell)=true
   ·rw[if_pos hc]
    simp only[Cs,hb];exact a
   ·rw[if_neg hc]
    simp only[Cs,hb];exact a
def D3(ix:List Nat)(nl:Nat)(a:TI)(g:TG)(b:TT)(te:TE):TE:=λσ H Q=>a σ H λJ H0=>∀D,H0 D=none->Wu D ix nl J g b te σ H0 λH'=>Q (.ref D) H'
mutual
inductive Dp(K:As)(H:Hp):V->Mz->Prop
 |non:Dp K H .non .none
 |bl (b:Bool):Dp K H (.bl b) (.bool b)
 |int (i:Int):Dp K H (.int i) (.int i)
 |str (x:Ti):Dp K H (.str x) (.str x)
 |lst {a:Tf} {xs:List V} {ds:List Mz}:WT K H a xs->ME K H xs ds->Dp K H (.ref a) (.list ds)
 |tup {a:Tf} {xs:List V} {ds:List Mz}:V0 K H a xs->ME K H xs ds->Dp K H (.ref a) (.tuple ds)
inductive ME(K:As)(H:Hp):List V->List Mz->Prop
 |nil:ME K H [] []
 |cons {v:V} {vs:List V} {d:Mz} {ds:List Mz}:Dp K H v d->ME K H vs ds->ME K H (v::vs) (d::ds)
end
section
variable{X:Cx}{aa:List (Tf×Tq)}{σ:St}{H:Hp}{s:Ah}
mutual
theorem cE.reads(I:cE X aa σ H s):∀{v:V} {d:Mz} {u:Te},Dp X.K H v d->bO v u->∃as,Reads s.heap u d as
 |_,_,_,.non,r=>by cases r;exact⟨_,.none⟩
 |_,_,_,.bl b,r=>by cases r;exact⟨_,.bool b⟩
 |_,_,_,.int i,r=>by obtain⟨t,rfl⟩:=r;exact⟨_,.int i t⟩
 |_,_,_,.str x,r=>by obtain⟨t,rfl⟩:=r;exact⟨_,.str x t⟩
 |_,_,_,.lst q all,r=>by
  cases r;obtain⟨its,a,⟨o,n,e,c,_,d⟩,_⟩:=I.list q;obtain⟨as,h⟩:=cE.readsAll I all a;exact⟨_,.list e c d (by simpa using h)⟩
 |_,_,_,.tup q all,r=>by
  cases r;obtain⟨its,a,⟨o,e,c,n,d⟩,_⟩:=I.tuple q;obtain⟨as,h⟩:=cE.readsAll I all a;exact⟨_,.tuple e c d (by simpa using h)⟩
theorem cE.readsAll(I:cE X aa σ H s):∀{vs:List V} {ds:List Mz} {a:List Te},ME X.K H vs ds->bJ vs a->∃as,ReadsAll s.heap a ds as
 |_,_,_,.nil,r=>by cases r;exact⟨_,.nil⟩
 | _,_,_,.cons h t,r => by
  cases r with
  |cons c b=>
   obtain⟨as,h1⟩:=cE.reads I h c;obtain⟨bs,h2⟩:=cE.readsAll I t b;exact⟨_,.cons h1 h2⟩
end
end
def rEqD(K:As):R2:=λx y H Q=>∃d e,Dp K H x d/\Dp K H y e/\Ey d=true/\Ey e=true/\Q (.bl (Jh d e)) H
def rNeD(K:As):R2:=λx y H Q=>∃d e,Dp K H x d/\Dp K H y e/\Ey d=true/\Ey e=true/\Q (.bl (!PyData.eqv d e)) H
section
variable{X:Cx}
theorem nL(g:X.A.units+64<cLine):WD X (Dk .Eq) (rEqD X.K):=by intro aa s σ H x y v u Q I f c h;obtain⟨d,e,j,i,b,a,q⟩:=h;obtain⟨as,h1⟩:=I.reads j f;obtain⟨bs,h2⟩:=I.reads i c;exact eq_dataH h1 h2 b a g (JD I q rfl)
theorem eR(g:X.A.units+64<cLine):WD X (Dk .NotEq) (rNeD X.K):=by intro aa s σ H x y v u Q I f c h;obtain⟨d,e,j,i,b,a,q⟩:=h;obtain⟨as,h1⟩:=I.reads j f;obtain⟨bs,h2⟩:=I.reads i c;exact ne_dataH h1 h2 b a g (JD I q rfl)
def rngP(p:Tf)(a b c:Int):Tp->Prop:=λh=>∃t u v,IsRange h p a b c t u v
inductive KA:List Ly->List (Ti×V)->Prop
 |nil:KA [] []
 |cons {e:Ly} {es:List Ly} {x:Ti} {t:Tx} {v:V} {D:List (Ti×V)}:e.key=.str x t->bO v e.val->KA es D->KA (e::es) ((x,v)::D)
def KTab(K:As)(a:Tf)(D:List (Ti×V)):Prop:=
 (a==Fn)=false/\∃o es b,K.lookup a=some o/\o.ExactDict/\o.data=.dict es b/\KA es.toList D
theorem KA.rows{es:List Ly}{D:List (Ti×V)}(h:KA es D):KTD.Rows bO es D:=by
 induction h with
 |nil=>exact .nil
 |cons h1 h2 _ a=>exact .cons h1 h2 a
theorem GR{A:Df}{E:Te->Ah->Prop}{s:Ah}{K:As}{prog:Br}{w:Tl}{a:Tf}{D:List (Ti×V)}{k:Ti}{tk:Tx}{Q:Option Te->Ah->Prop}(p:K.In s.heap)(T:KTab K a D)(h1:∀d v,Fw k D=some d->bO d v->Q (some v) {s with toks:=s.toks+1})(h2:Fw k D=none->Q none {s with toks:=s.toks+1}):Tg (Th prog w) A (dictGet a (.str k tk)) Q E s:=by
 obtain⟨_,o,es,q,g,hc,j,c⟩:=T;have g:=p _ _ g;have c:=c.rows;unfold dictGet;try with_reducible refine Cn ?_
 refine Ac (wpAny_pyHash_str (Ac (KTD.kt_dictFind_strs (s:={s with toks:=s.toks+1}) g j (by obtain⟨l⟩:=es;simpa using c.exact) ?_)));have f:Q (findBy (λk v=>v.isStr k) es k) {s with toks:=s.toks+1}:=by
  have n:findBy (λk v=>v.isStr k) es k=(es.toList.find? λe=>e.key.isStr k).map (·.val):=by obtain⟨l⟩:=es;simp[findBy]
  rw[n];cases b:Fw k D with
  |some d=>obtain⟨v,m,h⟩:=c.find_some b;rw[m];exact h1 d v b h
  |none=>rw[c.find_none b];exact h2 b
 rw[findBy_of_findIdx?] at f;cases hi:es.findIdx? λe=>e.key.isStr k with
 |none=>rw[hi] at f;exact An f
 |some i=>rw[hi] at f;exact Ac (wpAny_dictEntries (s:={s with toks:=s.toks+1}) g j (An f))
theorem dX:AA X (λx y H Q=>∃a k D v,x=.ref a/\y=.str k/\KTab X.K a D/\Fw k D=some v/\Q v H):=by
 intro value c aa s σ H x y v u Q I l j h hs;obtain⟨a,k,D,d,rfl,rfl,T,f,q⟩:=h;cases l;obtain⟨t,rfl⟩:=j;have b:s.TypeIs (.ref a) "dict":=by obtain⟨_,o,es,p,n,hc,_⟩:=T;exact⟨o,I.kIn _ _ n,hc.1⟩
 have main:Tg (Th X.prog X.w) X.A (Lc (.ref a) (.str k t)) (EP X aa σ Q) X.xe s:=by
  unfold Lc;try with_reducible refine Cn ?_
  refine Ac (Kt b (by decide) ?_);refine Ac (Du (name:=Am "__getitem__") b Kl
   (Ep Kl b PySem.F.entry_dict_getitem ?_ (PySem.F.args_dict_getitem_2 _ _)))
  show Tg _ _ (dictGet a (.str k t)>>=_) _ _ s;exact Ac (GR I.kIn T (λd' i g m=>An ⟨i,rfl,An (by rw[f] at g;cases g;exact⟨d,H,I.tok _,m,q⟩)⟩) λe=>by rw[f] at e;cases e)
 exact Rw b PySem.F.slot_dict_getitem.lookup main hs
end
section
variable{prog:Br}{w:Tl}{A:Df}{E:Te->Ah->Prop}{s:Ah}
theorem KR{it t:Tf}{items:Array Te}(g:t≠it):∀(n i:Nat) (s:Ah) (Q:List Te->Ah->Prop),s.heap.IsListIter it t i->s.heap.IsList t items->i+n<=items.size->(∀h',h'.IsListIter it t (i+n)->Fo it s.heap h'->Q ((items.toList.drop i).take n) {s with heap:=h'})->Tg (Th prog w) A (draw (.ref it) n) Q E s
 |0,i,s,Q,e,_,_,j=>by show Tg _ _ (pure []) Q E s;exact An (by simpa using j s.heap e (Heap.SameBut.refl ..))
 |n+1,i,s,Q,e,l,m,j=>by
  have h:i<items.size:=by lia
  show Tg _ _ (pyNext (.ref it)>>=_) Q E s;refine Ac (Ls e l (x:=items[i]) (by simp[h]) λk c a=>?_);refine Ac (Cn (KR g n (i+1) _ _ c (l.extBut a.extBut g) (by lia) λf b d=>An ?_));have o:items.toList.drop i=items[i]::items.toList.drop (i+1):=by simp[Cq,h]
  have:=j f (by rw[show i+(n+1)=i+1+n by lia];exact b) (a.trans d);rw[o,Ng] at this;exact this
theorem P6{t:Tf}{items:Array Te}{Q:List Te->Ah->Prop}(n:A.handled=none)(k:s.heap.IsList t items)(p:∀h',Jp s.heap.objs.size s.heap h'->Q items.toList {s with heap:=h'}):Tg (Th prog w) A (Jk (.ref t) items.size none) Q E s:=by
 have j:t≠s.heap.objs.size:=by obtain⟨o,l,_⟩:=k;exact Bk (Aq l)
 unfold Jk;refine Ac ?_
 ·unfold notIterableAtAll
  refine Ac (wpAny_specialOf k.typeIs PySem.F.slot_list_iter.lookup ?_);refine An ?_;simp only[Dx,if_false];refine Ac (Cn (Gz k ?_));have i:(s.heap.push {cls:=.type "list_iterator",data:=.fields #[.ref t,.int 0 0]}).IsList t items:=by obtain⟨o,l,r⟩:=k;exact⟨o,Ae _ l,r⟩
  refine Ac (Cn (KR j items.size 0 _ _ ⟨_,Ay _ rfl,rfl,rfl⟩ i (by lia) λh c a=>?_));have m:List.take items.size (List.drop 0 items.toList)=items.toList:=by rw[Na];exact Co (by simp)
  rw[m];rw[if_neg (by simp)];have d:h.IsList t items:=i.extBut a.extBut j;refine Ac (Cn (Me n c d (by simp) λg f=>?_));simp only[Option.isSome_none,Dx,if_false];refine An (p g λb o hb e=>f b o hb (a.extBut b o hb (Ae _ e)))
theorem QD{env:Env}{a:List Tj}{x1}{pos:Pos}{t:Tf}{items:Array Te}{Q:Unit->Ah->Prop}(e:A.handled=none)(c:s.heap.IsList t items)(d:(Tk a env).length=items.size)(b:(Tk a env).findIdx? (·.1)=none)(h:∀h',Jp s.heap.objs.size s.heap h'->Tg (Th prog w) A (Tv ((Tk a env).map (·.2)) items.toList) Q E {s with heap:=h'}):Tg (Th prog w) A (assign (.Tuple a x1 pos) env (.ref t)) Q E s:=by rw[assign_Tuple];refine Ac (Ea ?_);unfold unpack;rw[d,b];exact Ac (Cn (P6 e c h))
end
section
variable{X:Cx}{pos:Pos}
def gLst(K:As)(n:Nat)(t:AM):TG:=λv σ H Q=>∃a xs,v=.ref a/\WT K H a xs/\xs.length=n/\t xs σ H Q
theorem jF{es:List Tj}{k:Nat}{t:AM}{n:Nat}(hc:X.calm=true)(h:CD X es t)(j:(Tk es X.env).length=n:=by rfl)(c:(Tk es X.env).findIdx? (·.1)=none:=by rfl):PG X (.Tuple es k pos) (gLst X.K n t):=by intro aa s σ H v u Q I r hw;obtain⟨a,xs,l,i,hl,hw⟩:=hw;subst l;cases r;obtain⟨its,d,g,p⟩:=I.list i;refine QD (I.ok.hd hc) g.isList (by simp[j,<-hl,d.length]) c λh' f=>?_;have m:cE X aa σ H {s with heap:=h'}:=I.kept (t':=s.toks) λb o e=>f b o (Bk (Aq e)) e;exact h aa _ σ H xs _ Q m (by simpa using d) hw
def FnAt(X:Cx)(f:Tf)(sp:Sp):Prop:=∃(k:Nat) (fd:Fk) (ps:List Ti),aU X.prog X.w X.K X.mg X.base CX0 k f fd ps sp/\XX k X.A/\Ht X.K (.ref f)=true/\P9 X.K fd ps []
def jL(X:Cx)(a:TE)(t:TA):TE:=λσ H Q=>a σ H λx H1=>∃f sp,x=.ref f/\FnAt X f sp/\t σ H1 λvs H2=>sp vs H2 Q E0
theorem lM{x:Ti}{p pos:Pos}{e:Tj}{es:List Tj}{b:TE}{t:TA}(j:PE X (.Name x p) b)(m:PA X (e::es) t)(l:Aj (e::es) X.env=(false,eval e X.env)::Aj es X.env:=by rfl)(a:(Fx pos (Aj es X.env)).any (·.1)=false:=by rfl):PE X (.Call (.Name x p) (e::es) [] pos) (jL X b t):=by intro aa s σ H Q I h;refine Fs (ZB (j aa s σ H _ I h) λu s1 ⟨x,H1,n,d,f,sp,ex,F,q⟩=>?_);subst ex;obtain rfl:u=Bx f:=d;obtain⟨k,fd,ps,F,g,i,hb⟩:=F;refine W.callWith_K (h₀:=X.base) I.ok.mod.kin i (ZB (m pos aa s1 σ H1 _ n q) λo v ⟨vs,H2,c,r,q2⟩=>⟨c.kIn,?_⟩) l a;refine Vg (dvs:=[]) (ds:=[]) F g hb .nil Ud c r ?_;rw[Cv];exact q2
end
section
variable{X:Cx}{K:As}
theorem nN(h:X.K=K):ZR X (.type "list") (λxs H Q=>∃p ys,xs=[.ref p]/\(WT K H p ys∨V0 K H p ys)/\∀l,H l=none->Q (.ref l) (aN H l (.lst ys))):=by subst h;exact IQ
theorem hX(h:X.K=K):ZR X (.type "tuple") (λxs H Q=>∃p ys,xs=[.ref p]/\((WT K H p ys/\∀l,H l=none->Q (.ref l) (aN H l (.tup ys)))∨(V0 K H p ys/\Q (.ref p) H))):=by subst h;exact L5
theorem kEqD(h:X.K=K)(a:X.A.units+64<cLine):WD X (Dk .Eq) (rEqD K):=by subst h;exact nL a
theorem PQ(h:X.K=K)(a:X.A.units+64<cLine):WD X (Dk .NotEq) (rNeD K):=by subst h;exact eR a
theorem Wi(h:X.K=K){es:List Tj}{k:Nat}{t:AM}{n:Nat}{pos:Pos}(hc:X.calm=true)(c:CD X es t)(b:(Tk es X.env).length=n:=by rfl)(a:(Tk es X.env).findIdx? (·.1)=none:=by rfl):PG X (.Tuple es k pos) (gTup K n t):=by subst h;exact oV hc c b a
theorem pA(h:X.K=K){es:List Tj}{k:Nat}{t:AM}{n:Nat}{pos:Pos}(hc:X.calm=true)(c:CD X es t)(b:(Tk es X.env).length=n:=by rfl)(a:(Tk es X.env).findIdx? (·.1)=none:=by rfl):PG X (.Tuple es k pos) (gLst K n t):=by subst h;exact jF hc c b a
theorem Vw(h:X.K=K){tg l:Tj}{tl:TE}(hl:PE X l tl):PI X tg l (Vk K tl):=by subst h;exact iV hl
theorem Xb(h:X.K=K){tg l:Tj}{tl:TE}(hl:PE X l tl):PI X tg l (iTup K tl):=by subst h;exact nC hl
theorem kBm(h:X.K=K){o e:Tj}{es:List Tj}{to:TE}{t:TA}{name:Ti}{ax ag:Pos}{T id:String}{r:V->List V->Hp->VK->Prop}(pa:PlainAttrs T)(slot:Slot T name id)(a:typeOf (.builtin id)=pure (.type "method_descriptor"))(c:MtR X id r)(b:PE X o to)(d:PA X (e::es) t)(g:Hv o name X.env (eval o X.env)=eval o X.env:=by rfl)(f:((Fx ag (Aj (e::es) X.env)).all (λx=> !x.1)&&(Nv ag (Jm [] X.env)).all (λx=>x.1.isSome)&&decide ((e::es).length+([]:List Jn).length+(if([]:List Jn).isEmpty then 0 else 1)<30))=true:=by rfl)(i:(ax.endLine==ag.line)=true:=by rfl)(hs:Aj (e::es) X.env=(false,eval e X.env)::Aj es X.env:=by rfl)(j:(Fx ag (Aj es X.env)).any (·.1)=false:=by rfl):PE X (.Call (.Attribute o name ax) (e::es) [] ag) (tBM K T r to t):=by subst h;exact dM pa slot a c b d g f i hs j
end
theorem oB:Bo "len"=some (.builtin "len"):=by decide+kernel
theorem EK:Bo "min"=some (.builtin "min"):=by decide+kernel
theorem Wg:Bo "max"=some (.builtin "max"):=by decide+kernel
theorem AO:Bo "sorted"=some (.builtin "sorted"):=by decide+kernel
theorem L3:Bo "isinstance"=some (.builtin "isinstance"):=by decide+kernel
theorem QG:Bo "list"=some (.type "list"):=by decide+kernel
theorem XZ:Bo "tuple"=some (.type "tuple"):=by decide+kernel
theorem gA:Bo "range"=some (.type "range"):=by decide+kernel
theorem hG:Bo "bool"=some (.type "bool"):=by decide+kernel
theorem Yk:Bo "int"=some (.type "int"):=by decide+kernel
theorem hV:Bo "str"=some (.type "str"):=by decide+kernel
structure Def(P:Br)(w:Tl)(K:As)(mg:Ti->Option Te)(base:Tp)(x:Ti)(k:Nat)(ps:List Ti)(sp:Sp)(f:Tf):Prop where
 at_:mg x=some (.ref f)
 ok:∃fd,aU P w K mg base CX0 k f fd ps sp/\P9 K fd ps []
 kp:Ht K (.ref f)=true
section
variable{X:Cx}{x:Ti}{k j:Nat}{ps:List Ti}{sp:Sp}{f:Tf}{p pos:Pos}{e:Tj}{es:List Tj}{t:TA}
theorem mG(D:Def X.prog X.w X.K X.mg X.base x k ps sp f)(c:XX j X.A)(d:k<=j)(g:Gl X x)(i:PA X (e::es) t)(b:(x==("__debug__":Ti))=false:=by decide)(h:Aj (e::es) X.env=(false,eval e X.env)::Aj es X.env:=by rfl)(a:(Fx pos (Aj es X.env)).any (·.1)=false:=by rfl):PE X (.Call (.Name x p) (e::es) [] pos) (Uk sp [] E0 t):=by obtain⟨fd,F,B⟩:=D.ok;exact C9 F (c.mono d) g D.at_ D.kp B .nil Ud i b h a
theorem Def.fnAt(D:Def X.prog X.w X.K X.mg X.base x k ps sp f)(a:XX j X.A)(b:k<=j):FnAt X f sp:=by obtain⟨fd,F,B⟩:=D.ok;exact⟨k,fd,ps,F,a.mono b,D.kp,B⟩
end
theorem cN{H:Hp}{p:Tf}{o:HO}(a:H p=none):aP H (aN H p o):=λb o' e=>by rw[bF (XS e a)];exact e
theorem HS(ns:List Int):Ey (.list (ns.map Oq))=true:=by
 have h1:Gg (.list (ns.map Oq))=true:=by simp only[Gg,canLayAll_ints]
 have h2:Iu (.list (ns.map Oq))<=64:=by simp only[Iu,depthAll_ints];decide
 unfold Ey;rw[h1,decide_eq_true h2];rfl
inductive cX where
 |non|bl (b:Bool)|int (i:Int)|str (x:Ti)|ty (n:String)|fn (x:Ti)|tup (ds:List cX)|lst (ds:List cX)|dct (ks:List Z7) (ds:List cX)|exn (x:Ti)|exr (x n:Ti) (d:cX)
def FzL(K:As)(H:Hp)(a:Tf)(xs:List V):Prop:=
 (∃o,H a=some (.frz o (.lst xs)))∨
  ∃(o:Tq) (its:Array Te) (n:Nat),K.lookup a=some o/\o.cls=.type "list" /\o.dict=none/\o.data=.seq its n/\its.size<=sizeLine/\bJ xs its.toList
theorem FzL.sq{K:As}{H:Hp}{a:Tf}{xs:List V}(h:FzL K H a xs):WT K H a xs:=by
 rcases h with⟨o,h⟩|h
 ·exact .inl (.inr ⟨o,h⟩)
 ·exact .inr h
def gW(h:Tp)(a C:Tf):Prop:=∃o vs,h.get? a=some o/\o.cls=.ref C/\o.data=.fields vs
def jY(h:Tp)(a C D:Tf):Prop:=∃o vs,h.get? a=some o/\o.cls=.ref C/\o.data=.fields vs/\o.dict=some D
mutual
inductive aX(K:As)(N:Tf->Prop)(H:Hp):(Tf->Prop)->V->cX->Prop
 |non {M:Tf->Prop}:aX K N H M .non .non
 |bl {M:Tf->Prop} (b:Bool):aX K N H M (.bl b) (.bl b)
 |int {M:Tf->Prop} (i:Int):aX K N H M (.int i) (.int i)
 |str {M:Tf->Prop} (x:Ti):aX K N H M (.str x) (.str x)
 |ty {M:Tf->Prop} (n:String):aX K N H M (.ty n) (.ty n)
 |fn {M:Tf->Prop} {a:Tf} {x:Ti}:Lp K Tn x=some (some (.ref a))->aX K N H M (.ref a) (.fn x)
 |tup {M:Tf->Prop} {a:Tf} {xs:List V} {ds:List cX}:V0 K H a xs->b7 K N H xs ds->aX K N H M (.ref a) (.tup ds)
 |lst {M:Tf->Prop} {a:Tf} {xs:List V} {ds:List cX}:H a=some (.lst xs)->¬M a->b7 K N H xs ds->aX K N H M (.ref a) (.lst ds)
 |fzl {M:Tf->Prop} {a:Tf} {xs:List V} {ds:List cX}:FzL K H a xs->b7 K N H xs ds->aX K N H M (.ref a) (.lst ds)
 |dct {M:Tf->Prop} {a:Tf} {kvs:List (Z7×V)} {ds:List cX}:H a=some (.dK kvs)->¬M a->b7 K N H (kvs.map Ec) ds->aX K N H M (.ref a) (.dct (kvs.map Cz) ds)
 |ktb {M:Tf->Prop} {a:Tf} {D:List (Ti×V)} {ds:List cX}:KTab K a D->b7 K N H (D.map Ec) ds->aX K N H M (.ref a) (.dct (D.map λp=>.inr p.1) ds)
 |exn {M:Tf->Prop} {a C:Tf} {x:Ti} {φ:Tp->Prop}:Lp K Tn x=some (some (.ref C))->H a=some (.ext φ)->(∀h,φ h->gW h a C)->aX K N H M (.ref a) (.exn x)
 |exr {M:Tf->Prop} {a C D:Tf} {x n:Ti} {φ:Tp->Prop} {v:V} {d:cX}:Lp K Tn x=some (some (.ref C))->H a=some (.ext φ)->(∀h,φ h->jY h a C D)->H D=some (.xd [(n,v)])->aX K N H N v d->aX K N H M (.ref a) (.exr x n d)
inductive b7(K:As)(N:Tf->Prop)(H:Hp):List V->List cX->Prop
 |nil:b7 K N H [] []
 |cons {v:V} {vs:List V} {d:cX} {ds:List cX}:aX K N H N v d->b7 K N H vs ds->b7 K N H (v::vs) (d::ds)
end
def Hard:HO->Prop
 |.tup _=>True
 |.frz _ _=>True
 |.ext _=>True
 |.xd _=>True
 |_=>False
def Fr(P:Tf->Prop)(H H':Hp):Prop:=∀b o,H b=some o->(P b->Hard o)->H' b=some o
theorem Fr.refl(P:Tf->Prop)(H:Hp):Fr P H H:=λ_ _ h _=>h
theorem Fr.trans{P:Tf->Prop}{H H1 H2:Hp}(a:Fr P H H1)(b:Fr P H1 H2):Fr P H H2:=λc o h n=>b c o (a c o h n) n
theorem Fr.mono{P d:Tf->Prop}{H H':Hp}(a:Fr P H H')(h:∀b,P b->d b):Fr d H H':=λc o e n=>a c o e λz=>n (h c z)
theorem aP.fr{P:Tf->Prop}{H H':Hp}(a:aP H H'):Fr P H H':=λc o h _=>a c o h
section
variable{K:As}{N N' M M' P:Tf->Prop}{H H':Hp}
theorem Fr.tup(f:Fr P H H'){a:Tf}{xs:List V}(h:V0 K H a xs):V0 K H' a xs:=by
 rcases h with(h|⟨o,h⟩)|h
 ·exact .inl (.inl (f _ _ h λ_=>trivial))
 ·exact .inl (.inr ⟨o,f _ _ h λ_=>trivial⟩)
 ·exact .inr h
theorem Fr.fzl(f:Fr P H H'){a:Tf}{xs:List V}(h:FzL K H a xs):FzL K H' a xs:=by
 rcases h with⟨o,h⟩|h
 ·exact .inl ⟨o,f _ _ h λ_=>trivial⟩
 ·exact .inr h
theorem aX.fr(f:Fr P H H')(e:∀a,P a->N a){M:Tf->Prop}{v:V}{d:cX}(c:∀a,P a->M a)(h:aX K N H M v d):aX K N H' M v d:=
 aX.rec (motive_1:=λM v d _=>(∀a,P a->M a)->aX K N H' M v d) (motive_2:=λvs ds _=>b7 K N H' vs ds) (λ_=>.non) (λb _=>.bl b) (λi _=>.int i) (λx _=>.str x) (λn _=>.ty n) (λq _=>.fn q) (λq _ r _=>.tup (f.tup q) r)
  (λq n _ r c=>.lst (f _ _ q λz=>absurd (c _ z) n) n r) (λq _ r _=>.fzl (f.fzl q) r) (λq n _ r c=>.dct (f _ _ q λz=>absurd (c _ z) n) n r) (λq _ r _=>.ktb q r) (λp q r _=>.exn p (f _ _ q λ_=>trivial) r)
  (λp q r s _ t _=>.exr p (f _ _ q λ_=>trivial) r (f _ _ s λ_=>trivial) (t e)) .nil (λ_ _ a b=>.cons (a e) b) h c
theorem b7.map{c:As}{N':Tf->Prop}{H':Hp}(g:∀{v d},aX K N H N v d->aX c N' H' N' v d):∀{vs:List V} {ds:List cX},b7 K N H vs ds->b7 c N' H' vs ds:=by
 intro vs;induction vs with
 |nil=>intro ds h;cases h;exact .nil
 |cons v vs e=>intro ds h;cases h with|cons a b=>exact .cons (g a) (e b)
theorem b7.fr(f:Fr P H H')(b:∀a,P a->N a){vs:List V}{ds:List cX}(h:b7 K N H vs ds):b7 K N H' vs ds:=h.map λr=>r.fr f b b
theorem aX.mono(e:∀a,N' a->N a){M M':Tf->Prop}{v:V}{d:cX}(c:∀a,M' a->M a)(h:aX K N H M v d):aX K N' H M' v d:=
 aX.rec (motive_1:=λM v d _=>∀M',(∀a,M' a->M a)->aX K N' H M' v d) (motive_2:=λvs ds _=>b7 K N' H vs ds) (λ_ _=>.non) (λb _ _=>.bl b) (λi _ _=>.int i) (λx _ _=>.str x) (λn _ _=>.ty n) (λq _ _=>.fn q) (λq _ r _ _=>.tup q r)
  (λq n _ r _ c=>.lst q (λz=>n (c _ z)) r) (λq _ r _ _=>.fzl q r) (λq n _ r _ c=>.dct q (λz=>n (c _ z)) r) (λq _ r _ _=>.ktb q r) (λp q r _ _=>.exn p q r) (λp q r s _ t _ _=>.exr p q r s (t _ e)) .nil (λ_ _ a b=>.cons (a _ e) b) h M' c
theorem b7.mono(b:∀a,N' a->N a){vs:List V}{ds:List cX}(h:b7 K N H vs ds):b7 K N' H vs ds:=h.map λr=>r.mono b b
theorem aX.same(f:aP H H'){v:V}{d:cX}(h:aX K N H M v d):aX K N H' M v d:=h.fr f.fr (λ_ z=>z.elim) (P:=λ_=>False) λ_ z=>z.elim
theorem b7.same(f:aP H H'){vs:List V}{ds:List cX}(h:b7 K N H vs ds):b7 K N H' vs ds:=h.fr f.fr (P:=λ_=>False) λ_ z=>z.elim
theorem b7.length:∀{vs:List V} {ds:List cX},b7 K N H vs ds->vs.length=ds.length
 |_,_,.nil=>rfl
 |_,_,.cons _ t=>congrArg (· +1) (b7.length t)
theorem b7.append:∀{vs ws:List V} {ds es:List cX},b7 K N H vs ds->b7 K N H ws es->b7 K N H (vs++ws) (ds++es)
 |_,_,_,_,.nil,s=>s
 |_,_,_,_,.cons h t,s=>.cons h (b7.append t s)
theorem b7.get:∀{vs:List V} {ds:List cX} {i:Nat} {d:cX},b7 K N H vs ds->ds[i]?=some d->∃v,vs[i]?=some v/\aX K N H N v d
 |_,_,_,_,.nil,e=>by simp at e
 |_,_,0,_,.cons r _,e=>by simp at e;subst e;exact⟨_,rfl,r⟩
 |_,_,i+1,x,.cons _ t,e=>by obtain⟨u,h1,h2⟩:=b7.get (i:=i) (d:=x) t (by simpa using e);exact⟨u,by simpa using h1,h2⟩
theorem b7.take:∀{vs:List V} {ds:List cX} (n:Nat),b7 K N H vs ds->b7 K N H (vs.take n) (ds.take n)
 |_,_,0,_=>.nil
 |_,_,_+1,.nil=>.nil
 |_,_,n+1,.cons r t=>.cons r (b7.take n t)
theorem b7.drop:∀{vs:List V} {ds:List cX} (n:Nat),b7 K N H vs ds->b7 K N H (vs.drop n) (ds.drop n)
 |_,_,0,r=>r
 |_,_,_+1,.nil=>.nil
 |_,_,n+1,.cons _ t=>b7.drop n t
theorem b7.set{v:V}{d:cX}(h:aX K N H N v d):∀{vs:List V} {ds:List cX} (i:Nat),b7 K N H vs ds->b7 K N H (vs.set i v) (ds.set i d)
 |_,_,_,.nil=>.nil
 |_,_,0,.cons _ t=>.cons h t
 |_,_,i+1,.cons q t=>.cons q (b7.set h i t)
theorem b7.snoc{vs:List V}{ds:List cX}{v:V}{d:cX}(r:b7 K N H vs ds)(h:aX K N H N v d):b7 K N H (vs++[v]) (ds++[d]):=r.append (.cons h .nil)
end
mutual
def cX.isD:cX->Bool
 |.non=>true
 |.bl _=>true
 |.int _=>true
 |.str _=>true
 |.ty _=>false
 |.fn _=>false
 |.tup ds=>GO ds
 |.lst ds=>GO ds
 |.dct _ _=>false
 |.exn _=>false
 |.exr _ _ _=>false
def GO:List cX->Bool
 |[]=>true
 |d::ds=>d.isD&&GO ds
end
mutual
def cX.pd:cX->Mz
 |.non=>.none
 |.bl b=>.bool b
 |.int i=>.int i
 |.str x=>.str x
 |.ty _=>.none
 |.fn _=>.none
 |.tup ds=>.tuple (pds ds)
 |.lst ds=>.list (pds ds)
 |.dct _ _=>.none
 |.exn _=>.none
 |.exr _ _ _=>.none
def pds:List cX->List Mz
 |[]=>[]
 |d::ds=>d.pd::pds ds
end
mutual
def cX.hard:cX->Bool
 |.tup ds=>T6 ds
 |.lst _=>false
 |.dct _ _=>false
 |.exr _ _ _=>false
 |_=>true
def T6:List cX->Bool
 |[]=>true
 |d::ds=>d.hard&&T6 ds
end
section
variable{K:As}{N:Tf->Prop}{H:Hp}
theorem aX.dp{M:Tf->Prop}{v:V}{d:cX}(h:aX K N H M v d)(e:d.isD=true):Dp K H v d.pd:=
 aX.rec (motive_1:=λM v d _=>d.isD=true->Dp K H v d.pd) (motive_2:=λvs ds _=>GO ds=true->ME K H vs (pds ds)) (λ_=>.non) (λb _=>.bl b) (λi _=>.int i) (λx _=>.str x) (λ_ h=>nomatch h) (λ_ h=>nomatch h) (λq _ r h=>.tup q (r h))
  (λq _ _ r h=>.lst (WT.of q) (r h)) (λq _ r h=>.lst q.sq (r h)) (λ_ _ _ _ h=>nomatch h) (λ_ _ _ h=>nomatch h) (λ_ _ _ h=>nomatch h) (λ_ _ _ _ _ _ h=>nomatch h) (λ_=>.nil) (λ_ _ a b e=>.cons (a (Dv.mp e).1) (b (Dv.mp e).2)) h e
theorem aX.hard{N':Tf->Prop}{M M':Tf->Prop}{v:V}{d:cX}(h:aX K N H M v d)(e:d.hard=true):aX K N' H M' v d:=
 aX.rec (motive_1:=λM v d _=>∀M',d.hard=true->aX K N' H M' v d) (motive_2:=λvs ds _=>T6 ds=true->b7 K N' H vs ds) (λ_ _=>.non) (λb _ _=>.bl b) (λi _ _=>.int i) (λx _ _=>.str x) (λn _ _=>.ty n) (λq _ _=>.fn q) (λq _ r _ h=>.tup q (r h))
  (λ_ _ _ _ _ h=>nomatch h) (λ_ _ _ _ h=>nomatch h) (λ_ _ _ _ _ h=>nomatch h) (λ_ _ _ _ h=>nomatch h) (λp q r _ _=>.exn p q r) (λ_ _ _ _ _ _ _ h=>nomatch h) (λ_=>.nil) (λ_ _ a b e=>.cons (a _ (Dv.mp e).1) (b (Dv.mp e).2)) h M' e
theorem b7.hard{N':Tf->Prop}:∀{vs:List V} {ds:List cX},b7 K N H vs ds->T6 ds=true->b7 K N' H vs ds:=by
 intro vs;induction vs with
 |nil=>intro ds h _;cases h;exact .nil
 |cons v vs c=>intro ds h e;cases h with|cons a b=>exact .cons (a.hard (Dv.mp e).1) (c b (Dv.mp e).2)
end
inductive Sl where
 |no|va (d:cX)|ow (d:cX)
abbrev Ev:=List Sl
structure Bs where
 Z:Tf->Prop
 P:Tf->Prop
 H0:Hp
 mu:Nat->Option Tf
 kp:List (V×cX)
def Nn(B:Bs)(O:Nat->Option Tf):Tf->Prop:=λa=>B.Z a∨∃i,O i=some a
def OA(O:Nat->Option Tf):Tf->Prop:=λa=>∃i,O i=some a
inductive NR(K:As)(N:Tf->Prop)(H:Hp)(a:Tf):cX->Prop
 |lst {xs:List V} {ds:List cX}:H a=some (.lst xs)->b7 K N H xs ds->NR K N H a (.lst ds)
 |dct {kvs:List (Z7×V)} {ds:List cX}:H a=some (.dK kvs)->b7 K N H (kvs.map Ec) ds->NR K N H a (.dct (kvs.map Cz) ds)
theorem NR.fr{K:As}{N P:Tf->Prop}{H H':Hp}{a:Tf}{d:cX}(f:Fr P H H')(c:∀a,P a->N a)(b:¬P a):NR K N H a d->NR K N H' a d
 |.lst q r=>.lst (f _ _ q λz=>absurd z b) (r.fr f c)
 |.dct q r=>.dct (f _ _ q λz=>absurd z b) (r.fr f c)
theorem NR.mono{K:As}{N N':Tf->Prop}{H:Hp}{a:Tf}{d:cX}(h:∀b,N' b->N b):NR K N H a d->NR K N' H a d
 |.lst q r=>.lst q (r.mono h)
 |.dct q r=>.dct q (r.mono h)
theorem NR.soft{K:As}{N:Tf->Prop}{H:Hp}{a:Tf}{d:cX}(h:NR K N H a d):∃o,H a=some o/\¬Hard o:=by
 cases h with
 |lst q _=>exact⟨_,q,λz=>z⟩
 |dct q _=>exact⟨_,q,λz=>z⟩
theorem NR.rep{K:As}{N M:Tf->Prop}{H:Hp}{a:Tf}{d:cX}(h:NR K N H a d)(b:¬M a):aX K N H M (.ref a) d:=by
 cases h with
 |lst q r=>exact .lst q b r
 |dct q r=>exact .dct q b r
structure Z4(K:As)(ml:List Nat)(B:Bs)(O:Nat->Option Tf)(H:Hp)(σ:St)(δ:Ev):Prop where
 len:σ.length=δ.length
 va:∀(i:Nat) (d:cX),δ[i]?=some (Sl.va d)->∃v,σ[i]?=some (some v)/\aX K (Nn B O) H (Nn B O) v d
 ow:∀(i:Nat) (d:cX),δ[i]?=some (Sl.ow d)->∃a,O i=some a/\σ[i]?=some (some (.ref a))/\NR K (Nn B O) H a d
 dom:∀(i:Nat) a,O i=some a->∃d,δ[i]?=some (Sl.ow d)
 inj:∀i j a,O i=some a->O j=some a->i=j
 old:∀i a,O i=some a->¬B.Z a/\(B.P a∨B.H0 a=none)
 zin:∀a,B.Z a->∃o,H a=some o
 frm:Fr B.P B.H0 H
 par:(∀i a,B.mu i=some a->i∈ml)/\∀i∈ml,O i=B.mu i
 pin:∀a,B.P a->∃o,H a=some o
 kep:∀p∈B.kp,aX K (Nn B O) H (Nn B O) p.1 p.2
section
variable{K:As}{ml:List Nat}{B:Bs}{O:Nat->Option Tf}{H H':Hp}{σ:St}{δ δ':Ev}
theorem Z4.nin(S:Z4 K ml B O H σ δ){a:Tf}(h:Nn B O a):∃o,H a=some o:=by
 rcases h with h|⟨i,h⟩
 ·exact S.zin a h
 ·obtain⟨d,e⟩:=S.dom i a h
  obtain⟨c,b,_,w⟩:=S.ow i d e;rw[h] at b;cases b;obtain⟨o,q,_⟩:=w.soft;exact⟨o,q⟩
theorem Z4.new(S:Z4 K ml B O H σ δ){a:Tf}(h:H a=none):¬Nn B O a:=λz=>by obtain⟨o,q⟩:=S.nin z;rw[h] at q;cases q
theorem Z4.same(S:Z4 K ml B O H σ δ)(f:aP H H'):Z4 K ml B O H' σ δ where
 len:=S.len
 va:=λi d e=>let ⟨v,a,b⟩:=S.va i d e;⟨v,a,b.same f⟩
 ow:=λi d e=>let ⟨a,b,c,w⟩:=S.ow i d e;⟨a,b,c,w.fr (P:=λ_=>False) f.fr (λ_ z=>z.elim) λz=>z⟩
 dom:=S.dom
 inj:=S.inj
 old:=S.old
 zin:=λa h=>let ⟨o,q⟩:=S.zin a h;⟨o,f _ _ q⟩
 frm:=S.frm.trans f.fr
 par:=S.par
 pin:=λa h=>let ⟨o,q⟩:=S.pin a h;⟨o,f _ _ q⟩
 kep:=λp h=>(S.kep p h).same f
theorem Z4.fresh(S:Z4 K ml B O H σ δ){a:Tf}(h:H a=none):B.H0 a=none:=by
 cases q:B.H0 a with
 |none=>rfl
 |some o=>
  by_cases b:B.P a
  ·obtain⟨o',e⟩:=S.pin a b
   rw[h] at e;cases e
  ·have := S.frm a o q λz => absurd z b
   rw[h] at this;cases this
def Bs.add(B:Bs)(p:Tf):Bs:={B with Z:=λa=>B.Z a∨a=p}
theorem RQ{p:Tf}:∀a,Nn B O a->Nn (B.add p) O a:=λa h=>by
 rcases h with h|h
 ·exact .inl (.inl h)
 ·exact .inr h
theorem aX.away{p:Tf}(g:H p=none)(N N':Tf->Prop)(f:∀a,N' a->N a∨a=p){M M':Tf->Prop}{v:V}{d:cX}(c:∀a,M' a->M a∨a=p)(h:aX K N H M v d):aX K N' H M' v d:=
 have no:∀{a:Tf} {o:HO} {M M':Tf->Prop},H a=some o->¬M a->(∀a,M' a->M a∨a=p)->¬M' a:=λq n c z=>(c _ z).elim n λe=>by rw[e,g] at q;cases q
 aX.rec (motive_1:=λM v d _=>∀M',(∀a,M' a->M a∨a=p)->aX K N' H M' v d) (motive_2:=λvs ds _=>b7 K N' H vs ds) (λ_ _=>.non) (λb _ _=>.bl b) (λi _ _=>.int i) (λx _ _=>.str x) (λn _ _=>.ty n) (λq _ _=>.fn q) (λq _ r _ _=>.tup q r)
  (λq n _ r _ c=>.lst q (no q n c) r) (λq _ r _ _=>.fzl q r) (λq n _ r _ c=>.dct q (no q n c) r) (λq _ r _ _=>.ktb q r) (λp q r _ _=>.exn p q r) (λp q r s _ t _ _=>.exr p q r s (t _ f)) .nil (λ_ _ a b=>.cons (a _ f) b) h M' c
theorem b7.away{p:Tf}(c:H p=none)(N N':Tf->Prop)(b:∀a,N' a->N a∨a=p){vs:List V}{ds:List cX}(h:b7 K N H vs ds):b7 K N' H vs ds:=h.map λr=>r.away c N N' b b
theorem V9{p:Tf}:∀a,Nn (B.add p) O a->Nn B O a∨a=p:=λa h=>by
 rcases h with(h|h)|h
 ·exact .inl (.inl h)
 ·exact .inr h
 ·exact .inl (.inr h)
theorem Z4.laid(S:Z4 K ml B O H σ δ){p:Tf}{o:HO}(f:H p=none):Z4 K ml (B.add p) O (aN H p o) σ δ where
 len:=S.len
 va:=λi d e=>let ⟨v,a,b⟩:=S.va i d e;⟨v,a,(b.away f _ _ V9 V9).same (cN f)⟩
 ow:=λi d e=>by
  obtain⟨a,b,c,w⟩:=S.ow i d e;refine⟨a,b,c,?_⟩;have g:∀o,H a=some o->aN H p o=aN H p o:=λ_ _=>rfl;cases w with
  |lst q r=>exact .lst (cN f _ _ q) ((r.away f _ _ V9).same (cN f))
  |dct q r=>exact .dct (cN f _ _ q) ((r.away f _ _ V9).same (cN f))
 dom:=S.dom
 inj:=S.inj
 old:=λi a h=>by
  refine⟨λz=>?_,(S.old i a h).2⟩;rcases z with z|z
  ·exact(S.old i a h).1 z
  ·obtain⟨o,q⟩:=S.nin (.inr ⟨i,h⟩)
   rw[z,f] at q;cases q
 zin:=λa h=>by
  rcases h with h|h
  ·obtain⟨o,q⟩:=S.zin a h
   exact⟨o,cN f _ _ q⟩
  ·exact⟨_,by rw[h];exact bZ⟩
 frm:=S.frm.trans (cN f).fr
 par:=S.par
 pin:=λa h=>let ⟨o,q⟩:=S.pin a h;⟨o,cN f _ _ q⟩
 kep:=λp h=>((S.kep p h).away f _ _ V9 V9).same (cN f)
theorem OP{i:Nat}{o:Option Tf}:∀a,Nn B (λj=>if j=i then none else O j) a->Nn B O a:=λa h=>by
 rcases h with h|⟨j,h⟩
 ·exact .inl h
 ·refine .inr ⟨j,?_⟩
  by_cases b:j=i
  ·simp[b] at h
  ·simpa[b] using h
theorem TF{α:Type}{l:List α}{i j:Nat}{x y:α}(h:(l.set i x)[j]?=some y):(j=i/\y=x/\i<l.length)∨(j≠i/\l[j]?=some y):=by
 by_cases a:j=i
 ·subst a
  rw[List.getElem?_set_self'] at h;obtain⟨z,q,h⟩:=Ar.mp h;cases h;exact .inl ⟨rfl,rfl,(Ad.mp q).1⟩
 ·rw[Ca (Dn a)] at h
  exact .inr ⟨a,h⟩
theorem Z4.setVa(S:Z4 K ml B O H σ δ){i:Nat}{v:V}{d:cX}(n:i∉ml)(h:aX K (Nn B O) H (Nn B O) v d):Z4 K ml B (λj=>if j=i then none else O j) H (σ.set i (some v)) (δ.set i (.va d)) where
 len:=by rw[Bz,Bz,S.len]
 va:=λj e q=>by
  rcases TF q with⟨rfl,z,hl⟩|⟨b,q⟩
  ·cases z
   exact⟨v,by rw[Dh (by rw[S.len];exact hl)],h.mono (OP (o:=none)) (OP (o:=none))⟩
  ·obtain⟨u,c,r⟩:=S.va j e q
   exact⟨u,by rw[Ca (Dn b)];exact c,r.mono (OP (o:=none)) (OP (o:=none))⟩
 ow:=λj e q=>by
  rcases TF q with⟨rfl,z,hl⟩|⟨b,q⟩
  ·cases z
  ·obtain⟨a,c,f,w⟩:=S.ow j e q
   exact⟨a,by simpa[b] using c,by rw[Ca (Dn b)];exact f,w.mono (OP (o:=none))⟩
 dom:=λj a e=>by
  by_cases b:j=i
  ·simp[b] at e
  ·obtain ⟨d,q⟩ := S.dom j a (by simpa [b] using e)
   exact⟨d,by rw[Ca (Dn b)];exact q⟩
 inj:=λj k a c f=>by
  by_cases b:j=i
  ·simp[b] at c
  ·by_cases l:k=i
   ·simp[l] at f
   ·exact S.inj j k a (by simpa[b] using c) (by simpa[l] using f)
 old:=λj a e=>by
  by_cases b:j=i
  ·simp[b] at e
  ·exact S.old j a (by simpa[b] using e)
 zin:=S.zin
 frm:=S.frm
 par:=⟨S.par.1,λj b=>by have g:j≠i:=λz=>n (z▸b);have h2:O j=B.mu j:=S.par.2 j b;simpa[g] using h2⟩
 pin:=S.pin
 kep:=λp m=>(S.kep p m).mono (OP (o:=none)) (OP (o:=none))
theorem PV{i:Nat}{p:Tf}:∀a,Nn B (λj=>if j=i then some p else O j) a->Nn (B.add p) O a:=λa h=>by
 rcases h with h|⟨j,h⟩
 ·exact .inl (.inl h)
 ·by_cases b:j=i
  ·simp[b] at h
   exact .inl (.inr h.symm)
  ·exact .inr ⟨j,by simpa[b] using h⟩
theorem Z4.setOw{p:Tf}(S:Z4 K ml (B.add p) O H σ δ){i:Nat}{d:cX}(o:i∉ml)(hl:i<δ.length)(m:¬B.Z p)(s:B.H0 p=none)(h:NR K (Nn (B.add p) O) H p d):
  Z4 K ml B (λj=>if j=i then some p else O j) H (σ.set i (some (.ref p))) (δ.set i (.ow d)) where
 len:=by rw[Bz,Bz,S.len]
 va:=λj e q=>by
  rcases TF q with⟨rfl,z,_⟩|⟨b,q⟩
  ·cases z
  ·obtain⟨u,c,r⟩:=S.va j e q
   exact⟨u,by rw[Ca (Dn b)];exact c,r.mono PV PV⟩
 ow:=λj e q=>by
  rcases TF q with⟨rfl,z,hl⟩|⟨b,q⟩
  ·cases z
   exact⟨p,by simp,by rw[Dh (by rw[S.len];exact hl)],h.mono PV⟩
  ·obtain⟨a,c,f,w⟩:=S.ow j e q
   exact⟨a,by simpa[b] using c,by rw[Ca (Dn b)];exact f,w.mono PV⟩
 dom:=λj a e=>by
  by_cases b:j=i
  ·subst b
   exact⟨d,by rw[Dh hl]⟩
  ·obtain ⟨d,q⟩ := S.dom j a (by simpa [b] using e)
   exact⟨d,by rw[Ca (Dn b)];exact q⟩
 inj:=λj k a c f=>by
  by_cases b:j=i
  ·by_cases g:k=i
   ·rw[b,g]
   ·simp[b] at c
    simp[g] at f;exact absurd (.inr c.symm) (S.old k a f).1
  ·by_cases g:k=i
   ·simp[g] at f
    simp[b] at c;exact absurd (.inr f.symm) (S.old j a c).1
   ·exact S.inj j k a (by simpa[b] using c) (by simpa[g] using f)
 old:=λj a e=>by
  by_cases b:j=i
  ·simp[b] at e
   subst e;exact⟨m,.inr s⟩
  ·have := S.old j a (by simpa [b] using e)
   exact⟨λz=>this.1 (.inl z),this.2⟩
 zin:=λa h=>S.zin a (.inl h)
 frm:=S.frm
 par:=⟨S.par.1,λj b=>by have l:j≠i:=λz=>o (z▸b);have h2:O j=B.mu j:=S.par.2 j b;simpa[l] using h2⟩
 pin:=S.pin
 kep:=λp n=>(S.kep p n).mono PV PV
theorem Z4.wrote(S:Z4 K ml B O H σ δ){i:Nat}{a:Tf}{d:cX}{o:HO}(e:O i=some a)(D:¬Hard o)(h:NR K (Nn B O) (aN H a o) a d):Z4 K ml B O (aN H a o) σ (δ.set i (.ow d)):=by
 have x:Fr (λb=>b=a) H (aN H a o):=λb u q n=>by
  by_cases hb:b=a
  ·subst hb
   obtain⟨d',s⟩:=S.dom i b e;obtain⟨m,c,_,w⟩:=S.ow i d' s;rw[e] at c;cases c;obtain⟨A,q1,t⟩:=w.soft;rw[q] at q1;cases q1;exact absurd (n rfl) t
  ·rw[bF hb]
   exact q
 have k:∀b,b=a->Nn B O b:=λb z=>.inr ⟨i,z▸e⟩;have g:∀b,(∃u,H b=some u)->∃u,aN H a o b=some u:=λb q0=>by
  obtain⟨u,q⟩:=q0;by_cases hb:b=a
  ·exact⟨o,by rw[hb];exact bZ⟩
  ·exact⟨u,by rw[bF hb];exact q⟩
 refine⟨by rw[Bz,S.len],λj d' q=>?_,λj d' q=>?_,λj b q=>?_,S.inj,S.old,λb h=>g b (S.zin b h),?_,S.par,λb h=>g b (S.pin b h),λp C=>(S.kep p C).fr x k k⟩
 ·rcases TF q with⟨_,z,_⟩|⟨f,q⟩
  ·cases z
  ·obtain⟨v,c,r⟩:=S.va j d' q
   exact⟨v,c,r.fr x k k⟩
 ·rcases TF q with⟨rfl,z,hl⟩|⟨f,q⟩
  ·cases z
   obtain⟨l,q0⟩:=S.dom j a e;obtain⟨m,c,y,_⟩:=S.ow j l q0;rw[e] at c;cases c;exact⟨a,e,y,h⟩
  ·obtain⟨m,c,y,w⟩:=S.ow j d' q
   exact⟨m,c,y,w.fr x k λz=>f (S.inj j i a (z▸c) e)⟩
 ·by_cases f:j=i
  ·subst f
   obtain⟨l,q0⟩:=S.dom j b q;exact⟨d,by rw[Dh (Ad.mp q0).1]⟩
  ·obtain⟨l,q0⟩:=S.dom j b q
   exact⟨l,by rw[Ca (Dn f)];exact q0⟩
 ·intro b u q n
  have h1:=S.frm b u q n;by_cases hb:b=a
  ·subst hb
   rcases(S.old i b e).2 with z|z
   ·obtain⟨d',s⟩:=S.dom i b e
    obtain⟨m,c,_,w⟩:=S.ow i d' s;rw[e] at c;cases c;obtain⟨A,q1,t⟩:=w.soft;rw[h1] at q1;cases q1;exact absurd (n z) t
   ·rw[q] at z
    cases z
  ·rw[bF hb]
   exact h1
theorem Z4.keepV(S:Z4 K ml B O H σ δ){ps:List (V×cX)}(h:∀p∈ps,aX K (Nn B O) H (Nn B O) p.1 p.2):Z4 K ml {B with kp:=ps++B.kp} O H σ δ:=
 ⟨S.len,S.va,S.ow,S.dom,S.inj,S.old,S.zin,S.frm,S.par,S.pin,λp a=>(Cp.mp a).elim (h p) (S.kep p)⟩
theorem Z4.unkeep{ps:List (V×cX)}(S:Z4 K ml {B with kp:=ps++B.kp} O H σ δ):Z4 K ml B O H σ δ:=
 ⟨S.len,S.va,S.ow,S.dom,S.inj,S.old,S.zin,S.frm,S.par,S.pin,λp a=>S.kep p (Av _ a)⟩
end
def rz(B:Bs):Tf->Prop:=λa=>B.Z a∨∃i,B.mu i=some a
def av(B:Bs)(O:Nat->Option Tf)(b:Bool):Tf->Prop:=if b then Nn B O else λa=>Nn B O a/\rz B a
def at_(B:Bs)(O:Nat->Option Tf)(b:Bool):Tf->Prop:=if b then Nn B O else λ_=>False
theorem Wc{B:Bs}{O:Nat->Option Tf}{b:Bool}:∀a,at_ B O b a->av B O b a:=λa h=>by
 cases b with
 |true=>exact h
 |false=>exact h.elim
theorem kY{B:Bs}{O:Nat->Option Tf}{b c:Bool}(h:b=true->c=true):∀a,at_ B O b a->at_ B O c a:=λa z=>by
 cases b with
 |true=>rw[h rfl];exact z
 |false=>exact z.elim
theorem Z4.rzn{K:As}{ml:List Nat}{B:Bs}{O:Nat->Option Tf}{H:Hp}{σ:St}{δ:Ev}(S:Z4 K ml B O H σ δ):∀a,rz B a->Nn B O a:=λa h=>by
 rcases h with h|⟨i,h⟩
 ·exact .inl h
 ·exact .inr ⟨i,(S.par.2 i (S.par.1 i a h)).trans h⟩
theorem Z4.rza{K:As}{ml:List Nat}{B:Bs}{O:Nat->Option Tf}{H:Hp}{σ:St}{δ:Ev}(S:Z4 K ml B O H σ δ){b:Bool}:∀a,rz B a->av B O b a:=λa h=>by
 cases b with
 |true=>exact S.rzn a h
 |false=>exact⟨S.rzn a h,h⟩
theorem QF{B:Bs}{O:Nat->Option Tf}{b c:Bool}(h:b=true->c=true):∀a,av B O b a->av B O c a:=λa z=>by
 cases b with
 |true=>rw[h rfl];exact z
 |false=>cases c with
  |true=>exact z.1
  |false=>exact z
structure Res(K:As)(ml:List Nat)(B:Bs)(O:Nat->Option Tf)(H:Hp)(σ:St)(pu bt bi:Bool)(H':Hp)(δ':Ev)(v:V)(d:cX):Prop where
 sta:Z4 K ml B O H' σ δ'
 frm:Fr (OA O) H H'
 pur:pu=true->aP H H'
 rep:aX K (av B O bi) H' (at_ B O bt) v d
abbrev VF:=Ev->Option (cX×Ev)
def TV(K:As)(ml:List Nat)(pu bt bi:Bool)(f:VF):TE:=λσ H Q=>∃B O δ d δ',Z4 K ml B O H σ δ/\f δ=some (d,δ')/\∀v H',Res K ml B O H σ pu bt bi H' δ' v d->Q v H'
theorem PE.imp{X:Cx}{e:Tj}{t u:TE}(h:PE X e t)(k:∀σ H Q,u σ H Q->t σ H Q):PE X e u:=λaa s σ H Q I w=>h aa s σ H Q I (k σ H Q w)
theorem PT.imp{X:Cx}{e:Tj}{t u:TT}(h:PT X e t)(k:∀σ H Q,u σ H Q->t σ H Q):PT X e u:=λaa s σ H Q I w=>h aa s σ H Q I (k σ H Q w)
theorem PW.imp{X:Cx}{e:Tj}{t u:TT}(h:PW X e t)(k:∀σ H Q,u σ H Q->t σ H Q):PW X e u:=λa aa s σ H Q I w=>h a aa s σ H Q I (k σ H Q w)
theorem PA.imp{X:Cx}{e:List Tj}{t u:TA}(h:PA X e t)(k:∀σ H Q,u σ H Q->t σ H Q):PA X e u:=λpos aa s σ H Q I w=>h pos aa s σ H Q I (k σ H Q w)
theorem PS.imp{X:Cx}{e:Tt}{t u:TS}(h:PS X e t)(k:∀D σ H,u D σ H->t D σ H):PS X e u:=λaa s σ H D I w=>h aa s σ H D I (k D σ H w)
theorem OK.imp{X:Cx}{e:List Tt}{t u:TS}(h:OK X e t)(k:∀D σ H,u D σ H->t D σ H):OK X e u:=λaa s σ H D I w=>h aa s σ H D I (k D σ H w)
section
variable{X:Cx}{K:As}{ml:List Nat}{e a b c:Tj}{pa ta ia pb tb ib pc tc ic:Bool}{fa fb fc:VF}{r:R2}{o:cX->cX->Option cX}{B:Bs}{O:Nat->Option Tf}{H H1 H':Hp}{σ:St}{δ δ':Ev}{v:V}{d:cX}
noncomputable def fC(d:cX):VF:=λδ=>some (d,δ)
theorem Res.refl{pu bt bi:Bool}(S:Z4 K ml B O H σ δ)(h:aX K (av B O bi) H (at_ B O bt) v d):Res K ml B O H σ pu bt bi H δ v d:=⟨S,Fr.refl _ _,λ_=>aP.refl _,h⟩
theorem CA(h:PE X e (tC v))(b:∀N H M,aX K N H M v d):PE X e (TV K ml true true true (fC d)):=h.imp λσ H Q a=>by obtain⟨B,O,δ,d',δ',S,q,k⟩:=a;cases q;exact k v H (Res.refl S (b _ _ _))
theorem cU{i j pos}:PE X (.Constant (.int i) j pos) (TV K ml true true true (fC (.int i))):=CA nF λ_ _ _=>.int i
theorem W1{i j pos}:PE X (.Constant (.bool i) j pos) (TV K ml true true true (fC (.bl i))):=CA kS λ_ _ _=>.bl i
theorem Y8{j pos}:PE X (.Constant .none j pos) (TV K ml true true true (fC .non)):=CA kB λ_ _ _=>.non
theorem cH{i j pos}:PE X (.Constant (.str i) j pos) (TV K ml true true true (fC (.str i))):=CA Zu λ_ _ _=>.str i
noncomputable def fV(i:Nat):VF:=λδ=>match δ[i]? with
 |some (.va d)=>some (d,δ)
 |_=>none
noncomputable def fO(i:Nat):VF:=λδ=>match δ[i]? with
 |some (.va d)=>some (d,δ)
 |some (.ow d)=>some (d,δ)
 |_=>none
theorem Zf{i:Nat}(h:PE X e (OI i)):PE X e (TV K ml true true true (fV i)):=h.imp λσ H Q a=>by
 obtain⟨B,O,δ,d',δ',S,q,k⟩:=a;unfold fV at q;split at q
 ·rename_i d b
  cases q;obtain⟨v,c,r⟩:=S.va i _ b;exact⟨v,c,k v H (Res.refl S r)⟩
 ·cases q
theorem dI{i:Nat}(h:PE X e (OI i)):PE X e (TV K ml true false true (fO i)):=h.imp λσ H Q b=>by
 obtain⟨B,O,δ,d',δ',S,q,k⟩:=b;unfold fO at q;split at q
 ·rename_i d c
  cases q;obtain⟨v,f,r⟩:=S.va i _ c;exact⟨v,f,k v H (Res.refl S (r.mono (λ_ z=>z) λa z=>z.elim))⟩
 ·rename_i d c
  cases q;obtain⟨a,f,g,w⟩:=S.ow i _ c;exact⟨.ref a,g,k _ H (Res.refl S (w.rep λz=>z))⟩
 ·cases q
theorem Res.live{H2:Hp}{b:V}{c:cX}(R2:Res K ml B O H1 σ pb tb ib H2 δ' b c)(hs:(pb || (ta&&ia))=true)(h:aX K (av B O ia) H1 (at_ B O ta) v d):aX K (av B O ia) H2 (at_ B O ta) v d:=by
 cases pb with
 |true=>exact h.same (R2.pur rfl)
 |false=>
  have hs:(ta&&ia)=true:=by simpa using hs
  obtain⟨h1,h2⟩:=(Ag _ _).mp hs;subst h1 h2;exact h.fr R2.frm (λa z=>.inr z) λa z=>.inr z
noncomputable def f2(o:cX->cX->Option cX)(fa fb:VF):VF:=λδ=>(fa δ).bind λp=>(fb p.2).bind λq=>(o p.1 q.1).map λc=>(c,q.2)
theorem PH{δ2:Ev}(h:f2 o fa fb δ=some (d,δ2)):∃x δ1 y,fa δ=some (x,δ1)/\fb δ1=some (y,δ2)/\o x y=some d:=by
 unfold f2 at h;cases h1:fa δ with
 |none=>rw[h1] at h;cases h
 |some p=>
  rw[h1] at h;cases h2:fb p.2 with
  |none=>simp[h2] at h
  |some q=>
   simp only[Aw,h2] at h;obtain⟨c,a,h⟩:=Ar.mp h;cases h;exact⟨p.1,p.2,q.1,rfl,h2,a⟩
def OJ(K:As)(r:R2)(o:cX->cX->Option cX):Prop:=∀(H:Hp) (N N' M M':Tf->Prop) (x y:V) (d e c:cX) (Q:VK),aX K N H M x d->aX K N' H M' y e->o d e=some c->(∀v,(∀H' N M,aX K N H' M v c)->Q v H)->r x y H Q
def OpC(K:As)(r:R2)(o:cX->cX->Option cX):Prop:=∀(H:Hp) (N M M':Tf->Prop) (x y:V) (d e c:cX) (Q:VK),aX K N H M x d->aX K N H M' y e->o d e=some c->
 (∀v H',aP H H'->(∀M,(∀a,M a->∃o,H a=some o)->aX K N H' M v c)->Q v H')->r x y H Q
def OpI(K:As)(r:R2)(o:cX->cX->Option cX):Prop:=∀(H:Hp) (N N' M M':Tf->Prop) (x y:V) (d e c:cX) (Q:VK),aX K N H M x d->aX K N' H M' y e->o d e=some c->(∀v,aX K N H N v c->Q v H)->r x y H Q
theorem FY(i:OJ K r o)(hs:(pb || (ta&&ia))=true){Q:VK}(h:TV K ml (pa&&pb) true true (f2 o fa fb) σ H Q):tOp r (TV K ml pa ta ia fa) (TV K ml pb tb ib fb) σ H Q:=by
 obtain⟨B,O,δ,d,δ2,S,q,k⟩:=h;obtain⟨x,δ1,y,h1,h2,j⟩:=PH q;refine⟨B,O,δ,x,δ1,S,h1,λf H1 a=>⟨B,O,δ1,y,δ2,a.sta,h2,λe H2 R2=>?_⟩⟩;exact i H2 _ _ _ _ f e x y d Q (R2.live hs a.rep) R2.rep j λv g=>k v H2 ⟨R2.sta,a.frm.trans R2.frm,λz=>by obtain⟨c,b⟩:=(Ag _ _).mp z;exact(a.pur c).trans (R2.pur b),g _ _ _⟩
theorem Zc(l:OpC K r o)(hs:(pb || (ta&&ia))=true){Q:VK}(h:TV K ml (pa&&pb) true (ia&&ib) (f2 o fa fb) σ H Q):tOp r (TV K ml pa ta ia fa) (TV K ml pb tb ib fb) σ H Q:=by obtain⟨B,O,δ,d,δ2,S,q,k⟩:=h;obtain⟨x,δ1,y,h1,h2,m⟩:=PH q;refine⟨B,O,δ,x,δ1,S,h1,λi H1 b=>⟨B,O,δ1,y,δ2,b.sta,h2,λg H2 R2=>?_⟩⟩;have p:∀a,av B O (ia&&ib) a->av B O ia a:=QF λz=>((Ag _ _).mp z).1;have n:∀a,av B O (ia&&ib) a->av B O ib a:=QF λz=>((Ag _ _).mp z).2;refine l H2 (av B O (ia&&ib)) _ _ i g x y d Q ((R2.live hs b.rep).mono p λ_ z=>z) (R2.rep.mono n λ_ z=>z) m λv s c j=>k v s ⟨R2.sta.same c,(b.frm.trans R2.frm).trans c.fr,λz=>?_,j _ λa z=>R2.sta.nin z⟩;obtain⟨f,e⟩:=(Ag _ _).mp z;exact((b.pur f).trans (R2.pur e)).trans c
theorem nR(i:OpI K r o)(hs:(pb || (ta&&ia))=true){Q:VK}(h:TV K ml (pa&&pb) ia ia (f2 o fa fb) σ H Q):tOp r (TV K ml pa ta ia fa) (TV K ml pb tb ib fb) σ H Q:=by
 obtain⟨B,O,δ,d,δ2,S,q,k⟩:=h;obtain⟨x,δ1,y,h1,h2,j⟩:=PH q;refine⟨B,O,δ,x,δ1,S,h1,λf H1 a=>⟨B,O,δ1,y,δ2,a.sta,h2,λe H2 R2=>?_⟩⟩;exact i H2 _ _ _ _ f e x y d Q (R2.live hs a.rep) R2.rep j λv g=>k v H2 ⟨R2.sta,a.frm.trans R2.frm,λz=>by obtain⟨c,b⟩:=(Ag _ _).mp z;exact(a.pur c).trans (R2.pur b),g.mono (λ_ z=>z) Wc⟩
theorem YN{op:Operator}{pos:Pos}(d:WD X (Gj op) r)(c:OJ K r o)(e:PE X a (TV K ml pa ta ia fa))(hb:PE X b (TV K ml pb tb ib fb))(hs:(pb || (ta&&ia))=true:=by rfl):PE X (.BinOp a op b pos) (TV K ml (pa&&pb) true true (f2 o fa fb)):=
 (Wo d e hb).imp λ_ _ _ h=>FY c hs h
theorem ZZ{op:Operator}{pos:Pos}(d:WD X (Gj op) r)(c:OpC K r o)(e:PE X a (TV K ml pa ta ia fa))(hb:PE X b (TV K ml pb tb ib fb))(hs:(pb || (ta&&ia))=true:=by rfl):PE X (.BinOp a op b pos) (TV K ml (pa&&pb) true (ia&&ib) (f2 o fa fb)):=
 (Wo d e hb).imp λ_ _ _ h=>Zc c hs h
theorem YL{op:CmpOp}{pos:Pos}(d:WD X (Dk op) r)(c:OJ K r o)(f:PE X a (TV K ml pa ta ia fa))(hb:PE X b (TV K ml pb tb ib fb))(e:Hs op b=false)(hs:(pb || (ta&&ia))=true:=by rfl):PE X (.Compare a [op] [b] pos) (TV K ml (pa&&pb) true true (f2 o fa fb)):=
 (oX d f hb e).imp λ_ _ _ h=>FY c hs h
theorem jP{pos:Pos}(e:AA X r)(d:OpI K r o)(f:PE X a (TV K ml pa ta ia fa))(hb:PE X b (TV K ml pb tb ib fb))(c:IF b)(hs:(pb || (ta&&ia))=true:=by rfl):PE X (.Subscript a b pos) (TV K ml (pa&&pb) ia ia (f2 o fa fb)):=
 (gQ e f hb c).imp λ_ _ _ h=>nR d hs h
noncomputable def oI(C:Int->Int->Bool)(g:Int->Int->cX):cX->cX->Option cX
 |.int i,.int j=>if C i j=true then some (g i j) else none
 |_,_=>none
theorem Vr{C:Int->Int->Bool}{g:Int->Int->cX}{d e c:cX}(h:oI C g d e=some c):∃i j,d=.int i/\e=.int j/\C i j=true/\c=g i j:=by
 unfold oI at h;split at h
 ·split at h
  ·rename_i hc
   cases h;exact⟨_,_,rfl,rfl,hc,rfl⟩
  ·cases h
 ·cases h
theorem C7{C:Int->Int->Prop}{a:Int->Int->Bool}{g:Int->Int->V}{g':Int->Int->cX}(m:∀i j,a i j=true->C i j)(l:∀i j N H M,aX K N H M (g i j) (g' i j)):OJ K (rI C g) (oI a g'):=by intro H N N' M M' x y d e c Q f b h k;obtain⟨i,j,rfl,rfl,hc,rfl⟩:=Vr h;cases f;cases b;exact⟨_,_,rfl,rfl,m _ _ hc,k _ λ_ _ _=>l ..⟩
theorem M7{g:Int->Int->V}{g':Int->Int->cX}(f:∀i j N H M,aX K N H M (g i j) (g' i j)):OJ K (FE g) (oI (λ_ _=>true) g'):=by intro H N N' M M' x y d e c Q b a h k;obtain⟨i,j,rfl,rfl,hc,rfl⟩:=Vr h;cases b;cases a;exact⟨_,_,rfl,rfl,k _ λ_ _ _=>f ..⟩
noncomputable def AQ(i j:Int):Bool:=(decide (-18446744073709551616<i)&&decide (i<18446744073709551616)) || (decide (-18446744073709551616<j)&&decide (j<18446744073709551616))
noncomputable def cDiv(i j:Int):Bool:=decide (0<j)&&decide (j<1073741824)
noncomputable def cPow(i j:Int):Bool:=decide (0<=j)&&decide (j<=1000000)&&decide (i.natAbs<18446744073709551616)
noncomputable abbrev L9:=oI (λ_ _=>true) λi j=>.int (i - j)
noncomputable abbrev oMul:=oI AQ λi j=>.int (i*j)
noncomputable abbrev G4:=oI cDiv λi j=>.int (i/j)
noncomputable abbrev OE:=oI (λ_ j=>decide (0<j)) λi j=>.int (i % j)
noncomputable abbrev oPow:=oI cPow λi j=>.int (i ^ j.toNat)
noncomputable abbrev oLt:=oI (λ_ _=>true) λi j=>.bl (decide (i<j))
noncomputable abbrev oLe:=oI (λ_ _=>true) λi j=>.bl (decide (i<=j))
noncomputable abbrev oGt:=oI (λ_ _=>true) λi j=>.bl (decide (j<i))
noncomputable abbrev oGe:=oI (λ_ _=>true) λi j=>.bl (decide (j<=i))
theorem NG:OJ K (FE λi j=>.int (i - j)) L9:=M7 λi j _ _ _=>.int _
theorem nX:OJ K (rI CMul λi j=>.int (i*j)) oMul:=C7 (λi j h=>by
 have p:(2:Int) ^ 64=18446744073709551616:=by decide
 unfold CMul;rw[p];simpa[AQ] using h) λi j _ _ _=>.int _
theorem FJ:OJ K (rI CDiv λi j=>.int (i/j)) G4:=C7 (λi j h=>by show 0<j/\j<1073741824;simpa[cDiv] using h) λi j _ _ _=>.int _
theorem UF:OJ K (rI (λ_ j=>0<j) λi j=>.int (i % j)) OE:=C7 (λi j h=>by simpa using h) λi j _ _ _=>.int _
theorem kH:OJ K (rI CPow λi j=>.int (i ^ j.toNat)) oPow:=C7 (λi j h=>by
 have p:(2:Nat) ^ 64=18446744073709551616:=by decide
 unfold CPow;rw[p];simpa[cPow,and_assoc] using h) λi j _ _ _=>.int _
theorem s_lt:OJ K (FE λi j=>.bl (decide (i<j))) oLt:=M7 λi j _ _ _=>.bl _
theorem s_le:OJ K (FE λi j=>.bl (decide (i<=j))) oLe:=M7 λi j _ _ _=>.bl _
theorem s_gt:OJ K (FE λi j=>.bl (decide (j<i))) oGt:=M7 λi j _ _ _=>.bl _
theorem s_ge:OJ K (FE λi j=>.bl (decide (j<=i))) oGe:=M7 λi j _ _ _=>.bl _
noncomputable def LD(d:cX):Bool:=d.isD&&Ey d.pd
noncomputable def L8(d e:cX):Bool:=Jh d.pd e.pd
noncomputable def WR(d e:cX):Option cX:=if(LD d&&LD e)=true then some (.bl (L8 d e)) else none
noncomputable def OF(d e:cX):Option cX:=if(LD d&&LD e)=true then some (.bl (!L8 d e)) else none
theorem s_eq:OJ K (rEqD K) WR:=by
 intro H N N' M M' x y d e c Q f b h k;unfold WR at h;split at h
 ·rename_i a
  cases h;simp only[LD,Ag] at a;exact⟨d.pd,e.pd,f.dp a.1.1,b.dp a.2.1,a.1.2,a.2.2,k _ λ_ _ _=>.bl _⟩
 ·cases h
theorem PZ:OJ K (rNeD K) OF:=by
 intro H N N' M M' x y d e c Q f b h k;unfold OF at h;split at h
 ·rename_i a
  cases h;simp only[LD,Ag] at a;exact⟨d.pd,e.pd,f.dp a.1.1,b.dp a.2.1,a.1.2,a.2.2,k _ λ_ _ _=>.bl _⟩
 ·cases h
noncomputable def isN:cX->Bool
 |.non=>true
 |_=>false
noncomputable def G5:cX->cX->Option cX
 |d,.non=>some (.bl (isN d))
 |_,_=>none
noncomputable def UA:cX->cX->Option cX
 |d,.non=>some (.bl (!isN d))
 |_,_=>none
theorem DT{N M:Tf->Prop}(h:aX K N H M v d):decide (v=V.non)=isN d:=by
 cases h<;>simp[isN]
theorem Uy:OJ K (λx y H Q=>y=.non/\Q (.bl (decide (x=.non))) H) G5:=by
  intro H N N' M M' x y d e c Q b a h k;cases a<;>first
    | (cases h
       refine⟨rfl,?_⟩;rw[DT b];exact k _ λ_ _ _=>.bl _)
    |(simp[G5] at h)
theorem JV:OJ K (λx y H Q=>y=.non/\Q (.bl (!decide (x=.non))) H) UA:=by
  intro H N N' M M' x y d e c Q b a h k;cases a<;>first
    | (cases h
       refine⟨rfl,?_⟩;rw[DT b];exact k _ λ_ _ _=>.bl _)
    |(simp[UA] at h)
noncomputable def W8:cX->Option (List cX)
 |.tup ds=>some ds
 |.lst ds=>some ds
 |_=>none
theorem aX.seq{N M:Tf->Prop}{ds:List cX}(h:aX K N H M v d)(e:W8 d=some ds):∃a xs,v=.ref a/\(WT K H a xs∨V0 K H a xs)/\b7 K N H xs ds:=by
 cases h<;>first
  |(cases e;rename_i q r;exact⟨_,_,rfl,.inr q,r⟩)
  |(cases e;rename_i q n r;exact⟨_,_,rfl,.inl (WT.of q),r⟩)
  |(cases e;rename_i q r;exact⟨_,_,rfl,.inl q.sq,r⟩)
  |cases e
theorem mM{N:Tf->Prop}{xs:List V}{ds:List cX}{i:Int}(r:b7 K N H xs ds)(h:WU ds i=some d):∃v,WU xs i=some v/\aX K N H N v d:=by
 unfold WU at h⊢;rw[r.length];cases hi:K4 ds.length i with
 |none=>rw[hi] at h;cases h
 |some j=>
  rw[hi] at h;exact r.get h
end
section
variable{X:Cx}{K:As}{ml:List Nat}{e a b c:Tj}{es:List Tj}{pa ta ia pb tb ib pc tc ic pu bt bi ps bs:Bool}{fa fb fc:VF}{r r':R2}{o o':cX->cX->Option cX}{B:Bs}{O:Nat->Option Tf}{H H1 H':Hp}{σ:St}{δ δ':Ev}{v:V}{d:cX}{p:Tf}{pos:Pos}
theorem Z4.unadd(S:Z4 K ml (B.add p) O H σ δ):Z4 K ml B O H σ δ where
 len:=S.len
 va:=λi d e=>let ⟨v,a,b⟩:=S.va i d e;⟨v,a,b.mono RQ RQ⟩
 ow:=λi d e=>let ⟨a,b,c,w⟩:=S.ow i d e;⟨a,b,c,w.mono RQ⟩
 dom:=S.dom
 inj:=S.inj
 old:=λi a h=>⟨λz=>(S.old i a h).1 (.inl z),(S.old i a h).2⟩
 zin:=λa h=>S.zin a (.inl h)
 frm:=S.frm
 par:=S.par
 pin:=S.pin
 kep:=λp h=>(S.kep p h).mono RQ RQ
structure ResN(K:As)(ml:List Nat)(B:Bs)(O:Nat->Option Tf)(H:Hp)(σ:St)(pu:Bool)(H':Hp)(δ':Ev)(p:Tf)(d:cX):Prop where
 sta:Z4 K ml (B.add p) O H' σ δ'
 frm:Fr (OA O) H H'
 pur:pu=true->aP H H'
 own:NR K (Nn (B.add p) O) H' p d
 nz:¬Nn B O p
 h0:B.H0 p=none
def TN(K:As)(ml:List Nat)(pu:Bool)(f:VF):TE:=λσ H Q=>∃B O δ d δ',Z4 K ml B O H σ δ/\f δ=some (d,δ')/\∀p H',ResN K ml B O H σ pu H' δ' p d->Q (.ref p) H'
theorem a8{f:VF}(h:PE X e (TN K ml pu f)):PE X e (TV K ml pu true true f):=h.imp λσ H Q ⟨B,O,δ,d,δ',S,q,k⟩=>
 ⟨B,O,δ,d,δ',S,q,λp H' R=>k _ H' ⟨R.sta.unadd,R.frm,R.pur,(R.own.mono RQ).rep R.nz⟩⟩
theorem mkN{xs:List V}{ds:List cX}(S:Z4 K ml B O H1 σ δ')(f:Fr (OA O) H H1)(s:pu=true->aP H H1)(a:H1 p=none)(r:b7 K (Nn B O) H1 xs ds):ResN K ml B O H σ pu (aN H1 p (.lst xs)) δ' p (.lst ds):=
 ⟨S.laid a,f.trans (cN a).fr,λz=>(s z).trans (cN a),.lst bZ ((r.away a _ _ V9).same (cN a)),S.new a,S.fresh a⟩
theorem mkD(S:Z4 K ml B O H1 σ δ')(f:Fr (OA O) H H1)(s:pu=true->aP H H1)(a:H1 p=none):ResN K ml B O H σ pu (aN H1 p (.dK [])) δ' p (.dct [] []):=
 ⟨S.laid a,f.trans (cN a).fr,λz=>(s z).trans (cN a),.dct (kvs:=[]) bZ .nil,S.new a,S.fresh a⟩
theorem Yd:PE X (.Dict [] [] pos) (TN K ml true (fC (.dct [] []))):=zBR.imp λσ H Q a=>by obtain⟨B,O,δ,d,δ',S,q,k⟩:=a;cases q;exact λp b=>k p _ (mkD S (Fr.refl _ _) (λ_=>aP.refl _) b)
abbrev MI:=Ev->Option (List cX×Ev)
structure ResA(K:As)(ml:List Nat)(B:Bs)(O:Nat->Option Tf)(H:Hp)(σ:St)(pu b:Bool)(H':Hp)(δ':Ev)(vs:List V)(ds:List cX):Prop where
 sta:Z4 K ml B O H' σ δ'
 frm:Fr (OA O) H H'
 pur:pu=true->aP H H'
 rep:b7 K (av B O b) H' vs ds
def TAV(K:As)(ml:List Nat)(pu b:Bool)(f:MI):TA:=λσ H Q=>∃B O δ d δ',Z4 K ml B O H σ δ/\f δ=some (d,δ')/\∀vs H',ResA K ml B O H σ pu b H' δ' vs d->Q vs H'
noncomputable def bV:MI:=λδ=>some ([],δ)
noncomputable def cT(fa:VF)(fs:MI):MI:=λδ=>(fa δ).bind λp=>(fs p.2).map λq=>(p.1::q.1,q.2)
theorem KZ{fs:MI}{ds:List cX}(h:cT fa fs δ=some (ds,δ')):∃x δ1 xs,fa δ=some (x,δ1)/\fs δ1=some (xs,δ')/\ds=x::xs:=by
 unfold cT at h;cases h1:fa δ with
 |none=>rw[h1] at h;cases h
 |some p=>
  rw[h1] at h;cases h2:fs p.2 with
  |none=>simp[h2] at h
  |some q=>
   simp only[Aw,h2] at h;cases h;exact⟨p.1,p.2,q.1,rfl,h2,rfl⟩
theorem cK:PA X [] (TAV K ml true true bV):=Y7.imp λσ H Q a=>by obtain⟨B,O,δ,d,δ',S,q,k⟩:=a;cases q;exact k [] H ⟨S,Fr.refl _ _,λ_=>aP.refl _,.nil⟩
theorem cW{fs:MI}(n:PE X a (TV K ml pa ta ia fa))(m:PA X es (TAV K ml ps bs fs))(hs:Aj (a::es) X.env=(false,eval a X.env)::Aj es X.env:=by rfl)(hl:(ps || (ta&&ia))=true:=by rfl)(l:ta=true:=by rfl):
  PA X (a::es) (TAV K ml (pa&&ps) (ta&&ia&&bs) (cT fa fs)):=(bC n m hs).imp λσ H Q e=>by
 obtain⟨B,O,δ,d,δ2,S,q,k⟩:=e;obtain⟨x,δ1,xs,h1,h2,rfl⟩:=KZ q;refine⟨B,O,δ,x,δ1,S,h1,λj H1 b=>⟨B,O,δ1,xs,δ2,b.sta,h2,λvs H2 R2=>k _ H2 ⟨R2.sta,b.frm.trans R2.frm,λz=>?_,?_⟩⟩⟩
 ·obtain⟨i,f⟩:=(Ag _ _).mp z
  exact(b.pur i).trans (R2.pur f)
 ·have g : ∀ c,((ta && ia && bs) = true -> c = true) -> ∀ a,av B O (ta && ia && bs) a -> av B O c a := λc h => QF h
  have r:=g ta λz=>by simp only[Ag] at z;exact z.1.1
  have p:=g ia λz=>by simp only[Ag] at z;exact z.1.2
  have o:=g bs λz=>by simp only[Ag] at z;exact z.2
  refine .cons ?_ (R2.rep.mono o);have h:aX K (av B O ia) H2 (at_ B O ta) j x:=by
   cases ps with
   |true=>exact b.rep.same (R2.pur rfl)
   |false=>
    have hs:(ta&&ia)=true:=by simpa using hl
    obtain⟨h1,h2⟩:=(Ag _ _).mp hs;subst h1 h2;exact b.rep.fr R2.frm (λa z=>.inr z) λa z=>.inr z
  subst l;exact h.mono p r
theorem Z4.lone(S:Z4 K ml B O H σ δ){i:Nat}{x:cX}(f:i∉ml)(h:fO i δ=some (x,δ')):δ'=δ/\∃v,σ[i]?=some (some v)/\aX K (av B O false) H (av B O false) v x:=by
 unfold fO at h;split at h
 ·rename_i d c
  cases h;obtain⟨v,b,r⟩:=S.va i _ c;exact⟨rfl,v,b,r.mono (λa z=>z.1) λa z=>z.1⟩
 ·rename_i d c
  cases h;obtain⟨a,b,g,w⟩:=S.ow i _ c;refine⟨rfl,.ref a,g,(w.mono λa z=>z.1).rep λz=>?_⟩;rcases z.2 with z|⟨j,z⟩
  ·exact(S.old i a b).1 z
  ·have e:=S.par.1 j a z
   have:i=j:=S.inj i j a b ((S.par.2 j e).trans z);exact f (this▸e)
 ·cases h
theorem NM{i:Nat}{fs:MI}(g:PE X a (OI i))(e:PA X es (TAV K ml ps bs fs))(hs:Aj (a::es) X.env=(false,eval a X.env)::Aj es X.env:=by rfl)(hl:ps=true:=by rfl)(f:i∉ml:=by decide):
  PA X (a::es) (TAV K ml ps false (cT (fO i) fs)):=(bC g e hs).imp λσ H Q c=>by
 obtain⟨B,O,δ,d,δ2,S,q,k⟩:=c;obtain⟨x,δ1,xs,h1,h2,rfl⟩:=KZ q;obtain⟨rfl,v,h,r⟩:=S.lone f h1;exact⟨v,h,B,O,δ1,xs,δ2,S,h2,λvs H2 R2=>k _ H2 ⟨R2.sta,R2.frm,R2.pur,.cons (r.same (R2.pur hl)) (R2.rep.mono (QF (b:=false) λz=>nomatch z))⟩⟩
noncomputable def Z9(fs:MI):VF:=λδ=>(fs δ).bind λp=>if p.1.length<=16777216 then some (.tup p.1,p.2) else none
noncomputable def X8(fs:MI):VF:=λδ=>(fs δ).bind λp=>if p.1.length<=16777216 then some (.lst p.1,p.2) else none
theorem GI{fs:MI}{g:List cX->cX}(h:((fs δ).bind λp=>if p.1.length<=16777216 then some (g p.1,p.2) else none)=some (d,δ')):∃ds,fs δ=some (ds,δ')/\ds.length<=16777216/\d=g ds:=by
 cases h1:fs δ with
 |none=>rw[h1] at h;cases h
 |some p=>
  rw[h1] at h;have h:(if p.1.length<=16777216 then some (g p.1,p.2) else none)=some (d,δ'):=h;split at h
  ·cases h
   exact⟨p.1,rfl,by assumption,rfl⟩
  ·cases h
theorem bT{x1}{fs:MI}(h:PA X es (TAV K ml pu bs fs)):PE X (.Tuple es x1 pos) (TV K ml pu true bs (Z9 fs)):=(Wz h).imp λσ H Q b=>by obtain⟨B,O,δ,d,δ',S,q,k⟩:=b;obtain⟨ds,h1,hl,rfl⟩:=GI (g:=cX.tup) q;refine⟨B,O,δ,ds,δ',S,h1,λvs H1 R=>⟨by rw[R.rep.length,Di];exact hl,λp a=>k _ _ ⟨R.sta.same (cN a),R.frm.trans (cN a).fr,λz=>(R.pur z).trans (cN a),.tup (V0.of bZ) (R.rep.same (cN a))⟩⟩⟩
theorem Z0{fs:MI}(h:PA X es (TAV K ml pu true fs)):PE X (.List es pos) (TN K ml pu (X8 fs)):=(fI h).imp λσ H Q a=>by obtain⟨B,O,δ,d,δ',S,q,k⟩:=a;obtain⟨ds,h1,hl,rfl⟩:=GI (g:=cX.lst) q;exact⟨B,O,δ,ds,δ',S,h1,λvs H1 R=>⟨by rw[R.rep.length,Di];exact hl,λp b=>k p _ (mkN R.sta R.frm R.pur b R.rep)⟩⟩
abbrev VB:=Ev->Option (Bool×Ev)
structure AL(K:As)(ml:List Nat)(B:Bs)(O:Nat->Option Tf)(H:Hp)(σ:St)(pu:Bool)(H':Hp)(δ':Ev):Prop where
 sta:Z4 K ml B O H' σ δ'
 frm:Fr (OA O) H H'
 pur:pu=true->aP H H'
def TB(K:As)(ml:List Nat)(pu:Bool)(f:VB):TT:=λσ H Q=>∃B O δ k δ',Z4 K ml B O H σ δ/\f δ=some (k,δ')/\∀H',AL K ml B O H σ pu H' δ'->Q k H'
noncomputable def fB(f:VF):VB:=λδ=>(f δ).bind λp=>match p.1 with
 |.bl k=>some (k,p.2)
 |_=>none
theorem iX{f:VF}{k:Bool}(h:fB f δ=some (k,δ')):f δ=some (.bl k,δ'):=by
 unfold fB at h;cases h1:f δ with
 |none=>rw[h1] at h;cases h
 |some p=>
  obtain⟨x,δ1⟩:=p;rw[h1] at h;cases x<;>first
   |(cases h;rfl)
   |cases h
theorem J3{f:VF}{t:TE}(a:∀σ H Q,TV K ml pu bt bi f σ H Q->t σ H Q){Q:Bool->Hp->Prop}(h:TB K ml pu (fB f) σ H Q):t σ H λx H'=>∃k,x=.bl k/\Q k H':=by obtain⟨B,O,δ,k,δ',S,q,w⟩:=h;refine a σ H _ ⟨B,O,δ,.bl k,δ',S,iX q,λv H' R=>⟨k,?_,w H' ⟨R.sta,R.frm,R.pur⟩⟩⟩;cases R.rep;rfl
theorem bL{op:CmpOp}(d:WD X (Dk op) r)(c:OJ K r o)(f:PE X a (TV K ml pa ta ia fa))(hb:PE X b (TV K ml pb tb ib fb))(e:Hs op b=false)(hs:(pb || (ta&&ia))=true:=by rfl):PT X (.Compare a [op] [b] pos) (TB K ml (pa&&pb) (fB (f2 o fa fb))):=
 (eE d f hb e).imp λ_ _ _ h=>J3 (λ_ _ _=>FY c hs) h
theorem Y5{f:VF}(h:PE X e (TV K ml pu bt bi f))(b:∀a,isTrue e X.env a=(do let v<-a;Mb e.pos;Mc [v] (truthy v)):=by intro _;rfl):PT X e (TB K ml pu (fB f)):=
 (Ys h b).imp λ_ _ _ h=>J3 (λ_ _ _ z=>z) h
noncomputable def N8(x y:VB):VB:=λδ=>(x δ).bind λp=>if p.1=true then y p.2 else some (false,p.2)
noncomputable def EI(x y:VB):VB:=λδ=>(x δ).bind λp=>if p.1=true then some (true,p.2) else y p.2
noncomputable def Q9(x:VB):VB:=λδ=>(x δ).map λp=>(!p.1,p.2)
theorem AL.refl(S:Z4 K ml B O H σ δ):AL K ml B O H σ pu H δ:=⟨S,Fr.refl _ _,λ_=>aP.refl _⟩
theorem nV{x y:VB}{Q:Bool->Hp->Prop}(h:TB K ml (pa&&pb) (N8 x y) σ H Q):tAnd (TB K ml pa x) (TB K ml pb y) σ H Q:=by
 obtain⟨B,O,δ,k,δ',S,q,w⟩:=h;unfold N8 at q;obtain⟨⟨b,δ1⟩,h1,q⟩:=Aa.mp q;refine⟨B,O,δ,b,δ1,S,h1,λH1 a=>?_⟩;cases b with
 |true=>
  have q:y δ1=some (k,δ'):=q;exact OD ⟨B,O,δ1,k,δ',a.sta,q,λH2 R2=>w H2 ⟨R2.sta,a.frm.trans R2.frm,λz=>by obtain⟨d,c⟩:=(Ag _ _).mp z;exact(a.pur d).trans (R2.pur c)⟩⟩
 |false=>
  have q:some (false,δ1)=some (k,δ'):=q;cases q;exact OC (w H1 ⟨a.sta,a.frm,λz=>a.pur ((Ag _ _).mp z).1⟩)
theorem lN{x y:VB}{Q:Bool->Hp->Prop}(h:TB K ml (pa&&pb) (EI x y) σ H Q):tOr (TB K ml pa x) (TB K ml pb y) σ H Q:=by
 obtain⟨B,O,δ,k,δ',S,q,w⟩:=h;unfold EI at q;obtain⟨⟨b,δ1⟩,h1,q⟩:=Aa.mp q;refine⟨B,O,δ,b,δ1,S,h1,λH1 a=>?_⟩;cases b with
 |false=>
  have q:y δ1=some (k,δ'):=q;exact OC ⟨B,O,δ1,k,δ',a.sta,q,λH2 R2=>w H2 ⟨R2.sta,a.frm.trans R2.frm,λz=>by obtain⟨d,c⟩:=(Ag _ _).mp z;exact(a.pur d).trans (R2.pur c)⟩⟩
 |true=>
  have q:some (true,δ1)=some (k,δ'):=q;cases q;exact OD (w H1 ⟨a.sta,a.frm,λz=>a.pur ((Ag _ _).mp z).1⟩)
theorem XA{x:VB}(h:PT X a (TB K ml pu x)):PT X (.UnaryOp .Not a pos) (TB K ml pu (Q9 x)):=(dR h).imp λσ H Q b=>by obtain⟨B,O,δ,k,δ',S,q,w⟩:=b;unfold Q9 at q;obtain⟨p,h1,q⟩:=Ar.mp q;cases q;exact⟨B,O,δ,p.1,p.2,S,h1,w⟩
theorem N6{x:VB}(h:PT X a (TB K ml pu x)):PW X (.BoolOp .And [a] pos) (TB K ml pu x):=iO h
theorem WO{x:VB}(h:PT X a (TB K ml pu x)):PW X (.BoolOp .Or [a] pos) (TB K ml pu x):=lI h
theorem J6{x y:VB}(c:PT X a (TB K ml pa x))(hb:PW X (.BoolOp .And (b::es) pos) (TB K ml pb y)):PW X (.BoolOp .And (a::b::es) pos) (TB K ml (pa&&pb) (N8 x y)):=(jK c hb).imp λ_ _ _ h=>nV h
theorem UJ{x y:VB}(c:PT X a (TB K ml pa x))(hb:PW X (.BoolOp .Or (b::es) pos) (TB K ml pb y)):PW X (.BoolOp .Or (a::b::es) pos) (TB K ml (pa&&pb) (EI x y)):=(eA c hb).imp λ_ _ _ h=>lN h
theorem RX{x:VB}(h:PW X e (TB K ml pu x)):PT X e (TB K ml pu x):=h.pt
noncomputable def SA(x y:VF):VF:=λδ=>(x δ).bind λp=>match p.1 with
 |.bl true=>y p.2
 |.bl false=>some (.bl false,p.2)
 |_=>none
noncomputable def fOr(x y:VF):VF:=λδ=>(x δ).bind λp=>match p.1 with
 |.bl false=>y p.2
 |.bl true=>some (.bl true,p.2)
 |_=>none
noncomputable def fNot(x:VF):VF:=λδ=>(x δ).bind λp=>match p.1 with
 |.bl k=>some (.bl (!k),p.2)
 |_=>none
theorem XV{op}{f:VF}(h:PE X a (TV K ml pu bt bi f)):PE X (.BoolOp op [a] pos) (TV K ml pu bt bi f):=iD h
theorem XU(l:PE X a (TV K ml pa ta ia fa))(hb:PE X (.BoolOp .And (b::es) pos) (TV K ml pb tb ib fb)):PE X (.BoolOp .And (a::b::es) pos) (TV K ml (pa&&pb) tb ib (SA fa fb)):=(Yt l hb).imp λσ H Q f=>by
 obtain⟨B,O,δ,d,δ',S,q,k⟩:=f;unfold SA at q;obtain⟨⟨x,δ1⟩,h1,q⟩:=Aa.mp q;refine⟨B,O,δ,x,δ1,S,h1,λj H1 c=>?_⟩;cases x with
 |bl e=>
  have m:j=.bl e:=by cases c.rep;rfl
  refine⟨e,m,?_⟩;cases e with
  |true=>
   exact OD ⟨B,O,δ1,d,δ',c.sta,q,λi H2 R2=>k i H2 ⟨R2.sta,c.frm.trans R2.frm,λz=>by obtain⟨h,g⟩:=(Ag _ _).mp z;exact(c.pur h).trans (R2.pur g),R2.rep⟩⟩
  |false=>
   cases q;exact OC (k _ H1 ⟨c.sta,c.frm,λz=>c.pur ((Ag _ _).mp z).1,.bl _⟩)
 |_=>cases q
theorem Vv(l:PE X a (TV K ml pa ta ia fa))(hb:PE X (.BoolOp .Or (b::es) pos) (TV K ml pb tb ib fb)):PE X (.BoolOp .Or (a::b::es) pos) (TV K ml (pa&&pb) tb ib (fOr fa fb)):=(nB l hb).imp λσ H Q f=>by
 obtain⟨B,O,δ,d,δ',S,q,k⟩:=f;unfold fOr at q;obtain⟨⟨x,δ1⟩,h1,q⟩:=Aa.mp q;refine⟨B,O,δ,x,δ1,S,h1,λj H1 c=>?_⟩;cases x with
 |bl e=>
  have m:j=.bl e:=by cases c.rep;rfl
  refine⟨e,m,?_⟩;cases e with
  |false=>
   exact OC ⟨B,O,δ1,d,δ',c.sta,q,λi H2 R2=>k i H2 ⟨R2.sta,c.frm.trans R2.frm,λz=>by obtain⟨h,g⟩:=(Ag _ _).mp z;exact(c.pur h).trans (R2.pur g),R2.rep⟩⟩
  |true=>
   cases q;exact OD (k _ H1 ⟨c.sta,c.frm,λz=>c.pur ((Ag _ _).mp z).1,.bl _⟩)
 |_=>cases q
theorem Zo(g:PE X a (TV K ml pa ta ia fa)):PE X (.UnaryOp .Not a pos) (TV K ml pa true true (fNot fa)):=(lD g).imp λσ H Q c=>by
 obtain⟨B,O,δ,d,δ',S,q,k⟩:=c;unfold fNot at q;obtain⟨⟨x,δ1⟩,h1,q⟩:=Aa.mp q;refine⟨B,O,δ,x,δ1,S,h1,λf H1 b=>?_⟩;cases x with
 |bl e=>
  have h:f=.bl e:=by cases b.rep;rfl
  cases q;exact⟨e,h,k _ H1 ⟨b.sta,b.frm,b.pur,.bl _⟩⟩
 |_=>cases q
noncomputable def CO(t:VB)(x y:VF):VF:=λδ=>(t δ).bind λp=>if p.1=true then x p.2 else y p.2
theorem UI{t:VB}(m:PT X c (TB K ml pc t))(n:PE X a (TV K ml pa ta ia fa))(hb:PE X b (TV K ml pb tb ib fb)):PE X (.IfExp c a b pos) (TV K ml (pc&&pa&&pb) (ta&&tb) (ia&&ib) (CO t fa fb)):=(mK m n hb).imp λσ H Q g=>by
 obtain⟨B,O,δ,d,δ',S,q,k⟩:=g;unfold CO at q;obtain⟨⟨i,δ1⟩,h1,q⟩:=Aa.mp q;refine⟨B,O,δ,i,δ1,S,h1,λH1 e=>?_⟩;have l:∀c,((ta&&tb)=true->c=true)->∀a,at_ B O (ta&&tb) a->at_ B O c a:=λc h=>kY h;have j:∀c,((ia&&ib)=true->c=true)->∀a,av B O (ia&&ib) a->av B O c a:=λc h=>QF h;cases i with
 |true=>
  exact OD ⟨B,O,δ1,d,δ',e.sta,q,λf H2 R2=>k f H2 ⟨R2.sta,e.frm.trans R2.frm,λz=>by simp only[Ag] at z;exact(e.pur z.1.1).trans (R2.pur z.1.2),R2.rep.mono (j _ λz=>((Ag _ _).mp z).1) (l _ λz=>((Ag _ _).mp z).1)⟩⟩
 |false=>
  exact OC ⟨B,O,δ1,d,δ',e.sta,q,λf H2 R2=>k f H2 ⟨R2.sta,e.frm.trans R2.frm,λz=>by simp only[Ag] at z;exact(e.pur z.1.1).trans (R2.pur z.2),R2.rep.mono (j _ λz=>((Ag _ _).mp z).2) (l _ λz=>((Ag _ _).mp z).2)⟩⟩
noncomputable def f3(o o':cX->cX->Option cX)(fa fb fc:VF):VF:=λδ=>(fa δ).bind λp=>(fb p.2).bind λq=>(o p.1 q.1).bind λz=>match z with
 |.bl true=>(fc q.2).bind λs=>(o' q.1 s.1).map λu=>(u,s.2)
 |.bl false=>some (.bl false,q.2)
 |_=>none
theorem HX(w:OJ K r o)(l:OJ K r' o')(hs:(pb || (ta&&ia))=true)(j:(pc || (tb&&ib))=true){Q:VK}(h:TV K ml (pa&&pb&&pc) true true (f3 o o' fa fb fc) σ H Q):FT r r' (TV K ml pa ta ia fa) (TV K ml pb tb ib fb) (TV K ml pc tc ic fc) σ H Q:=by
 obtain⟨B,O,δ,d,b,S,q,k⟩:=h;unfold f3 at q;obtain⟨⟨x,δ1⟩,h1,q⟩:=Aa.mp q;cases h2:fb δ1 with
 |none=>simp[h2] at q
 |some p2=>
  obtain⟨y,δ2⟩:=p2;simp only[Aw,h2] at q;refine⟨B,O,δ,x,δ1,S,h1,λt H1 a=>⟨B,O,δ1,y,δ2,a.sta,h2,λm H2 R2=>?_⟩⟩;obtain⟨z,D,q⟩:=Aa.mp q;refine w H2 _ _ _ _ t m x y z _ (R2.live hs a.rep) R2.rep D λv c=>?_;have c:=c (λ_=>none) (λ_=>True) λ_=>True;cases z with
  |bl i=>
   have E:v=.bl i:=by cases c;rfl
   refine⟨i,E,?_⟩;cases i with
   |false=>
    cases q;exact OC (k _ H2 ⟨R2.sta,a.frm.trans R2.frm,λz=>by simp only[Ag] at z;exact(a.pur z.1.1).trans (R2.pur z.1.2),.bl _⟩)
   |true=>
    have q:((fc δ2).bind λs=>(o' y s.1).map λu=>(u,s.2))=some (d,b):=q;obtain⟨⟨g,f⟩,C,q⟩:=Aa.mp q;have q:((o' y g).map λu=>(u,f))=some (d,b):=q;obtain⟨u,A,q⟩:=Ar.mp q;cases q;refine OD ⟨B,O,δ2,g,_,R2.sta,C,λp n e=>?_⟩;exact l n _ _ _ _ m p y g d Q (e.live j R2.rep) e.rep A λv c=>k v n ⟨e.sta,(a.frm.trans R2.frm).trans e.frm,λz=>by simp only[Ag] at z;exact((a.pur z.1.1).trans (R2.pur z.1.2)).trans (e.pur z.2),c _ _ _⟩
  |_=>cases q
theorem kP{op d:CmpOp}(j:WD X (Dk op) r)(g:WD X (Dk d) r')(i:OJ K r o)(e:OJ K r' o')(l:PE X a (TV K ml pa ta ia fa))(hb:PE X b (TV K ml pb tb ib fb))(hc:PE X c (TV K ml pc tc ic fc))(k:Qi [op,d] [b,c]=false:=by with_unfolding_all rfl)(hs:(pb || (ta&&ia))=true:=by rfl)(f:(pc || (tb&&ib))=true:=by rfl):PE X (.Compare a [op,d] [b,c] pos) (TV K ml (pa&&pb&&pc) true true (f3 o o' fa fb fc)):=
 (Xy j g l hb hc k).imp λ_ _ _ h=>HX i e hs f h
theorem IA{op d:CmpOp}(j:WD X (Dk op) r)(g:WD X (Dk d) r')(i:OJ K r o)(e:OJ K r' o')(l:PE X a (TV K ml pa ta ia fa))(hb:PE X b (TV K ml pb tb ib fb))(hc:PE X c (TV K ml pc tc ic fc))(k:Qi [op,d] [b,c]=false:=by with_unfolding_all rfl)(hs:(pb || (ta&&ia))=true:=by rfl)(f:(pc || (tb&&ib))=true:=by rfl):PT X (.Compare a [op,d] [b,c] pos) (TB K ml (pa&&pb&&pc) (fB (f3 o o' fa fb fc))):=
 (iZ j g l hb hc k).imp λ_ _ _ h=>J3 (λ_ _ _=>HX i e hs f) h
end
section
variable{X:Cx}{K:As}{ml:List Nat}{e a b c:Tj}{es:List Tj}{pa ta ia pb tb ib pc tc ic pu bt bi ps bs:Bool}{fa fb fc:VF}{B:Bs}{O:Nat->Option Tf}{H H1 H':Hp}{σ:St}{δ δ':Ev}{v:V}{d:cX}{p:Tf}{pos:Pos}
noncomputable def f1(o:cX->Option cX)(fa:VF):VF:=λδ=>(fa δ).bind λp=>(o p.1).map λc=>(c,p.2)
theorem ML{o:cX->Option cX}(h:f1 o fa δ=some (d,δ')):∃x,fa δ=some (x,δ')/\o x=some d:=by
 unfold f1 at h;cases h1:fa δ with
 |none=>rw[h1] at h;cases h
 |some p=>
  rw[h1] at h;have h:((o p.1).map λc=>(c,p.2))=some (d,δ'):=h;obtain⟨c,a,h⟩:=Ar.mp h;cases h;exact⟨p.1,rfl,a⟩
abbrev RC:=List V->Hp->VK->Prop
def CalS(K:As)(r:RC)(o:cX->Option cX):Prop:=∀(H:Hp) (N M:Tf->Prop) (x:V) (d c:cX) (Q:VK),aX K N H M x d->o d=some c->(∀v,(∀H' N M,aX K N H' M v c)->Q v H)->r [x] H Q
def CalC(K:As)(r:RC)(o:cX->Option cX):Prop:=∀(H:Hp) (N M:Tf->Prop) (x:V) (d c:cX) (Q:VK),aX K N H M x d->o d=some c->
 (∀v H',aP H H'->(∀M,(∀a,M a->∃o,H a=some o)->aX K N H' M v c)->Q v H')->r [x] H Q
def CalN(K:As)(r:RC)(o:cX->Option cX):Prop:=∀(H:Hp) (N M:Tf->Prop) (x:V) (d c:cX) (Q:VK),aX K N H M x d->o d=some c->
 (∀p xs ds,H p=none->b7 K N H xs ds->c=.lst ds->Q (.ref p) (aN H p (.lst xs)))->r [x] H Q
def J7(K:As)(r:RC)(o:cX->cX->Option cX):Prop:=∀(H:Hp) (N N' M M':Tf->Prop) (x y:V) (d e c:cX) (Q:VK),aX K N H M x d->aX K N' H M' y e->o d e=some c->(∀v,(∀H' N M,aX K N H' M v c)->Q v H)->r [x,y] H Q
theorem B8{r:RC}{o:cX->Option cX}(e:CalS K r o){Q:VK}(h:TV K ml pa true true (f1 o fa) σ H Q):tCB r (LQ (TV K ml pa ta ia fa) tNil) σ H Q:=by obtain⟨B,O,δ,d,δ',S,q,k⟩:=h;obtain⟨x,h1,h2⟩:=ML q;exact⟨B,O,δ,x,δ',S,h1,λb H1 a=>e H1 _ _ b x d Q a.rep h2 λv c=>k v H1 ⟨a.sta,a.frm,a.pur,c _ _ _⟩⟩
theorem B7{r:RC}{o:cX->Option cX}(g:CalC K r o){Q:VK}(h:TV K ml pa true ia (f1 o fa) σ H Q):tCB r (LQ (TV K ml pa ta ia fa) tNil) σ H Q:=by obtain⟨B,O,δ,d,δ',S,q,k⟩:=h;obtain⟨x,h1,h2⟩:=ML q;exact⟨B,O,δ,x,δ',S,h1,λe H1 b=>g H1 _ _ e x d Q b.rep h2 λv H2 c f=>k v H2 ⟨b.sta.same c,b.frm.trans c.fr,λz=>(b.pur z).trans c,f _ λa z=>b.sta.nin z⟩⟩
theorem LS{r:RC}{o:cX->Option cX}(f:CalN K r o){Q:VK}(h:TN K ml pa (f1 o fa) σ H Q):tCB r (LQ (TV K ml pa ta true fa) tNil) σ H Q:=by obtain⟨B,O,δ,d,δ',S,q,k⟩:=h;obtain⟨x,h1,h2⟩:=ML q;refine⟨B,O,δ,x,δ',S,h1,λb H1 a=>f H1 _ _ b x d Q a.rep h2 λp xs ds e c g=>?_⟩;subst g;exact k p _ (mkN a.sta a.frm a.pur e c)
theorem B9{r:RC}{o:cX->cX->Option cX}(i:J7 K r o)(hs:(pb || (ta&&ia))=true){Q:VK}(h:TV K ml (pa&&pb) true true (f2 o fa fb) σ H Q):tCB r (LQ (TV K ml pa ta ia fa) (LQ (TV K ml pb tb ib fb) tNil)) σ H Q:=by
 obtain⟨B,O,δ,d,δ2,S,q,k⟩:=h;obtain⟨x,δ1,y,h1,h2,j⟩:=PH q;refine⟨B,O,δ,x,δ1,S,h1,λf H1 a=>⟨B,O,δ1,y,δ2,a.sta,h2,λe H2 R2=>?_⟩⟩;exact i H2 _ _ _ _ f e x y d Q (R2.live hs a.rep) R2.rep j λv g=>k v H2 ⟨R2.sta,a.frm.trans R2.frm,λz=>by obtain⟨c,b⟩:=(Ag _ _).mp z;exact(a.pur c).trans (R2.pur b),g _ _ _⟩
section
variable{x:Ti}{p':Pos}{id T:String}{r:RC}
theorem Ue{o:cX->Option cX}(hc:ZR X (.builtin id) r)(e:CalS K r o)(i:Gl X x)(g:X.mg x=none)(d:Bo x=some (.builtin id))(j:PE X a (TV K ml pa ta ia fa))(f:x≠ "__name__":=by decide)(b:(x==("__debug__":Ti))=false:=by decide)(c:Aj (a::[]) X.env=(false,eval a X.env)::Aj [] X.env:=by rfl):PE X (.Call (.Name x p') [a] [] pos) (TV K ml pa true true (f1 o fa)):=
 (M8 hc i g d (bC j Y7 c) f b c).imp λ_ _ _ h=>B8 e h
theorem LW{o:cX->cX->Option cX}(hc:ZR X (.builtin id) r)(i:J7 K r o)(l:Gl X x)(k:X.mg x=none)(g:Bo x=some (.builtin id))(m:PE X a (TV K ml pa ta ia fa))(hb:PE X b (TV K ml pb tb ib fb))(j:x≠ "__name__":=by decide)(e:(x==("__debug__":Ti))=false:=by decide)(f:Aj (a::[b]) X.env=(false,eval a X.env)::Aj [b] X.env:=by rfl)(d:Aj (b::[]) X.env=(false,eval b X.env)::Aj [] X.env:=by rfl)(c:(Fx pos (Aj [b] X.env)).any (·.1)=false:=by rfl)(hs:(pb || (ta&&ia))=true:=by rfl):PE X (.Call (.Name x p') [a,b] [] pos) (TV K ml (pa&&pb) true true (f2 o fa fb)):=
 (M8 hc l k g (bC m (bC hb Y7 d) f) j e f c).imp λ_ _ _ h=>B9 i hs h
theorem LX{o:cX->Option cX}(hc:ZR X (.type T) r)(e:CalC K r o)(i:Gl X x)(g:X.mg x=none)(d:Bo x=some (.type T))(j:PE X a (TV K ml pa ta ia fa))(f:x≠ "__name__":=by decide)(b:(x==("__debug__":Ti))=false:=by decide)(c:Aj (a::[]) X.env=(false,eval a X.env)::Aj [] X.env:=by rfl):PE X (.Call (.Name x p') [a] [] pos) (TV K ml pa true ia (f1 o fa)):=
 (VV hc i g d (bC j Y7 c) f b c).imp λ_ _ _ h=>B7 e h
theorem Uj{o:cX->Option cX}(hc:ZR X (.type T) r)(e:CalN K r o)(i:Gl X x)(g:X.mg x=none)(d:Bo x=some (.type T))(j:PE X a (TV K ml pa ta true fa))(f:x≠ "__name__":=by decide)(b:(x==("__debug__":Ti))=false:=by decide)(c:Aj (a::[]) X.env=(false,eval a X.env)::Aj [] X.env:=by rfl):PE X (.Call (.Name x p') [a] [] pos) (TN K ml pa (f1 o fa)):=
 (VV hc i g d (bC j Y7 c) f b c).imp λ_ _ _ h=>LS e h
theorem mH{o:cX->Option cX}(hc:ZR X (.builtin id) r)(e:CalN K r o)(i:Gl X x)(g:X.mg x=none)(d:Bo x=some (.builtin id))(j:PE X a (TV K ml pa ta true fa))(f:x≠ "__name__":=by decide)(b:(x==("__debug__":Ti))=false:=by decide)(c:Aj (a::[]) X.env=(false,eval a X.env)::Aj [] X.env:=by rfl):PE X (.Call (.Name x p') [a] [] pos) (TN K ml pa (f1 o fa)):=
 (M8 hc i g d (bC j Y7 c) f b c).imp λ_ _ _ h=>LS e h
end
noncomputable def YJ:cX->Option cX
 |.tup ds=>some (.int ds.length)
 |.lst ds=>some (.int ds.length)
 |.str z=>if z.length<=16777216 then some (.int z.length) else none
 |_=>none
def rLen(K:As):RC:=λxs H Q=>(∃p ys,xs=[.ref p]/\(WT K H p ys∨V0 K H p ys)/\Q (.int ys.length) H)∨∃z,xs=[.str z]/\z.length<=sizeLine/\Q (.int z.length) H
theorem oW(h:X.K=K):ZR X (.builtin "len") (rLen K):=by subst h;exact IN.or IP
theorem Yn:CalS K (rLen K) YJ:=by
  intro H N M x d c Q b h k;cases d<;>first
    | (rename_i ds
       obtain⟨a,xs,rfl,sq,r⟩:=b.seq rfl;cases h;refine .inl ⟨a,xs,rfl,sq,?_⟩;rw[r.length];exact k _ λ_ _ _=>.int _)
    | (cases b
       simp only[YJ] at h;split at h
       · cases h
         exact .inr ⟨_,rfl,by rw[Di];assumption,k _ λ_ _ _=>.int _⟩
       · cases h)
    |cases h
noncomputable def LB(d:cX):Option cX:=(W8 d).map cX.lst
noncomputable def U5(d:cX):Option cX:=(W8 d).map cX.tup
def Vz(K:As):RC:=λxs H Q=>∃p ys,xs=[.ref p]/\(WT K H p ys∨V0 K H p ys)/\∀l,H l=none->Q (.ref l) (aN H l (.lst ys))
def DQ(K:As):RC:=λxs H Q=>∃p ys,xs=[.ref p]/\((WT K H p ys/\∀l,H l=none->Q (.ref l) (aN H l (.tup ys)))∨(V0 K H p ys/\Q (.ref p) H))
theorem EZ(h:X.K=K):ZR X (.type "list") (Vz K):=nN h
theorem SY(h:X.K=K):ZR X (.type "tuple") (DQ K):=hX h
theorem HQ{d:cX}{g:List cX->cX}{c:cX}(h:(W8 d).map g=some c):∃ds,W8 d=some ds/\c=g ds:=by
 cases h1:W8 d with
 |none=>rw[h1] at h;cases h
 |some ds=>rw[h1] at h;cases h;exact⟨ds,rfl,rfl⟩
theorem U2:CalN K (Vz K) LB:=by intro H N M x d c Q b h k;obtain⟨ds,h1,rfl⟩:=HQ h;obtain⟨a,xs,rfl,sq,r⟩:=b.seq h1;exact⟨a,xs,rfl,sq,λl hl=>k l xs ds hl r rfl⟩
theorem SN:CalC K (DQ K) U5:=by
 intro H N M x d c Q b h k;obtain⟨ds,h1,rfl⟩:=HQ h;obtain⟨a,xs,rfl,sq,r⟩:=b.seq h1;rcases sq with sq|sq
 ·exact⟨a,xs,rfl,.inl ⟨sq,λl hl=>k _ _ (cN hl) λM e=>.tup (V0.of bZ) (r.same (cN hl))⟩⟩
 ·exact⟨a,xs,rfl,.inr ⟨sq,k _ _ (aP.refl _) λM e=>.tup sq r⟩⟩
noncomputable def o2I(g:Int->Int->Int):cX->cX->Option cX
 |.int i,.int j=>some (.int (g i j))
 |_,_=>none
theorem Us{g:Int->Int->Int}:J7 K (λxs H Q=>∃i j,xs=[.int i,.int j]/\Q (.int (g i j)) H) (o2I g):=by
 intro H N N' M M' x y d e c Q b a h k;unfold o2I at h;split at h
 ·cases h
  cases b;cases a;exact⟨_,_,rfl,k _ λ_ _ _=>.int _⟩
 ·cases h
noncomputable abbrev oMax:=o2I λi j=>if j>i then j else i
noncomputable abbrev oMin:=o2I λi j=>if j<i then j else i
theorem Vf:J7 K (λxs H Q=>∃i j,xs=[.int i,.int j]/\Q (.int (if j>i then j else i)) H) oMax:=Us
theorem Tz:J7 K (λxs H Q=>∃i j,xs=[.int i,.int j]/\Q (.int (if j<i then j else i)) H) oMin:=Us
noncomputable def tyD:cX->Option String
 |.non=>some "NoneType"
 |.bl _=>some "bool"
 |.int _=>some "int"
 |.str _=>some "str"
 |.tup _=>some "tuple"
 |.lst _=>some "list"
 |_=>none
noncomputable def PN(t n:String):Option Bool:=if((Kp t)==(Kp n))=true then some true else if W.kitMeta n=true then(PySem.fastBuiltinMro t).map (·.contains (.type n)) else none
theorem eT{t n:String}{k:Bool}(h:PN t n=some k):W.kitOne K (.type t) (.type n)=some k:=h
noncomputable def QV:cX->cX->Option cX
 |d,.ty n=>(tyD d).bind λt=>(PN t n).map cX.bl
 |_,_=>none
def rIsi(K:As):RC:=λxs H Q=>∃x n d N M t k,xs=[x,.ty n]/\aX K N H M x d/\tyD d=some t/\PN t n=some k/\Q (.bl k) H
theorem AS:ZR X (.builtin "isinstance") (rIsi X.K):=by
 intro aa s σ H xs m Q I r h;obtain⟨x,n,d,N,M,t,k,rfl,j,b,l,q⟩:=h;obtain⟨u,c,rfl,f,g⟩:=D6 r;cases (show c=Kp n from g);have e:=eT (K:=X.K) l;have a:∀tk,EP X aa σ Q (.bool k) {s with toks:=tk}:=λtk=>⟨.bl k,H,I.tok tk,rfl,q⟩;cases j with
 |non=>cases b;exact SX I f (.non) e a
 |bl y=>cases b;exact SX I f (.bl y) e a
 |int i=>cases b;exact SX I f (.int i) e a
 |str y=>cases b;exact SX I f (.str y) e a
 |ty n=>cases b
 |fn _=>cases b
 |dct _ _ _=>cases b
 |ktb _ _=>cases b
 |exn _ _ _=>cases b
 |exr _ _ _ _ _=>cases b
 |tup q _=>
  cases b;cases f;obtain⟨its,_,⟨o,h1,h2,_⟩,_⟩:=I.tuple q;exact Ga W.kitx_tuple I.kIn ⟨o,h1,h2⟩ e (λz=>nomatch z) a
 |lst q _ _=>
  cases b;cases f;obtain⟨its,_,⟨o,n,h1,h2,_⟩,_⟩:=I.list (WT.of q);exact Ga Nc I.kIn ⟨o,h1,h2⟩ e (λz=>nomatch z) a
 |fzl q _=>
  cases b;cases f;obtain⟨its,_,⟨o,n,h1,h2,_⟩,_⟩:=I.list q.sq;exact Ga Nc I.kIn ⟨o,h1,h2⟩ e (λz=>nomatch z) a
theorem kIsi(h:X.K=K):ZR X (.builtin "isinstance") (rIsi K):=by subst h;exact AS
theorem eL:J7 K (rIsi K) QV:=by
  intro H N N' M M' x y d e c Q f b h k;cases b<;>first
    | (simp only [QV] at h
       cases h1:tyD d with
       |none=>rw[h1] at h;cases h
       |some t=>
         rw[h1] at h;rename_i n;have h:(PN t n).map cX.bl=some c:=h;obtain⟨a,h2,h⟩:=Ar.mp h;cases h;exact⟨x,n,d,N,M,t,a,rfl,f,h1,h2,k _ λ_ _ _=>.bl _⟩)
    |cases h
noncomputable def G6:cX->Option cX
 |.int i=>some (.int (-i))
 |_=>none
theorem P7(f:PE X a (TV K ml pa ta ia fa)):PE X (.UnaryOp .USub a pos) (TV K ml pa true true (f1 G6 fa)):=(mQ oF f).imp λσ H Q c=>by
 obtain⟨B,O,δ,d,δ',S,q,k⟩:=c;obtain⟨x,h1,h2⟩:=ML q;refine⟨B,O,δ,x,δ',S,h1,λe H1 b=>?_⟩;cases x with
 |int i=>
  cases h2;have g:e=.int i:=by cases b.rep;rfl
  exact⟨i,g,k _ H1 ⟨b.sta,b.frm,b.pur,.int _⟩⟩
 |_=>cases h2
abbrev VP:=Ev->Option (Option Int×Ev)
def TPO(K:As)(ml:List Nat)(pu:Bool)(f:VP):TO:=λσ H Q=>∃B O δ k δ',Z4 K ml B O H σ δ/\f δ=some (k,δ')/\∀H',AL K ml B O H σ pu H' δ'->Q k H'
noncomputable def pNo:VP:=λδ=>some (none,δ)
noncomputable def BJ(f:VF):VP:=λδ=>(f δ).bind λp=>match p.1 with
 |.int i=>some (some i,p.2)
 |_=>none
theorem PO.imp{e:Option Tj}{t u:TO}(h:PO X e t)(k:∀σ H Q,u σ H Q->t σ H Q):PO X e u:=λaa s σ H Q I w=>h aa s σ H Q I (k σ H Q w)
theorem OU:PO X none (TPO K ml true pNo):=zE1.imp λσ H Q a=>by obtain⟨B,O,δ,d,δ',S,q,k⟩:=a;cases q;exact k H (AL.refl S)
theorem OV(h:PE X a (TV K ml pa ta ia fa)):PO X (some a) (TPO K ml pa (BJ fa)):=(mY h).imp λσ H Q c=>by
 obtain⟨B,O,δ,d,δ',S,q,k⟩:=c;unfold BJ at q;obtain⟨⟨x,δ1⟩,h1,q⟩:=Aa.mp q;refine⟨B,O,δ,x,δ1,S,h1,λe H1 b=>?_⟩;cases x with
 |int i=>
  have f:e=.int i:=by cases b.rep;rfl
  cases q;exact⟨i,f,k H1 ⟨b.sta,b.frm,b.pur⟩⟩
 |_=>cases q
noncomputable def VL(ds:List cX)(lo hi:Option Int):List cX:=(ds.drop (HT.sIx ds.length 0 lo)).take (HT.sIx ds.length ds.length hi - HT.sIx ds.length 0 lo)
theorem NU{N:Tf->Prop}{xs:List V}{ds:List cX}(r:b7 K N H xs ds)(lo hi:Option Int):b7 K N H (GC xs lo hi) (VL ds lo hi):=by unfold GC VL;rw[r.length];exact(r.drop _).take _
noncomputable def oSl(d:cX)(lo hi:Option Int):Option cX:=match d with
 |.lst ds=>some (.lst (VL ds lo hi))
 |.tup ds=>some (.tup (VL ds lo hi))
 |_=>none
noncomputable def A5(fa:VF)(a b:VP):VF:=λδ=>(fa δ).bind λp=>(a p.2).bind λl=>(b l.2).bind λu=>(oSl p.1 l.1 u.1).map λc=>(c,u.2)
theorem B4{prog:Br}{w:Tl}{A:Df}{E:Te->Ah->Prop}{s:Ah}{t b:Tf}{items:Array Te}{f e:Te}{lo hi:Option Int}{Q:Te->Ah->Prop}(a:IsTup s.heap t items)(hs:s.heap.IsSliceOf b f e .none)(g:IsPart f lo)(pu:IsPart e hi)(h1:HT.sIx items.size 0 lo=0)(h2:HT.sIx items.size items.size hi=items.size)(h:Q (.ref t) s):Tg (Th prog w) A (Lc (.ref t) (.ref b)) Q E s:=by
 obtain⟨os,c,d,i⟩:=id hs;have j:s.TypeIs (.ref b) "slice":=⟨os,c,d⟩;unfold Lc;try with_reducible refine Cn ?_
 first|refine Ac (An ?_)|skip
 refine Ac (Kt a.typeIs (by decide) ?_);refine Ac (Du (name:=Am "__getitem__") a.typeIs Eu
  (Ep Eu a.typeIs PyProof.Rows.entry_tuple_getitem ?_ (PyProof.Rows.args_tuple_getitem _ _)))
 show Tg _ _ (Kc (.ref t)>>=_) _ _ s;refine Ac (PyProof.Rows.tupleItemsOf_ a ?_);refine Ac (Ki j ?_);rw[if_pos (by decide)];refine Ac (HT.VZ hs g pu ?_);rw[h1,h2];show Tg _ _ (if((((0:Nat):Int)==0&&(1:Int)==1&&(items.size - 0)==items.size)=true) then _ else _) _ _ s;rw[if_pos (by simp)];refine Ac (m:=Rc _) (Ac (Ki a.typeIs (An ?_)));rw[if_pos (by decide)];exact Ac (Gy (An ⟨_,rfl,An h⟩))
def rSlW(K:As):V->Option Int->Option Int->Hp->VK->Prop:=λx lo hi H Q=>∃a xs,x=.ref a/\V0 K H a xs/\(HT.sIx xs.length 0 lo=0/\HT.sIx xs.length xs.length hi=xs.length)/\Q (.ref a) H
theorem eK:SlR X (rSlW X.K):=by
 intro aa s σ H x v i g lo hi j Q I d hs e pu h;obtain⟨a,xs,rfl,f,hw,q⟩:=h;cases d;obtain⟨its,r,b,k⟩:=I.tuple f;have c:its.toArray.size=xs.length:=by rw[At];exact r.length.symm
 refine⟨"tuple",_,PyProof.Rows.slot_tuple_getitem.lookup,b.typeIs,?_⟩;exact B4 b hs e pu (by rw[c];exact hw.1) (by rw[c];exact hw.2) ⟨.ref a,H,I,rfl,q⟩
def rSl(K:As):V->Option Int->Option Int->Hp->VK->Prop:=λx lo hi H Q=>(rSlT K x lo hi H Q∨rSlL K x lo hi H Q)∨rSlW K x lo hi H Q
theorem kSl(h:X.K=K):SlR X (rSl K):=by subst h;exact(zGJ.or jA).or eK
theorem nK{b e:VP}(h:A5 fa b e δ=some (d,δ')):∃x δ1 l δ2 u,fa δ=some (x,δ1)/\b δ1=some (l,δ2)/\e δ2=some (u,δ')/\oSl x l u=some d:=by
 unfold A5 at h;cases h1:fa δ with
 |none=>rw[h1] at h;cases h
 |some p=>
  rw[h1] at h;cases h2:b p.2 with
  |none=>simp[h2] at h
  |some q=>
   simp only[Aw,h2] at h;cases a:e q.2 with
   |none=>simp[a] at h
   |some s=>
    simp only[Aw,a] at h;obtain⟨c,f,h⟩:=Ar.mp h;cases h;exact⟨p.1,p.2,q.1,q.2,s.1,rfl,h2,a,f⟩
theorem OT{lo hi:Option Tj}{p2:Pos}{v w:VP}(E:X.K=K)(D:PE X a (TV K ml pa ta ia fa))(hl:PO X lo (TPO K ml pb v))(C:PO X hi (TPO K ml pc w))(hs:(pb&&pc || (ta&&ia))=true:=by rfl):
  PE X (.Subscript a (.Slice lo hi none p2) pos) (TV K ml (pa&&pb&&pc) true ia (A5 fa v w)):=(fJ (kSl E) D hl C).imp λσ H Q s=>by
 obtain⟨B,O,δ,d,i,S,q,k⟩:=s;obtain⟨x,δ1,l,δ2,u,h1,h2,F,t⟩:=nK q;refine⟨B,O,δ,x,δ1,S,h1,λA H1 h=>⟨B,O,δ1,l,δ2,h.sta,h2,λH2 R2=>⟨B,O,δ2,u,i,R2.sta,F,λy c=>?_⟩⟩⟩;have o:aX K (av B O ia) y (at_ B O ta) A x:=by
  rcases(Hy _ _).mp hs with z|z
  ·obtain⟨m,j⟩:=(Ag _ _).mp z
   exact(h.rep.same (R2.pur m)).same (c.pur j)
  ·obtain⟨m,j⟩:=(Ag _ _).mp z
   subst m j;exact(h.rep.fr R2.frm (λa z=>.inr z) λa z=>.inr z).fr c.frm (λa z=>.inr z) λa z=>.inr z
 have g:(pa&&pb&&pc)=true->aP H y:=λz=>by simp only[Ag] at z;exact((h.pur z.1.1).trans (R2.pur z.1.2)).trans (c.pur z.2)
 have f:=(h.frm.trans R2.frm).trans c.frm;cases x with
 |lst ds=>
  cases t;obtain⟨a,xs,rfl,sq,r⟩:=o.seq rfl;rcases sq with sq|sq
  ·exact .inl (.inr ⟨a,xs,rfl,sq,λp b=>k _ _ ⟨c.sta.same (cN b),f.trans (cN b).fr,λz=>(g z).trans (cN b),.lst bZ (c.sta.new b) ((NU r l u).same (cN b))⟩⟩)
  ·cases o with
   |lst q n r'=>exact .inl (.inr ⟨a,_,rfl,WT.of q,λp b=>k _ _ ⟨c.sta.same (cN b),f.trans (cN b).fr,λz=>(g z).trans (cN b),.lst bZ (c.sta.new b) ((NU r' l u).same (cN b))⟩⟩)
   |fzl q r'=>exact .inl (.inr ⟨a,_,rfl,q.sq,λp b=>k _ _ ⟨c.sta.same (cN b),f.trans (cN b).fr,λz=>(g z).trans (cN b),.lst bZ (c.sta.new b) ((NU r' l u).same (cN b))⟩⟩)
 |tup ds=>
  cases t;cases o with
  |tup q r'=>
   by_cases hw:HT.sIx ds.length 0 l=0/\HT.sIx ds.length ds.length u=ds.length
   ·refine .inr ⟨_,_,rfl,q,by rw [r'.length];exact hw,k _ _ ⟨c.sta,f,g,?_⟩⟩
    have e:VL ds l u=ds:=by unfold VL;rw[hw.1,hw.2];simp
    rw[e];exact .tup q r'
   ·exact .inl (.inl ⟨_,_,rfl,q,by rw[r'.length];exact hw,λp b=>k _ _ ⟨c.sta.same (cN b),f.trans (cN b).fr,λz=>(g z).trans (cN b),.tup (V0.of bZ) ((NU r' l u).same (cN b))⟩⟩)
 |_=>cases t
end
inductive Ou where
 |nx (δ:Ev)|rt (d:cX) (δ:Ev)|bk (δ:Ev)|ct (δ:Ev)
abbrev VS:=Ev->Option Ou
def Post(K:As)(ml:List Nat)(B:Bs)(D:EA):Ou->Prop
 |.nx δ'=>∀a H' b,Z4 K ml B b H' a δ'->D.nx a H'
 |.rt d δ'=>∀v a H' b,Z4 K ml B b H' a δ'->aX K (rz B) H' (rz B) v d->D.rt v H'
 |.bk δ'=>∀a H' b,Z4 K ml B b H' a δ'->D.bk a H'
 |.ct δ'=>∀a H' b,Z4 K ml B b H' a δ'->D.ct a H'
def SK(K:As)(ml:List Nat)(g:VS):TS:=λD σ H=>∃B O δ o,Z4 K ml B O H σ δ/\g δ=some o/\Post K ml B D o
section
variable{X:Cx}{K:As}{ml:List Nat}{e a b c:Tj}{es:List Tj}{pa ta ia pb tb ib pc tc ic pu bt bi ps bs:Bool}{fa fb fc f:VF}{B B':Bs}{O:Nat->Option Tf}{H H1 H':Hp}{σ:St}{δ δ':Ev}{v:V}{d:cX}{p:Tf}{pos:Pos}{st:Tt}{rest:List Tt}{g g':VS}
noncomputable def Z2:VS:=λδ=>some (.nx δ)
noncomputable def cC(g g':VS):VS:=λδ=>(g δ).bind λo=>match o with
 |.nx δ'=>g' δ'
 |o=>some o
theorem cD:OK X [] (SK K ml Z2):=DJ.imp λD σ H a=>by obtain⟨B,O,δ,o,S,q,k⟩:=a;cases q;exact k σ H O S
theorem cV(h1:PS X st (SK K ml g))(h2:OK X rest (SK K ml g')):OK X (st::rest) (SK K ml (cC g g')):=(HG h1 h2).imp λD σ H a=>by
 obtain⟨B,O,δ,o,S,q,k⟩:=a;unfold cC at q;obtain⟨z,h1,q⟩:=Aa.mp q;refine⟨B,O,δ,z,S,h1,?_⟩;cases z with
 |nx δ1=>exact λb H' e c=>⟨B,e,δ1,o,c,q,k⟩
 |rt d δ1=>cases q;exact k
 |bk δ1=>cases q;exact k
 |ct δ1=>cases q;exact k
theorem cS(h1:PS X st (SK K ml g)):OK X [st] (SK K ml g):=(HG h1 DJ).imp λD σ H ⟨B,O,δ,o,S,q,k⟩=>⟨B,O,δ,o,S,q,by cases o<;>exact k⟩
noncomputable def bU(f:VF):VS:=λδ=>(f δ).map λp=>.rt p.1 p.2
theorem cM(h:PE X e (TV K ml pu bt bi f))(b:bt=true:=by rfl):PS X (.Return (some e) pos) (SK K ml (bU f)):=(Xl h).imp λD σ H a=>by obtain⟨B,O,δ,o,S,q,k⟩:=a;unfold bU at q;obtain⟨p,h1,q⟩:=Ar.mp q;cases q;subst b;exact⟨B,O,δ,p.1,p.2,S,h1,λv H' R=>k v σ H' O R.sta (R.rep.mono R.sta.rza R.sta.rzn)⟩
theorem Yv{i:Nat}(h:PE X e (OI i))(b:i∉ml:=by decide):PS X (.Return (some e) pos) (SK K ml (bU (fO i))):=(Xl h).imp λD σ H a=>by obtain⟨B,O,δ,o,S,q,k⟩:=a;unfold bU at q;obtain⟨⟨x,δ1⟩,h1,q⟩:=Ar.mp q;cases q;obtain⟨rfl,v,c,r⟩:=S.lone b h1;exact⟨v,c,k v σ H O S (r.mono S.rza S.rza)⟩
noncomputable def DW(f:VF):VS:=λδ=>(f δ).map λp=>.nx p.2
theorem kJ(h:PE X e (TV K ml pu bt bi f))(hs:Gm e none pos.line X.env=pure false:=by rfl):PS X (.Expr e pos) (SK K ml (DW f)):=(DI h hs).imp λD σ H a=>by obtain⟨B,O,δ,o,S,q,k⟩:=a;unfold DW at q;obtain⟨p,h1,q⟩:=Ar.mp q;cases q;exact⟨B,O,δ,p.1,p.2,S,h1,λv H' R=>k σ H' O R.sta⟩
noncomputable def XB(t:VB)(g g':VS):VS:=λδ=>(t δ).bind λp=>if p.1=true then g p.2 else g' p.2
theorem bE{x y:List Tt}{t:VB}(e:PT X c (TB K ml pc t))(f:OK X x (SK K ml g))(hb:OK X y (SK K ml g')):PS X (.If c x y pos) (SK K ml (XB t g g')):=(Yi e f hb).imp λD σ H a=>by
 obtain⟨B,O,δ,o,S,q,k⟩:=a;unfold XB at q;obtain⟨⟨b,δ1⟩,h1,q⟩:=Aa.mp q;refine⟨B,O,δ,b,δ1,S,h1,λH1 d=>?_⟩;cases b with
 |true=>exact OD ⟨B,O,δ1,o,d.sta,q,k⟩
 |false=>exact OC ⟨B,O,δ1,o,d.sta,q,k⟩
abbrev VX:=Ev->Option (Sl×Ev)
inductive St1(K:As)(B:Bs)(O:Nat->Option Tf)(H:Hp):Bs->V->Sl->Prop
 |va {v:V} {d:cX}:St1 K B O H {B with kp:=[(v,d)]++B.kp} v (.va d)
 |ol {p:Tf} {xs:List V} {ds:List cX}:H p=some (.lst xs)->xs.length=ds.length->¬Nn B O p->B.H0 p=none->St1 K B O H {B.add p with kp:=xs.zip ds++B.kp} (.ref p) (.ow (.lst ds))
 |od {p:Tf} {kvs:List (Z7×V)} {ds:List cX}:H p=some (.dK kvs)->kvs.length=ds.length->¬Nn B O p->B.H0 p=none->St1 K B O H {B.add p with kp:=(kvs.map Ec).zip ds++B.kp} (.ref p) (.ow (.dct (kvs.map Cz) ds))
theorem St1.fr{s:Sl}(h:St1 K B O H B' v s)(f:Fr (OA O) H H'):St1 K B O H' B' v s:=by
 cases h with
 |va=>exact .va
 |ol q l n z=>exact .ol (f _ _ q λw=>absurd (.inr w) n) l n z
 |od q l n z=>exact .od (f _ _ q λw=>absurd (.inr w) n) l n z
def TX(K:As)(ml:List Nat)(f:VX):TE:=λσ H Q=>∃B O δ s δ',Z4 K ml B O H σ δ/\f δ=some (s,δ')/\∀v H' B',Z4 K ml B' O H' σ δ'->St1 K B O H' B' v s->Fr (OA O) H H'->Q v H'
noncomputable def xV(f:VF):VX:=λδ=>(f δ).map λp=>(.va p.1,p.2)
noncomputable def xO(f:VF):VX:=λδ=>(f δ).map λp=>(.ow p.1,p.2)
theorem Z8(h:PE X e (TV K ml pu true true f)):PE X e (TX K ml (xV f)):=h.imp λσ H Q a=>by
 obtain⟨B,O,δ,o,δ',S,q,k⟩:=a;unfold xV at q;obtain⟨p,h1,q⟩:=Ar.mp q;cases q;exact⟨B,O,δ,p.1,p.2,S,h1,λv H' R=>k v H' _ (R.sta.keepV (ps:=[(v,p.1)]) λz b=>by rw[Bb.mp b];exact R.rep) .va R.frm⟩
theorem TK{N:Tf->Prop}:∀{xs:List V} {ds:List cX},b7 K N H xs ds->∀z∈xs.zip ds,aX K N H N z.1 z.2
 |_,_,.nil,z,a=>nomatch a
 |_,_,.cons h t,z,a=>by
  rcases Ai.mp a with e|e
  ·rw[e];exact h
  ·exact TK t z e
theorem U8{N:Tf->Prop}:∀{xs:List V} {ds:List cX},xs.length=ds.length->(∀z∈xs.zip ds,aX K N H N z.1 z.2)->b7 K N H xs ds
 |[],[],_,_=>.nil
 |x::xs,d::ds,hl,h=>.cons (h (x,d) (Ap ..)) (U8 (by simpa using hl) λz a=>h z (Ao _ a))
theorem US(h:PE X e (TN K ml pu f)):PE X e (TX K ml (xO f)):=h.imp λσ H Q a=>by
 obtain⟨B,O,δ,o,δ',S,q,k⟩:=a;unfold xO at q;cases h1:f δ with
 |none=>rw[h1] at q;cases q
 |some p=>
  obtain⟨d,δ1⟩:=p;rw[h1] at q;cases q;refine⟨B,O,δ,d,δ1,S,h1,λp H' R=>?_⟩;have w:=R.own;cases w with
  |lst q r=>exact k _ H' _ (R.sta.keepV (TK r)) (.ol q r.length R.nz R.h0) R.frm
  |dct q r=>exact k _ H' _ (R.sta.keepV (TK r)) (.od q (by simpa using r.length) R.nz R.h0) R.frm
theorem St1.bind{d:Nat->Option Tf}{s:Sl}{i:Nat}(h:St1 K B O H' B' v s)(S:Z4 K ml B' d H' σ δ)(b:i∉ml)(hl:i<δ.length):∃c,Z4 K ml B c H' (σ.set i (some v)) (δ.set i s):=by
 cases h with
 |va=>
  refine⟨_,Z4.unkeep (ps:=_) (S.setVa b (S.kep _ (Cg _ (Bb.mpr rfl))))⟩
 |ol q l n z=>
  refine⟨_,Z4.setOw (Z4.unkeep (B:=B.add _) S) b hl (λw=>n (.inl w)) z (.lst q (U8 l λz a=>S.kep z (Cg _ a)))⟩
 |od q l n z=>
  refine⟨_,Z4.setOw (Z4.unkeep (B:=B.add _) S) b hl (λw=>n (.inl w)) z (.dct q (U8 (by simpa using l) λz a=>S.kep z (Cg _ a)))⟩
noncomputable def Z3(i:Nat)(x:VX):VS:=λδ=>(x δ).bind λp=>if i<p.2.length then some (.nx (p.2.set i p.1)) else none
theorem bH{i:Nat}{y:Ti}{x:VX}{bp:Pos}(h:X.N.Nodup)(g:PE X e (TX K ml x))(hi:X.N[i]?=some y:=by rfl)(c:AB X.env.scope y:=by first|exact .inl rfl|exact .inr rfl)(d:i∉ml:=by decide)(hs:Gm e (some (.Name y bp)) pos.line X.env=pure false:=by rfl)
  (f:X.fn y=true∨X.env.scope.names.lookup y=some .local:=by first|exact .inl rfl|exact .inr rfl|assumption):PS X (.Assign [.Name y bp] e pos) (SK K ml (Z3 i x)):=(dH h hi c g hs f).imp λD σ H a=>by
 obtain⟨B,O,δ,o,S,q,k⟩:=a;unfold Z3 at q;obtain⟨⟨s,δ1⟩,h1,q⟩:=Aa.mp q;have q:(if i<δ1.length then some (Ou.nx (δ1.set i s)) else none)=some o:=q;split at q
 ·rename_i hl
  cases q;refine⟨B,O,δ,s,δ1,S,h1,λv H' B' j h' m=>?_⟩;obtain⟨l,b⟩:=h'.bind j d hl;exact k _ _ _ b
 ·cases q
noncomputable def HP(i j:Nat)(x y:VX):VS:=λδ=>(x δ).bind λp=>(y p.2).bind λq=>if i<q.2.length/\j<q.2.length then some (.nx ((q.2.set j q.1).set i p.1)) else none
theorem D8{i j:Nat}{y z:Ti}{n m:VX}{e d pt:Pos}{kt k2 pt2}(hc:X.calm=true)(G:X.N.Nodup)(hi:X.N[i]?=some y)(C:X.N[j]?=some z)(c:i≠j)(A:X.env.scope.names.lookup y=some .local)(x:X.env.scope.names.lookup z=some .local)(F:PE X a (TX K ml n))(hb:PE X b (TX K ml m))(hw:Fq [.Tuple [.Name y e,.Name z d] kt pt] (.Tuple [a,b] k2 pt2) X.env=pure (some [y,z]))(h:i∉ml:=by decide)(g:j∉ml:=by decide)(hs:Fp [.Tuple [.Name y e,.Name z d] kt pt] (.Tuple [a,b] k2 pt2) pos.line X.env=pure false:=by rfl)(E:Aj (a::[b]) X.env=(false,eval a X.env)::Aj [b] X.env:=by rfl)(l:Aj (b::[]) X.env=(false,eval b X.env)::Aj [] X.env:=by rfl):
  PS X (.Assign [.Tuple [.Name y e,.Name z d] kt pt] (.Tuple [a,b] k2 pt2) pos) (SK K ml (HP i j n m)):=(nM hc G hi C c A x (bC F (bC hb Y7 l) E) hw hs).imp λD σ H f=>by
 obtain⟨B,O,δ,o,S,q,k⟩:=f;unfold HP at q;obtain⟨⟨s,δ1⟩,h1,q⟩:=Aa.mp q;cases h2:m δ1 with
 |none=>simp[h2] at q
 |some p2=>
  obtain⟨w,δ2⟩:=p2;simp only[Aw,h2] at q;split at q
  ·rename_i hl
   cases q;refine⟨B,O,δ,s,δ1,S,h1,λv H1 M L t f1=>⟨M,O,δ1,w,δ2,L,h2,λu H2 R J r f2=>⟨v,u,rfl,?_⟩⟩⟩;obtain⟨Q,I⟩:=r.bind J g hl.2;obtain⟨P,p⟩:=(t.fr f2).bind I h (by rw[Bz];exact hl.1);rw[Ek _ _ (Dn c)] at p;exact k _ _ _ p
  ·cases q
abbrev VG:=cX->Ev->Option Ev
def TGV(K:As)(ml:List Nat)(h:VG):TG:=λv σ H Q=>∃B O δ d δ',Z4 K ml B O H σ δ/\aX K (Nn B O) H (Nn B O) v d/\h d δ=some δ'/\∀a b,Z4 K ml B b H a δ'->(∀i∈ml,a[i]?=σ[i]?)->Q a H
theorem PG.imp{t u:TG}(h:PG X e t)(k:∀v σ H Q,u v σ H Q->t v σ H Q):PG X e u:=λaa s σ H v w Q I r z=>h aa s σ H v w Q I r (k v σ H Q z)
theorem CD.imp{t u:AM}(h:CD X es t)(k:∀v σ H Q,u v σ H Q->t v σ H Q):CD X es u:=λaa s σ H v w Q I r z=>h aa s σ H v w Q I r (k v σ H Q z)
theorem PG.or{t u:TG}(h:PG X e t)(h':PG X e u):PG X e (λv σ H Q=>t v σ H Q∨u v σ H Q):=λaa s σ H v w Q I r z=>by
 rcases z with z|z
 ·exact h aa s σ H v w Q I r z
 ·exact h' aa s σ H v w Q I r z
noncomputable def gN(i:Nat):VG:=λd δ=>some (δ.set i (.va d))
theorem cG{i:Nat}{x:Ti}(g:X.N.Nodup)(hi:X.N[i]?=some x:=by rfl)(c:AB X.env.scope x:=by first|exact .inl rfl|exact .inr rfl)(b:i∉ml:=by decide)(f:X.fn x=true∨X.env.scope.names.lookup x=some .local:=by first|exact .inl rfl|exact .inr rfl|assumption):PG X (.Name x pos) (TGV K ml (gN i)):=
 (N4 g hi c f).imp λv σ H Q a=>by obtain⟨B,O,δ,d,δ',S,r,q,k⟩:=a;cases q;exact k _ _ (S.setVa b r) λj e=>Ca λ(z:i=j)=>b (z▸e)
abbrev VGs:=List cX->Ev->Option Ev
def TGVs(K:As)(ml:List Nat)(h:VGs):AM:=λvs σ H Q=>∃B O δ ds δ',Z4 K ml B O H σ δ/\b7 K (Nn B O) H vs ds/\h ds δ=some δ'/\∀a b,Z4 K ml B b H a δ'->(∀i∈ml,a[i]?=σ[i]?)->Q a H
noncomputable def YM:VGs:=λds δ=>match ds with
 |[]=>some δ
 |_=>none
noncomputable def bR(g:VG)(a:VGs):VGs:=λds δ=>match ds with
 |d::r=>(g d δ).bind λδ1=>a r δ1
 |[]=>none
theorem ZP:CD X [] (TGVs K ml YM):=DA.imp λvs σ H Q a=>by
 obtain⟨B,O,δ,ds,δ',S,r,q,k⟩:=a;cases r with
 |nil=>cases q;exact⟨rfl,k _ _ S λ_ _=>rfl⟩
 |cons _ _=>cases q
theorem b6{g:VG}{c:VGs}(h1:PG X e (TGV K ml g))(h2:CD X es (TGVs K ml c))(hs:(Tk (e::es) X.env).map (·.2)=assign e X.env::(Tk es X.env).map (·.2):=by rfl):CD X (e::es) (TGVs K ml (bR g c)):=
 (QY h1 h2 hs).imp λvs σ H Q b => by
  obtain⟨B,O,δ,ds,δ',S,r,q,k⟩:=b;cases r with
  |nil=>cases q
  | @cons v vs d ds h t=>
   have q:((g d δ).bind λδ1=>c ds δ1)=some δ':=q;obtain⟨δ1,h1,q⟩:=Aa.mp q;have p:=S.keepV (TK t);exact⟨v,vs,rfl,_,O,δ,d,δ1,p,h,h1,λj u f m=>⟨B,u,δ1,ds,δ',f.unkeep,U8 t.length λz n=>f.kep z (Cg _ n),q,λa s o l=>k a s o λi hi=>(l i hi).trans (m i hi)⟩⟩
noncomputable def NX(n:Nat)(a:VGs):VG:=λd δ=>(W8 d).bind λds=>if ds.length=n then a ds δ else none
theorem Y4{e:VGs}{k n:Nat}(j:X.K=K)(hc:X.calm=true)(h:CD X es (TGVs K ml e))(i:(Tk es X.env).length=n:=by rfl)(b:(Tk es X.env).findIdx? (·.1)=none:=by rfl):PG X (.Tuple es k pos) (TGV K ml (NX n e)):=
 ((Wi (K := K) j hc h i b).or (pA (K := K) j hc h i b)).imp λv σ H Q g => by
  obtain⟨B,O,δ,d,δ',S,r,q,k⟩:=g;unfold NX at q;obtain⟨ds,h1,q⟩:=Aa.mp q;have q:(if ds.length=n then e ds δ else none)=some δ':=q;split at q
  ·rename_i hl
   obtain⟨a,xs,rfl,sq,f⟩:=r.seq h1;have c:TGVs K ml e xs σ H Q:=⟨B,O,δ,ds,δ',S,f,q,k⟩;rcases sq with sq|sq
   ·exact .inr ⟨a,xs,rfl,sq,f.length.trans hl,c⟩
   ·exact .inl ⟨a,xs,rfl,sq,f.length.trans hl,c⟩
  ·cases q
noncomputable def MA(f:VF)(g:VG):VS:=λδ=>(f δ).bind λp=>(g p.1 p.2).map Ou.nx
theorem RW{tg:Tj}{gg:VG}(g:PE X e (TV K ml pu true true f))(c:PG X tg (TGV K ml gg))(hs:Fp [tg] e pos.line X.env=pure false:=by rfl)(hw:Fq [tg] e X.env=pure none:=by rfl)
  (h1:(Tk [tg] X.env).map (·.2)=[assign tg X.env]:=by rfl):PS X (.Assign [tg] e pos) (SK K ml (MA f gg)):=(JQ g c hs hw h1).imp λD σ H b=>by
 obtain⟨B,O,δ,o,S,q,k⟩:=b;unfold MA at q;obtain⟨⟨d,δ1⟩,h1,q⟩:=Aa.mp q;have q:(gg d δ1).map Ou.nx=some o:=q;obtain⟨δ2,h2,q⟩:=Ar.mp q;cases q;exact⟨B,O,δ,d,δ1,S,h1,λv H' R=>⟨B,O,δ1,d,δ2,R.sta,R.rep,h2,λa i h _=>k a H' i h⟩⟩
def MuV(K:As)(r:V->List V->Hp->VK->Prop)(m:List cX->List cX->Option (List cX)):Prop:=∀(H:Hp) (N:Tf->Prop) (l:Tf) (xs vs:List V) (ds es b:List cX) (Q:VK),
 H l=some (.lst xs)->N l->b7 K N H xs ds->b7 K N H vs es->m ds es=some b->(∀v a,b7 K N H a b->Q v (aN H l (.lst a)))->r (.ref l) vs H Q
noncomputable def WC(δ:Ev)(i:Nat):Option (List cX):=match δ[i]? with
 |some (.ow (.lst ds))=>some ds
 |_=>none
noncomputable def UE(i:Nat)(m:List cX->List cX->Option (List cX))(fs:MI):VS:=λδ=>(WC δ i).bind λ_=>(fs δ).bind λp=>(WC p.2 i).bind λds=>(m ds p.1).map λa=>.nx (p.2.set i (.ow (.lst a)))
theorem S9{i:Nat}{ds:List cX}(h:WC δ i=some ds):δ[i]?=some (.ow (.lst ds)):=by
 unfold WC at h;split at h
 ·cases h;assumption
 ·cases h
theorem OS{N:Tf->Prop}{l:Tf}{o:HO}{xs:List V}{ds ys:List cX}{zs:List V}(c:H l=some (.lst zs))(d:N l)(h:b7 K N H xs ds):b7 K N (aN H l o) xs ds:=
 h.fr (P:=λb=>b=l) (λb u q n=>by
  by_cases hb:b=l
  ·subst hb
   rw[c] at q;cases q;exact absurd (n rfl) λz=>z
  ·rw[bF hb]
   exact q) λa z=>z▸d
theorem X6{i:Nat}{x:Ti}{name:Ti}{ax ag c:Pos}{id:String}{r:V->List V->Hp->VK->Prop}{m:List cX->List cX->Option (List cX)}{fs:MI}(J:X.K=K)(slot:Slot "list" name id)(g:typeOf (.builtin id)=pure (.type "method_descriptor"))(G:MtR X id r)(n:MuV K r m)(F:PE X (.Name x c) (OI i))(I:PA X (e::es) (TAV K ml pu true fs))(Q:Hv (.Name x c) name X.env (eval (.Name x c) X.env)=eval (.Name x c) X.env:=by rfl)(M:((Fx ag (Aj (e::es) X.env)).all (λx=> !x.1)&&(Nv ag (Jm [] X.env)).all (λx=>x.1.isSome)&&decide ((e::es).length+([]:List Jn).length+(if([]:List Jn).isEmpty then 0 else 1)<30))=true:=by rfl)(T:(ax.endLine==ag.line)=true:=by rfl)(hs:Aj (e::es) X.env=(false,eval e X.env)::Aj es X.env:=by rfl)(U:(Fx ag (Aj es X.env)).any (·.1)=false:=by rfl)(h:Gm (.Call (.Attribute (.Name x c) name ax) (e::es) [] ag) none pos.line X.env=pure false:=by rfl):PS X (.Expr (.Call (.Attribute (.Name x c) name ax) (e::es) [] ag) pos) (SK K ml (UE i m fs)):=
 (DI (kBm (K := K) J Lg slot g G F I Q M T hs U) h).imp λD σ H j => by
  obtain⟨B,O,δ,o,S,q,k⟩:=j;unfold UE at q;obtain⟨P,L,q⟩:=Aa.mp q;have q:((fs δ).bind λp=>(WC p.2 i).bind λds=>(m ds p.1).map λa=>Ou.nx (p.2.set i (.ow (.lst a))))=some o:=q;obtain⟨⟨b,δ1⟩,h1,q⟩:=Aa.mp q;have q:((WC δ1 i).bind λds=>(m ds b).map λa=>Ou.nx (δ1.set i (.ow (.lst a))))=some o:=q;obtain⟨ds,h2,q⟩:=Aa.mp q;have q:((m ds b).map λa=>Ou.nx (δ1.set i (.ow (.lst a))))=some o:=q;cases t:m ds b with
  |none=>rw[t] at q;cases q
  |some a=>
   rw[t] at q;cases q;obtain⟨l,f,N,w⟩:=S.ow i _ (S9 L);cases w with
   |lst s _=>
    refine⟨.ref l,N,.inl ⟨rfl,_,WT.of s⟩,B,O,δ,b,δ1,S,h1,λvs H1 R=>?_⟩;obtain⟨W,u,_,A⟩:=R.sta.ow i _ (S9 h2);rw[f] at u;cases u;cases A with
    |lst d E=>
     refine n H1 (Nn B O) l _ vs ds b a _ d (.inr ⟨i,f⟩) E R.rep t λv y C=>?_;exact k σ _ O (R.sta.wrote f (λz=>z) (.lst bZ (OS (ys:=[]) d (.inr ⟨i,f⟩) C)))
noncomputable def SD:List cX->List cX->Option (List cX)
 |ds,[d]=>if ds.length<16777216 then some (ds++[d]) else none
 |_,_=>none
theorem XR:MuV K DO SD:=by
 intro H N l xs vs ds es f Q hl g a b h k;cases b with
 |nil=>cases h
 | @cons v vs d es e t=>
  cases t with
  |cons _ _=>cases h
  |nil=>
   simp only[SD] at h;split at h
   ·rename_i c
    cases h;exact⟨l,xs,v,rfl,rfl,hl,by rw[a.length,Di];exact c,k _ _ (a.snoc e)⟩
   ·cases h
end
section
variable{X:Cx}{K:As}{ml:List Nat}{e a b c:Tj}{es:List Tj}{pa ta ia pb tb ib pc tc ic pu bt bi ps bs:Bool}{fa fb fc f:VF}{B B':Bs}{O:Nat->Option Tf}{H H1 H':Hp}{σ:St}{δ δ':Ev}{v:V}{d:cX}{p:Tf}{pos:Pos}{st:Tt}{rest:List Tt}{g g':VS}
noncomputable def again(a:VS):Ou->Option Ou
 |.nx δ=>a δ
 |.ct δ=>a δ
 |.bk δ=>some (.nx δ)
 |.rt d δ=>some (.rt d δ)
noncomputable def aI(t:VB)(g:VS):Nat->VS
 |0=>λ_=>none
 |n+1=>λδ=>(t δ).bind λp=>if p.1=true then(g p.2).bind (again (aI t g n)) else some (.nx p.2)
theorem UK{t:VB}:∀{n:Nat} {δ:Ev} {o:Ou},aI t g n δ=some o->aI t g (n+1) δ=some o
 |0,_,_,h=>by cases h
 | n + 1,δ,o,h => by
  dsimp only[aI] at h;show((t δ).bind λp=>if p.1=true then(g p.2).bind (again (aI t g (n+1))) else some (.nx p.2))=some o;cases h1:t δ with
  |none=>rw[h1] at h;cases h
  |some p=>
   rw[h1] at h;obtain⟨a,δ1⟩:=p;cases a with
   |false=>exact h
   |true=>
    have h:(g δ1).bind (again (aI t g n))=some o:=h;show(g δ1).bind (again (aI t g (n+1)))=some o;cases h2:g δ1 with
    |none=>rw[h2] at h;cases h
    |some z=>
     rw[h2] at h;cases z with
     |nx δ2=>exact UK (n:=n) h
     |ct δ2=>exact UK (n:=n) h
     |bk δ2=>exact h
     |rt d δ2=>exact h
theorem RY{t:VB}{n:Nat}{o:Ou}(h:aI t g n δ=some o):∀k,aI t g (n+k) δ=some o
 |0=>h
 |k+1=>UK (RY h k)
theorem F0{t:VB}{n m:Nat}{o o':Ou}(h:aI t g n δ=some o)(h':aI t g m δ=some o'):o=o':=by have b:=RY h m;have a:=RY h' n;rw[Pg] at a;rw[b] at a;exact Bw a
open Classical in
noncomputable def RV(t:VB)(g:VS):VS:=λδ=>if h:∃o n,aI t g n δ=some o then some (Classical.choose h) else none
theorem LO{t:VB}{n:Nat}{o:Ou}(h:aI t g n δ=some o):RV t g δ=some o:=by have a:∃o n,aI t g n δ=some o:=⟨o,n,h⟩;unfold RV;rw[dif_pos a];obtain⟨m,b⟩:=Ml a;rw[F0 b h]
theorem FI{t:VB}{o:Ou}(h:RV t g δ=some o):∃n,aI t g n δ=some o:=by
 unfold RV at h;split at h
 ·rename_i a
  cases h;exact Ml a
 ·cases h
theorem HZ{body:List Tt}{t:VB}(l:Qg (Th X.prog X.w) X.A X.env X.xe)(hc:PT X c (TB K ml pc t))(hb:OK X body (SK K ml g)):PS X (.While c body [] pos) (SK K ml (RV t g)):=(jR l hc hb).imp λD σ H h=>by
 obtain⟨B,O,δ,o,S,q,k⟩:=h;obtain⟨n,p⟩:=FI q;refine⟨λm σ H=>∃O δ,Z4 K ml B O H σ δ/\aI t g m δ=some o,⟨n,O,δ,S,p⟩,?_⟩;rintro m σ H ⟨O,δ,S,b⟩;cases m with
 |zero=>cases b
 |succ m=>
  dsimp only[aI] at b;obtain⟨⟨i,δ1⟩,h1,b⟩:=Aa.mp b;refine⟨B,O,δ,i,δ1,S,h1,λH1 j=>?_⟩;cases i with
  |false=>
   have b:some (Ou.nx δ1)=some o:=b;cases b;exact OC (k σ H1 O j.sta)
  |true=>
   have b:(g δ1).bind (again (aI t g m))=some o:=b;obtain⟨z,h2,b⟩:=Aa.mp b;refine OD ⟨λa H'=>∃O δ,Z4 K ml B O H' a δ/\aI t g m δ=some o,λa H' w=>⟨m,Nat.lt_succ_self _,w⟩,B,O,δ1,z,j.sta,h2,?_⟩;cases z with
   |nx δ2=>exact λa H' f e=>⟨f,δ2,e,b⟩
   |ct δ2=>exact λa H' f e=>⟨f,δ2,e,b⟩
   |bk δ2=>cases b;exact λa H' f e=>k a H' f e
   |rt d δ2=>cases b;exact λv a H' f e r=>k v a H' f e r
def Walk(K:As)(J:It)(a:List (V×cX))(ds:List cX):Prop:=∀(N:Tf->Prop) (H:Hp),(∀p∈a,aX K N H N p.1 p.2)->
 (∀(i:Nat) (d:cX),ds[i]?=some d->J.go i H/\∀x H',J.yld i H x H'->aP H H'/\aX K N H' N x d)/\J.stop ds.length H
abbrev VI:=Ev->Option (List cX×Ev)
def AN(K:As)(ml:List Nat)(pu:Bool)(f:VI):TI:=λσ H R=>∃B O δ ds δ',Z4 K ml B O H σ δ/\f δ=some (ds,δ')∧
 ∀J a H',Z4 K ml {B with kp:=a++B.kp} O H' σ δ'->Fr (OA O) H H'->(pu=true->aP H H')->Walk K J a ds->R J H'
theorem PI.imp{tg:Tj}{t u:TI}(h:PI X tg e t)(k:∀σ H R,u σ H R->t σ H R):PI X tg e u:=λaa s σ H R I w=>h aa s σ H R I (k σ H R w)
theorem PI.or{tg:Tj}{t u:TI}(h:PI X tg e t)(h':PI X tg e u):PI X tg e (λσ H R=>t σ H R∨u σ H R):=λaa s σ H R I z=>by
 rcases z with z|z
 ·exact h aa s σ H R I z
 ·exact h' aa s σ H R I z
noncomputable def U1(f:VF):VI:=λδ=>(f δ).bind λp=>(W8 p.1).map λds=>(ds,p.2)
theorem pG{a:Tf}{ds:List cX}:Walk K (Itl K a) [(.ref a,.lst ds)] ds:=by
 intro N H h;have r:=h _ (Bb.mpr rfl);have b:∀xs,WT K H a xs->b7 K N H xs ds->(∀(i:Nat) (d:cX),ds[i]?=some d->(Itl K a).go i H/\∀x H',(Itl K a).yld i H x H'->aP H H'/\aX K N H' N x d)/\(Itl K a).stop ds.length H:=λxs sq r=>by refine⟨λi d e=>?_,xs,sq,by rw[r.length];exact Ak _⟩;obtain⟨x,c,f⟩:=r.get e;refine⟨⟨xs,x,sq,c⟩,λy H' g=>?_⟩;obtain⟨k,j⟩:=g;subst k;have:=j xs sq;rw[c] at this;cases this;exact⟨aP.refl _,f⟩
 cases r with
 |lst q n r=>exact b _ (WT.of q) r
 |fzl q r=>exact b _ q.sq r
theorem oC{a:Tf}{ds:List cX}:Walk K (Itt K a) [(.ref a,.tup ds)] ds:=by
 intro N H h;have r:=h _ (Bb.mpr rfl);cases r with
 |tup sq r=>
  refine⟨λi d e=>?_,_,sq,by rw[r.length];exact Ak _⟩;obtain⟨x,b,c⟩:=r.get e;refine⟨⟨_,x,sq,b⟩,λy H' f=>?_⟩;obtain⟨j,g⟩:=f;subst j;have:=g _ sq;rw[b] at this;cases this;exact⟨aP.refl _,c⟩
theorem WM{tg:Tj}(i:X.K=K)(h:PE X e (TV K ml pu true true f)):PI X tg e (AN K ml pu (U1 f)):=((Vw (K:=K) i h).or (Xb (K:=K) i h)).imp λσ H R c=>by
 obtain⟨B,O,δ,ds,δ',S,q,k⟩:=c;unfold U1 at q;obtain⟨⟨x,δ1⟩,h1,q⟩:=Aa.mp q;cases x with
 |lst g=>
  cases q;refine .inl ⟨B,O,δ,_,δ1,S,h1,λv H1 b=>?_⟩;obtain⟨a,xs,rfl,sq,r⟩:=b.rep.seq rfl;refine⟨a,rfl,?_,k _ [(.ref a,.lst ds)] H1 (b.sta.keepV λp d=>by rw[Bb.mp d];exact b.rep) b.frm b.pur pG⟩;have r:=b.rep;cases r with
  |lst q _ _=>exact⟨_,WT.of q⟩
  |fzl q _=>exact⟨_,q.sq⟩
 |tup g=>
  cases q;refine .inr ⟨B,O,δ,_,δ1,S,h1,λv H1 b=>?_⟩;obtain⟨a,xs,rfl,sq,r⟩:=b.rep.seq rfl;refine⟨a,rfl,?_,k _ [(.ref a,.tup ds)] H1 (b.sta.keepV λp d=>by rw[Bb.mp d];exact b.rep) b.frm b.pur oC⟩;have r:=b.rep;cases r with
  |tup q _=>exact⟨_,q⟩
 |_=>cases q
noncomputable def aG(lo:Int)(n:Nat):List cX:=(Au n).map λk:Nat=>.int (lo+k)
noncomputable def iR1(f:VF):VI:=λδ=>(f δ).bind λp=>match p.1 with
 |.int j=>if -4611686018427387904<=j/\j<4611686018427387904 then some (aG 0 j.toNat,p.2) else none
 |_=>none
noncomputable def iR2(f g:VF):VI:=λδ=>(f δ).bind λp=>(g p.2).bind λq=>match p.1,q.1 with
 |.int i,.int j=>if(-4611686018427387904<=i/\i<4611686018427387904)/\ -4611686018427387904<=j/\j<4611686018427387904 then some (aG i (j - i).toNat,q.2) else none
 |_,_=>none
theorem Xz{lo:Int}{n i:Nat}{d:cX}(h:(aG lo n)[i]?=some d):i<n/\d=.int (lo+i):=by unfold aG at h;rw[Cb] at h;obtain⟨k,h1,h⟩:=Ar.mp h;cases h;have:=Ad.mp h1;obtain⟨hl,e⟩:=this;rw[Ha] at hl;rw[List.getElem_range] at e;subst e;exact⟨hl,rfl⟩
theorem IB{lo:Int}{n:Nat}:Walk K (Itr lo n) [] (aG lo n):=by intro N H _;refine⟨λi d e=>?_,by simp[Itr,aG]⟩;obtain⟨hl,rfl⟩:=Xz e;refine⟨hl,λx H' a=>?_⟩;obtain⟨rfl,rfl⟩:=a;exact⟨aP.refl _,.int _⟩
theorem WS{tg:Tj}{p':Pos}(i:Gl X "range")(g:X.mg "range"=none)(h:PE X a (TV K ml pa ta ia fa))(hs:Aj [a] X.env=[(false,eval a X.env)]:=by rfl)(d:Aj (a::[]) X.env=(false,eval a X.env)::Aj [] X.env:=by rfl):
  PI X tg (.Call (.Name "range" p') [a] [] pos) (AN K ml pa (iR1 fa)):=(BL i g (bC h Y7 d) hs).imp λσ H R e=>by
 obtain⟨B,O,δ,ds,δ',S,q,k⟩:=e;unfold iR1 at q;obtain⟨⟨x,δ1⟩,h1,q⟩:=Aa.mp q;cases x with
 |int j=>
  have q:(if -4611686018427387904<=j/\j<4611686018427387904 then some (aG 0 j.toNat,δ1) else none)=some (ds,δ'):=q;split at q
  ·rename_i f
   cases q;have b:(2:Int) ^ 62=4611686018427387904:=by decide
   refine⟨B,O,δ,_,_,S,h1,λv H1 c=>⟨j,?_,by rw[b];exact f.1,by rw[b];exact f.2,k _ [] H1 (c.sta.keepV λ_ z=>nomatch z) c.frm c.pur IB⟩⟩;have r:=c.rep;cases r;rfl
  ·cases q
 |_=>cases q
theorem LY{tg:Tj}{p':Pos}(s:Gl X "range")(r:X.mg "range"=none)(h:PE X a (TV K ml pa ta ia fa))(h':PE X b (TV K ml pb tb ib fb))(hs:Aj [a,b] X.env=[(false,eval a X.env),(false,eval b X.env)]:=by rfl)(f:Aj [b] X.env=[(false,eval b X.env)]:=by rfl)(t:Aj (a::[b]) X.env=(false,eval a X.env)::Aj [b] X.env:=by rfl)(l:Aj (b::[]) X.env=(false,eval b X.env)::Aj [] X.env:=by rfl):
  PI X tg (.Call (.Name "range" p') [a,b] [] pos) (AN K ml (pa&&pb) (iR2 fa fb)):=(BM s r (bC h (bC h' Y7 l) t) hs f).imp λσ H R g=>by
 obtain⟨B,O,δ,ds,δ',S,q,k⟩:=g;unfold iR2 at q;obtain⟨⟨x,δ1⟩,h1,q⟩:=Aa.mp q;cases h2:fb δ1 with
 |none=>simp[h2] at q
 |some p2=>
  obtain⟨y,δ2⟩:=p2;simp only[Aw,h2] at q;cases x with
  |int i=>
   cases y with
   |int j=>
    have q:(if(-4611686018427387904<=i/\i<4611686018427387904)/\ -4611686018427387904<=j/\j<4611686018427387904 then some (aG i (j - i).toNat,δ2) else none)=some (ds,δ'):=q;split at q
    ·rename_i c
     cases q;have e:(2:Int) ^ 62=4611686018427387904:=by decide
     refine⟨B,O,δ,_,_,S,h1,λv H1 d=>⟨B,O,δ1,_,_,d.sta,h2,λu H2 R2=>⟨i,j,?_,by rw[e];exact⟨c.1.1,c.1.2,c.2.1,c.2.2⟩,k _ [] H2 (R2.sta.keepV λ_ z=>nomatch z) (d.frm.trans R2.frm) (λz=>by obtain⟨n,m⟩:=(Ag _ _).mp z;exact(d.pur n).trans (R2.pur m)) IB⟩⟩⟩
     have p:=d.rep;have o:=R2.rep;cases p;cases o;rfl
    ·cases q
   |_=>cases q
  |_=>cases q
noncomputable def WY(gg:VG)(s:VS):List cX->VS
 |[]=>λδ=>some (.nx δ)
 |d::r=>λδ=>(gg d δ).bind λδ1=>(s δ1).bind (again (WY gg s r))
noncomputable def OH(a:VI)(gg:VG)(s:VS):VS:=λδ=>(a δ).bind λp=>WY gg s p.1 p.2
theorem U9{tg iter:Tj}{body:List Tt}{t:VI}{gg:VG}(s:Qg (Th X.prog X.w) X.A X.env X.xe)(hc:X.calm=true)(hi:PI X tg iter (AN K ml pu t))(L:PG X tg (TGV K ml gg))(hb:OK X body (SK K ml g))
  (hs:∀x,To iter X.env x=pure x:=by intro _;rfl):PS X (.For tg iter body [] pos) (SK K ml (OH t gg g)):=(dE s hc hi L hb hs).imp λD σ H n=>by
 obtain⟨B,O,δ,o,S,q,k⟩:=n;unfold OH at q;obtain⟨⟨ds,δ1⟩,h1,q⟩:=Aa.mp q;have q:WY gg g ds δ1=some o:=q;refine⟨B,O,δ,ds,δ1,S,h1,λJ l H1 P _ _ C=>?_⟩;refine⟨λi m σ H=>m=ds.length - i/\i<=ds.length/\∃O δ,Z4 K ml {B with kp:=l++B.kp} O H σ δ/\WY gg g (ds.drop i) δ=some o,⟨ds.length,rfl,Cy _,O,δ1,P,q⟩,?_⟩;rintro i m σ H ⟨rfl,hi,O,δ,S,b⟩;have w:=C (Nn B O) H λp s=>S.kep p (Cg _ s);by_cases f:i<ds.length
 ·obtain ⟨go,y⟩ := w.1 i ds[i] (by simp [f])
  rw[Cq f] at b;refine .inr ⟨go,λa H'=>∃O δ,Z4 K ml {B with kp:=l++B.kp} O H' a δ/\WY gg g (ds.drop (i+1)) δ=some o,λa H' E=>⟨ds.length - (i+1),by lia,rfl,f,E⟩,λx H' I=>?_⟩;obtain⟨F,G⟩:=y x H' I;have b:((gg ds[i] δ).bind λδ1=>(g δ1).bind (again (WY gg g (ds.drop (i+1)))))=some o:=b;obtain⟨δ2,h2,b⟩:=Aa.mp b;have b:(g δ2).bind (again (WY gg g (ds.drop (i+1))))=some o:=b;refine⟨_,O,δ,ds[i],δ2,S.same F,G,h2,λu Q N _=>?_⟩;obtain⟨z,M,b⟩:=Aa.mp b;refine⟨_,Q,δ2,z,N,M,?_⟩;cases z with
  |nx c=>exact λa H' j h=>⟨j,c,h,b⟩
  |ct c=>exact λa H' j h=>⟨j,c,h,b⟩
  |bk c=>cases b;exact λa H' j h=>k a H' j h.unkeep
  |rt d c=>cases b;exact λv a H' j h r=>k v a H' j h.unkeep r
 ·have e : i = ds.length := by lia
  subst e;rw[Ds] at b;cases b;exact .inl ⟨w.2,k σ H O S.unkeep⟩
end
section
variable{X:Cx}{K:As}{ml:List Nat}{e a b c:Tj}{es:List Tj}{pa ta ia pb tb ib pc tc ic pu bt bi ps bs:Bool}{fa fb fc f:VF}{B B':Bs}{O:Nat->Option Tf}{H H1 H':Hp}{σ:St}{δ δ':Ev}{v:V}{d:cX}{p:Tf}{pos:Pos}{st:Tt}{rest:List Tt}{g g':VS}
theorem Z4.call{P:Tf->Prop}(S:Z4 K ml B O H σ δ)(hl:δ'.length=δ.length)(h:∀i:Nat,(δ'[i]?=δ[i]? /\∀a,O i=some a->¬P a)∨∃a d',O i=some a/\δ'[i]?=some (Sl.ow d')/\NR K (Nn B O) H' a d')
  (f:Fr P H H') (j:∀a,P a->OA O a):Z4 K ml B O H' σ δ' where
 len:=by rw[hl,S.len]
 va:=λi d e=>by
  rcases h i with⟨g,_⟩|⟨a,d',_,g,_⟩
  ·rw[g] at e
   obtain⟨v,c,r⟩:=S.va i d e;exact⟨v,c,r.fr f (λa z=>.inr (j a z)) λa z=>.inr (j a z)⟩
  ·rw[g] at e
   cases e
 ow:=λi d e=>by
  rcases h i with⟨g,n⟩|⟨a,d',c,g,w⟩
  ·rw[g] at e
   obtain⟨a,c,k,w⟩:=S.ow i d e;exact⟨a,c,k,w.fr f (λa z=>.inr (j a z)) (n a c)⟩
  ·rw[g] at e
   cases e;obtain⟨l,q0⟩:=S.dom i a c;obtain⟨t,k,s,_⟩:=S.ow i l q0;rw[c] at k;cases k;exact⟨a,c,s,w⟩
 dom:=λi a e=>by
  rcases h i with⟨g,n⟩|⟨a,d',c,g,w⟩
  ·obtain⟨l,q0⟩:=S.dom i a e
   exact⟨l,g.trans q0⟩
  ·exact⟨d',g⟩
 inj:=S.inj
 old:=S.old
 zin:=λa h'=>by
  obtain⟨o,q⟩:=S.zin a h';exact⟨o,f a o q λz=>by obtain⟨i,e⟩:=j a z;exact absurd h' (S.old i a e).1⟩
 frm:=λb o q n=>by
  have h1:=S.frm b o q n;refine f b o h1 λz=>?_;obtain⟨i,e⟩:=j b z;rcases(S.old i b e).2 with w|w
  ·exact n w
  ·rw[q] at w;cases w
 par:=S.par
 pin:=λa h'=>by
  obtain⟨o,q⟩:=S.pin a h';by_cases z:P a
  ·obtain⟨i,e⟩:=j a z
   rcases h i with⟨_,n⟩|⟨t,d',c,g,w⟩
   ·exact absurd z (n a e)
   ·rw[e] at c
    cases c;obtain⟨o,q,_⟩:=w.soft;exact⟨o,q⟩
  ·exact⟨o,f a o q λy=>absurd y z⟩
 kep:=λp m=>(S.kep p m).fr f (λa z=>.inr (j a z)) λa z=>.inr (j a z)
abbrev bQ:=List cX->Option (cX×List cX)
def QC(ml:List Nat)(vs:List V):Tf->Prop:=λa=>∃i∈ml,vs[i]?=some (.ref a)
def Zp(Z:Tf->Prop)(ml:List Nat)(vs:List V):Tf->Prop:=λa=>Z a∨QC ml vs a
structure Vn(K:As)(ml:List Nat)(Z:Tf->Prop)(H:Hp)(vs:List V)(ds:List cX):Prop where
 len:vs.length=ds.length
 mem:∀i∈ml,i<ds.length
 va:∀(i:Nat) (d:cX),i∉ml->ds[i]?=some d->∃v,vs[i]?=some v/\aX K (Zp Z ml vs) H (Zp Z ml vs) v d
 ow:∀(i:Nat) (d:cX),i∈ml->ds[i]?=some d->∃a,vs[i]?=some (.ref a)/\NR K (Zp Z ml vs) H a d/\¬Z a
 inj:∀(i j:Nat) (a:Tf),i∈ml->j∈ml->vs[i]?=some (.ref a)->vs[j]?=some (.ref a)->i=j
 zin:∀a,Z a->∃o,H a=some o
def spV(K:As)(ml:List Nat)(n:Nat)(F:bQ):Sp:=λvs H Q _=>∃(Z:Tf->Prop) (ds:List cX) (r:cX) (os:List cX),ds.length=n/\Vn K ml Z H vs ds/\F ds=some (r,os)∧
 ∀v H',Fr (QC ml vs) H H'->(∀(k i:Nat) (a:Tf) (o:cX),ml[k]?=some i->vs[i]?=some (.ref a)->os[k]?=some o->NR K (Zp Z ml vs) H' a o)->aX K (Zp Z ml vs) H' (Zp Z ml vs) v r->Q v H'
noncomputable def cF(ml:List Nat)(n:Nat)(ds:List cX):Ev:=ds.mapIdx (λi d=>if i∈ml then Sl.ow d else Sl.va d)++Bi (n - ds.length) Sl.no
noncomputable def UC(ml:List Nat)(δ:Ev):Option (List cX):=ml.mapM λ(i:Nat)=>match(δ[i]? :Option Sl) with
 |some (Sl.ow d)=>some d
 |_=>none
noncomputable def aH(n:Nat)(ml:List Nat)(g:VS):bQ:=λds=>(g (cF ml n ds)).bind λo=>match o with
 |.rt d δ=>(UC ml δ).map λos=>(d,os)
 |.nx δ=>(UC ml δ).map λos=>(.non,os)
 |_=>none
theorem HC:∀{ml:List Nat} {δ:Ev} {os:List cX},UC ml δ=some os->∀(k i:Nat) (o:cX),ml[k]?=some i->os[k]?=some o->δ[i]?=some (.ow o)
 |[],_,_,h,k,i,o,a,b=>by simp at a
 | j :: ml,δ,os,h,k,i,o,a,b => by
  unfold UC at h;rw[Rg] at h;split at h
  ·rename_i d e
   cases h2:(ml.mapM λ(i:Nat)=>match(δ[i]? :Option Sl) with
    |some (Sl.ow d)=>some d
    |_=>none:Option (List cX)) with
   |none=>rw[h2] at h;cases h
   |some c=>
    rw[h2] at h;cases h;cases k with
    |zero=>
     cases a;cases b;exact e
    |succ k=>exact HC (ml:=ml) h2 k i o (by simpa using a) (by simpa using b)
  ·cases h
theorem BY{N:List Ti}{Z:Tf->Prop}{vs:List V}{ds:List cX}(A:Vn K ml Z H vs ds)(y:ds.length<=N.length):∃g:Nat->Option Tf,(∀i a,g i=some a↔i∈ml/\vs[i]?=some (.ref a))/\Z4 K ml ⟨Z,QC ml vs,H,g,[]⟩ g H (start N vs) (cF ml N.length ds):=by
 classical
 let g:Nat->Option Tf:=λi=>if i∈ml then(match vs[i]? with
  |some (.ref a)=>some a
  |_=>none) else none
 have c:∀i a,g i=some a↔i∈ml/\vs[i]?=some (.ref a):=λi a=>by
  show(if i∈ml then(match vs[i]? with
   |some (.ref a)=>some a
   |_=>none) else none)=some a↔_
  by_cases hi:i∈ml
  ·rw[if_pos hi]
   constructor
   ·intro h
    split at h
    ·rename_i b hb
     cases h;exact⟨hi,hb⟩
    ·cases h
   ·rintro ⟨_,h⟩
    rw[h]
  ·rw[if_neg hi]
   exact⟨(λh=>nomatch h),λh=>absurd h.1 hi⟩
 have m:∀a,Nn ⟨Z,QC ml vs,H,g,[]⟩ g a->Zp Z ml vs a:=λa h=>by
  rcases h with h|⟨i,h⟩
  ·exact .inl h
  ·exact .inr ⟨i,(c i a).mp h⟩
 have t:∀(i:Nat) (s:Sl),(cF ml N.length ds)[i]?=some s->(∃d,ds[i]?=some d/\s=if i∈ml then .ow d else .va d)∨s=.no:=λi s h=>by
  unfold cF at h;by_cases hi:i<ds.length
  ·rw [Af (by simpa using hi),Mt] at h
   cases q:ds[i]? with
   |none=>rw[q] at h;cases h
   |some d=>rw[q] at h;cases h;exact .inl ⟨d,rfl,rfl⟩
  ·rw [Bj (by simpa using hi),Db] at h
   split at h
   ·cases h;exact .inr rfl
   ·cases h
 have k:∀(i:Nat) (v:V),vs[i]?=some v->(start N vs)[i]?=some (some v):=λi v h=>by unfold start;have hi:i<vs.length:=(Ad.mp h).1;rw[Af (by simpa using hi),Cb,h];rfl
 refine⟨g,c,?_,λi d q=>?_,λi d q=>?_,λi a q=>?_,λi j a q1 q2=>?_,λi a q=>?_,A.zin,Fr.refl _ _,⟨λi a q=>((c i a).mp q).1,λi _=>rfl⟩,λa q=>?_,λp u=>nomatch u⟩
 ·unfold start cF
  have:=A.len;simp;lia
 ·rcases t i _ q with⟨e,h1,h2⟩|h
  ·by_cases hi:i∈ml
   ·rw[if_pos hi] at h2;cases h2
   ·rw[if_neg hi] at h2
    cases h2;obtain⟨v,f,r⟩:=A.va i d hi h1;exact⟨v,k i v f,r.mono m m⟩
  ·cases h
 ·rcases t i _ q with⟨e,h1,h2⟩|h
  ·by_cases hi:i∈ml
   ·rw[if_pos hi] at h2
    cases h2;obtain⟨a,f,w,_⟩:=A.ow i d hi h1;exact⟨a,(c i a).mpr ⟨hi,f⟩,k i _ f,w.mono m⟩
   ·rw[if_neg hi] at h2;cases h2
  ·cases h
 ·obtain⟨hi,f⟩:=(c i a).mp q
  have hl:=A.mem i hi;refine⟨ds[i],?_⟩;unfold cF;rw[Af (by simpa using hl),Mt];simp[hl,hi]
 ·exact A.inj i j a ((c i a).mp q1).1 ((c j a).mp q2).1 ((c i a).mp q1).2 ((c j a).mp q2).2
 ·obtain⟨hi,f⟩:=(c i a).mp q
  refine⟨λz=>?_,.inl ⟨i,hi,f⟩⟩;obtain⟨x,l,_,n⟩:=A.ow i (ds[i]'(A.mem i hi)) hi (by simp[A.mem i hi]);rw[f] at l;cases l;exact n z
 ·obtain⟨i,hi,f⟩:=q
  obtain⟨x,l,w,n⟩:=A.ow i (ds[i]'(A.mem i hi)) hi (by simp[A.mem i hi]);rw[f] at l;cases l;obtain⟨o,q,_⟩:=w.soft;exact⟨o,q⟩
theorem Vo{N ps:List Ti}{vs:List V}{Q:VK}{E:XK}(u:ps.length<=N.length)(h:spV K ml ps.length (aH N.length ml g) vs H Q E):SK K ml g {nx:=λ_ H'=>Q .non H',rt:=Q} (start N vs) H:=by
 obtain⟨Z,ds,r,os,D,AV,c,k⟩:=h;obtain⟨q,n,L⟩:=BY (N:=N) AV (by rw[D];exact u);unfold aH at c;obtain⟨o,h1,c⟩:=Aa.mp c;refine⟨_,q,_,o,L,h1,?_⟩;have s:∀(δ':Ev) (v:V) (f:St) (H':Hp) (p:Nat->Option Tf),UC ml δ'=some os->Z4 K ml ⟨Z,QC ml vs,H,q,[]⟩ p H' f δ'->aX K (rz ⟨Z,QC ml vs,H,q,[]⟩) H' (rz ⟨Z,QC ml vs,H,q,[]⟩) v r->Q v H':=λδ' v f H' p C l m=>by
  have x:∀a,Zp Z ml vs a->rz ⟨Z,QC ml vs,H,q,[]⟩ a:=λa h=>by
   rcases h with h|⟨i,hi,e⟩
   ·exact .inl h
   ·exact .inr ⟨i,(n i a).mpr ⟨hi,e⟩⟩
  refine k v H' l.frm (λB i a o A J I=>?_) (m.mono x x);have F:=HC C B i o A I;obtain⟨M,z,_,w⟩:=l.ow i o F;have hi:i∈ml:=Bv A;have:=(l.par.2 i hi).trans ((n i a).mpr ⟨hi,J⟩);rw[this] at z;cases z;refine w.mono λb hb=>?_;rcases hb with hb|⟨j,y,G⟩
  ·exact .inl hb
  ·exact .inr ⟨j,(l.par.2 j y).trans ((n j b).mpr ⟨y,G⟩)⟩
 cases o with
 |rt d δ'=>
  have c:(UC ml δ').map (λos=>(d,os))=some (r,os):=c;cases h2:UC ml δ' with
  |none=>rw[h2] at c;cases c
  |some t=>
   rw[h2] at c;cases c;exact λv f H' p l m=>s δ' v f H' p h2 l m
 |nx δ'=>
  have c:(UC ml δ').map (λos=>(cX.non,os))=some (r,os):=c;cases h2:UC ml δ' with
  |none=>rw[h2] at c;cases c
  |some t=>
   rw[h2] at c;cases c;exact λf H' p l=>s δ' .non f H' p h2 l .non
 |bk δ'=>cases c
 |ct δ'=>cases c
theorem XW.okV{P:Br}{w:Tl}{mg:Ti->Option Te}{base:Tp}{x a:Ti}{st:Tt}{f:Tf}{fd:Fk}{N ps:List Ti}{k:Nat}(F:XW K x a st f fd)(S:cI N ps (cQ st))(c:ps.length<=N.length)(i:∀(b:Te) (A:Df) (outer:List Env) (s:Ah) (H:Hp) (E:XK),XX k (A.deeper (Ks a (cQ st) s.heap.objs.size f b))->OK (IZ CX0 P w K mg base N a (cQ st) f b A outer s H E).nox (ZY st) (SK K ml g)):aU P w K mg base CX0 (k+1) f fd ps (spV K ml ps.length (aH N.length ml g)):=by refine F.ok S (λvs H Q E h=>?_) (λb A outer s H vs Q E d h=>⟨_,i b A outer s H E d,Vo c h⟩);obtain⟨Z,ds,r,os,e,AV,_⟩:=h;rw[AV.len,e]
inductive AV where
 |d (d:cX)|o (j:Nat)
inductive UM(K:As)(N:Tf->Prop)(H:Hp)(σ:St):List V->List AV->Prop
 |nil:UM K N H σ [] []
 |d {v:V} {vs:List V} {d:cX} {as:List AV}:aX K N H N v d->UM K N H σ vs as->UM K N H σ (v::vs) (.d d::as)
 |o {v:V} {vs:List V} {j:Nat} {as:List AV}:σ[j]?=some (some v)->UM K N H σ vs as->UM K N H σ (v::vs) (.o j::as)
abbrev IJ:=Ev->Option (List AV×Ev)
structure ResG(K:As)(ml:List Nat)(B:Bs)(O:Nat->Option Tf)(H:Hp)(σ:St)(pu:Bool)(H':Hp)(δ':Ev)(vs:List V)(as:List AV):Prop where
 sta:Z4 K ml B O H' σ δ'
 frm:Fr (OA O) H H'
 pur:pu=true->aP H H'
 rep:UM K (Nn B O) H' σ vs as
def TAG(K:As)(ml:List Nat)(pu:Bool)(f:IJ):TA:=λσ H Q=>∃B O δ as δ',Z4 K ml B O H σ δ/\f δ=some (as,δ')/\∀vs H',ResG K ml B O H σ pu H' δ' vs as->Q vs H'
noncomputable def bY:IJ:=λδ=>some ([],δ)
noncomputable def aE(f:VF)(fs:IJ):IJ:=λδ=>(f δ).bind λp=>(fs p.2).map λq=>(.d p.1::q.1,q.2)
noncomputable def slot(δ:Ev)(j:Nat):Option cX:=match δ[j]? with
 |some (.va d)=>some d
 |some (.ow d)=>some d
 |_=>none
noncomputable def aO(j:Nat)(fs:IJ):IJ:=λδ=>(slot δ j).bind λ_=>(fs δ).map λq=>(.o j::q.1,q.2)
theorem cP:PA X [] (TAG K ml true bY):=Y7.imp λσ H Q a=>by obtain⟨B,O,δ,d,δ',S,q,k⟩:=a;cases q;exact k [] H ⟨S,Fr.refl _ _,λ_=>aP.refl _,.nil⟩
theorem cR{fs:IJ}(h:PE X a (TV K ml pa true true fa))(g:PA X es (TAG K ml ps fs))(hs:Aj (a::es) X.env=(false,eval a X.env)::Aj es X.env:=by rfl):PA X (a::es) (TAG K ml (pa&&ps) (aE fa fs)):=(bC h g hs).imp λσ H Q c=>by obtain⟨B,O,δ,as,δ2,S,q,k⟩:=c;unfold aE at q;obtain⟨⟨x,δ1⟩,h1,q⟩:=Aa.mp q;have q:((fs δ1).map λq=>(AV.d x::q.1,q.2))=some (as,δ2):=q;obtain⟨p2,h2,q⟩:=Ar.mp q;cases q;refine⟨B,O,δ,x,δ1,S,h1,λi H1 b=>⟨B,O,δ1,_,_,b.sta,h2,λvs H2 R2=>k _ H2 ⟨R2.sta,b.frm.trans R2.frm,λz=>?_,.d (b.rep.fr R2.frm (λa z=>.inr z) λa z=>.inr z) R2.rep⟩⟩⟩;obtain⟨f,e⟩:=(Ag _ _).mp z;exact(b.pur f).trans (R2.pur e)
theorem LP{j:Nat}{d:cX}(h:slot δ j=some d):δ[j]?=some (.va d)∨δ[j]?=some (.ow d):=by
 unfold slot at h;split at h
 ·cases h;exact .inl (by assumption)
 ·cases h;exact .inr (by assumption)
 ·cases h
theorem Z4.slot(S:Z4 K ml B O H σ δ){j:Nat}{d:cX}(h:slot δ j=some d):∃v,σ[j]?=some (some v):=by
 rcases LP h with h|h
 ·obtain⟨v,e,_⟩:=S.va j d h
  exact⟨v,e⟩
 ·obtain⟨a,_,e,_⟩:=S.ow j d h
  exact⟨_,e⟩
theorem bB{fs:IJ}{j:Nat}(f:PE X a (OI j))(c:PA X es (TAG K ml ps fs))(hs:Aj (a::es) X.env=(false,eval a X.env)::Aj es X.env:=by rfl):PA X (a::es) (TAG K ml ps (aO j fs)):=(bC f c hs).imp λσ H Q b=>by obtain⟨B,O,δ,as,δ2,S,q,k⟩:=b;unfold aO at q;obtain⟨d,h1,q⟩:=Aa.mp q;have q:((fs δ).map λq=>(AV.o j::q.1,q.2))=some (as,δ2):=q;obtain⟨p2,h2,q⟩:=Ar.mp q;cases q;obtain⟨v,e⟩:=S.slot h1;exact⟨v,e,B,O,δ,_,_,S,h2,λvs H2 R2=>k _ H2 ⟨R2.sta,R2.frm,R2.pur,.o e R2.rep⟩⟩
theorem UM.length:∀{N:Tf->Prop} {vs:List V} {as:List AV},UM K N H σ vs as->vs.length=as.length
 |_,_,_,.nil=>rfl
 |_,_,_,.d _ t=>congrArg (· +1) (UM.length t)
 |_,_,_,.o _ t=>congrArg (· +1) (UM.length t)
theorem UM.getD:∀{N:Tf->Prop} {vs:List V} {as:List AV} {i:Nat} {d:cX},UM K N H σ vs as->as[i]?=some (.d d)->∃v,vs[i]?=some v/\aX K N H N v d
 |_,_,_,_,_,.nil,e=>by simp at e
 |_,_,_,0,_,.d h _,e=>by simp at e;subst e;exact⟨_,rfl,h⟩
 |_,_,_,0,_,.o h _,e=>by simp at e
 |_,_,_,i+1,_,.d _ t,e=>by obtain⟨u,h1,h2⟩:=UM.getD (i:=i) t (by simpa using e);exact⟨u,by simpa using h1,h2⟩
 |_,_,_,i+1,_,.o _ t,e=>by obtain⟨u,h1,h2⟩:=UM.getD (i:=i) t (by simpa using e);exact⟨u,by simpa using h1,h2⟩
theorem UM.getO:∀{N:Tf->Prop} {vs:List V} {as:List AV} {i j:Nat},UM K N H σ vs as->as[i]?=some (.o j)->∃v,vs[i]?=some v/\σ[j]?=some (some v)
 |_,_,_,_,_,.nil,e=>by simp at e
 |_,_,_,0,_,.d h _,e=>by simp at e
 |_,_,_,0,_,.o h _,e=>by simp at e;subst e;exact⟨_,rfl,h⟩
 |_,_,_,i+1,_,.d _ t,e=>by obtain⟨u,h1,h2⟩:=UM.getO (i:=i) t (by simpa using e);exact⟨u,by simpa using h1,h2⟩
 |_,_,_,i+1,_,.o _ t,e=>by obtain⟨u,h1,h2⟩:=UM.getO (i:=i) t (by simpa using e);exact⟨u,by simpa using h1,h2⟩
noncomputable def argD(δ:Ev):AV->Option cX
 |.d d=>some d
 |.o j=>slot δ j
noncomputable def V7(δ:Ev):List AV->Option (List cX)
 |[]=>some []
 |a::as=>(argD δ a).bind λd=>(V7 δ as).map λds=>d::ds
theorem KD:∀{as:List AV} {ds:List cX},V7 δ as=some ds->as.length=ds.length/\∀(i:Nat) (d:cX),ds[i]?=some d->∃a,as[i]?=some a/\argD δ a=some d
 |[],ds,h=>by cases h;exact⟨rfl,λi d e=>by simp at e⟩
 | a :: as,ds,h => by
  unfold V7 at h;obtain⟨d,h1,h⟩:=Aa.mp h;cases h2:V7 δ as with
  |none=>simp[h2] at h
  |some k=>
   simp only[Aw,h2] at h;cases h;obtain⟨l,g⟩:=KD h2;refine⟨by simp[l],λi e c=>?_⟩;cases i with
   |zero=>cases c;exact⟨a,rfl,h1⟩
   |succ i=>
    obtain⟨b,j,f⟩:=g i e (by simpa using c);exact⟨b,by simpa using j,f⟩
noncomputable def UO:List AV->List Nat
 |[]=>[]
 |.d _::as=>UO as
 |.o j::as=>j::UO as
theorem PP:∀{as:List AV} {i j:Nat},as[i]?=some (.o j)->j∈UO as
 |[],_,_,e=>by simp at e
 |.d _::as,0,j,e=>by simp at e
 |.o k::as,0,j,e=>by simp at e;subst e;exact Ap
 |.d _::as,i+1,j,e=>PP (as:=as) (i:=i) (by simpa using e)
 |.o k::as,i+1,j,e=>Ao _ (PP (as:=as) (i:=i) (by simpa using e))
theorem CV:∀{as:List AV} {j:Nat},j∈UO as->∃i:Nat,as[i]?=some (AV.o j)
 |[],_,h=>nomatch h
 |.d _::as,j,h=>by obtain⟨i,e⟩:=CV (as:=as) h;exact⟨i+1,by simpa using e⟩
 | .o k :: as,j,h => by
  rcases Ai.mp h with e|e
  ·exact⟨0,by rw[e];rfl⟩
  ·obtain⟨i,e⟩:=CV (as:=as) e
   exact⟨i+1,by simpa using e⟩
theorem JM:∀{as:List AV} {i k j:Nat},(UO as).Nodup->as[i]?=some (.o j)->as[k]?=some (.o j)->i=k
 |[],_,_,_,_,e,_=>by simp at e
 |.d _::as,0,_,j,_,e,_=>by simp at e
 |.d _::as,_+1,0,j,_,_,e=>by simp at e
 |.d _::as,i+1,k+1,j,n,b,a=>congrArg (· +1) (JM (as:=as) n (by simpa using b) (by simpa using a))
 |.o x::as,0,0,j,_,_,_=>rfl
 |.o x::as,0,k+1,j,n,b,a=>by
  simp at b;subst b;have h:as[k]?=some (.o x):=by simpa using a
  exact absurd (PP h) (Cw.mp n).1
 |.o x::as,i+1,0,j,n,b,a=>by
  simp at a;subst a;have h:as[i]?=some (.o x):=by simpa using b
  exact absurd (PP h) (Cw.mp n).1
 |.o x::as,i+1,k+1,j,n,b,a=>congrArg (· +1) (JM (as:=as) (Cw.mp n).2 (by simpa using b) (by simpa using a))
noncomputable def C3(δ:Ev)(as:List AV)(i:Nat):Bool:=match as[i]? with
 |some (.o j)=>match δ[j]? with
  |some (.ow _)=>true
  |_=>false
 |_=>false
noncomputable def WG(mF:List Nat):List AV->Nat->Bool
 |[],_=>true
 |.d _::as,i=>WG mF as (i+1)
 |.o _::as,i=>decide (i∈mF)&&WG mF as (i+1)
theorem SM{mF:List Nat}:∀{as:List AV} {k i j:Nat},WG mF as k=true->as[i]?=some (.o j)->k+i∈mF
 |[],_,_,_,_,e=>by simp at e
 |.d _::as,k,0,j,h,e=>by simp at e
 |.o _::as,k,0,j,h,e=>by simp only[WG,Ag,decide_eq_true_eq] at h;exact h.1
 |.d _::as,k,i+1,j,h,e=>by have:=SM (as:=as) (k:=k+1) (i:=i) (j:=j) h (by simpa using e);rwa[show k+(i+1)=k+1+i by lia]
 |.o _::as,k,i+1,j,h,e=>by simp only[WG,Ag] at h;have:=SM (as:=as) (k:=k+1) (i:=i) (j:=j) h.2 (by simpa using e);rwa[show k+(i+1)=k+1+i by lia]
noncomputable def T8:cX->Bool
 |.lst ds=>T6 ds
 |.dct _ ds=>T6 ds
 |_=>false
theorem NR.kids{N N':Tf->Prop}{a:Tf}(w:NR K N H a d)(h:T8 d=true):NR K N' H a d:=by
 cases w with
 |lst q r=>exact .lst q (r.hard h)
 |dct q r=>exact .dct q (r.hard h)
noncomputable def VY(as:List AV):List Nat->List cX->Ev->Ev
 |i::is,o::os,δ=>match as[i]? with
  |some (.o j)=>VY as is os (δ.set j (.ow o))
  |_=>VY as is os δ
 |_,_,δ=>δ
theorem Q0{as:List AV}:∀{is:List Nat} {os:List cX} {δ:Ev},(VY as is os δ).length=δ.length
 |[],_,_=>rfl
 |_::_,[],_=>rfl
 |i::is,o::os,δ=>by
  unfold VY;split
  ·rw[Q0,Bz]
  ·rw[Q0]
theorem NA{as:List AV}:∀{is:List Nat} {os:List cX} {δ:Ev} (j:Nat),is.length=os.length->j<δ.length->(∃(k i:Nat) (o:cX),is[k]?=some i/\os[k]?=some o/\as[i]?=some (AV.o j)/\(VY as is os δ)[j]?=some (Sl.ow o))∨((∀i∈is,as[i]? ≠some (AV.o j))/\(VY as is os δ)[j]?=δ[j]?)
 |[],[],δ,j,_,_=>.inr ⟨(λi h=>nomatch h),rfl⟩
 | i :: is,o :: os,δ,j,hl,d => by
  unfold VY;split
  ·rename_i g l
   rcases NA (is:=is) (os:=os) (δ:=δ.set g (.ow o)) j (by simpa using hl) (by rw[Bz];exact d) with⟨k,a,o',h1,h2,f,e⟩|⟨h1,h2⟩
   ·exact .inl ⟨k+1,a,o',by simpa using h1,by simpa using h2,f,e⟩
   ·by_cases b:j=g
    ·subst b
     rw[Dh d] at h2;exact .inl ⟨0,i,o,rfl,rfl,l,h2⟩
    ·rw[Ca (Dn b)] at h2
     refine .inr ⟨λa c=>?_,h2⟩;rcases Ai.mp c with z|z
     ·rw[z,l]
      intro w;cases w;exact b rfl
     ·exact h1 a z
  ·rename_i m
   rcases NA (is:=is) (os:=os) (δ:=δ) j (by simpa using hl) d with⟨k,a,o',h1,h2,f,e⟩|⟨h1,h2⟩
   ·exact .inl ⟨k+1,a,o',by simpa using h1,by simpa using h2,f,e⟩
   ·refine .inr ⟨λa c => ?_,h2⟩
    rcases Ai.mp c with z|z
    ·rw[z]
     exact λw=>m j w
    ·exact h1 a z
noncomputable def UV(mF:List Nat)(as:List AV)(δ:Ev):Bool:=mF.all (C3 δ as)&&decide (UO as).Nodup
noncomputable def V3(mF:List Nat)(as:List AV)(r:cX)(os:List cX):Bool:=(WG mF as 0 || r.hard)&&(WG mF as 0 || os.all T8)&&decide (mF.length=os.length)
noncomputable def cL(n:Nat)(mF:List Nat)(F:bQ)(fs:IJ):VF:=λδ=>(fs δ).bind λp=>(V7 p.2 p.1).bind λds=>if ds.length=n/\UV mF p.1 p.2=true then(F ds).bind λq=>if V3 mF p.1 q.1 q.2=true then some (q.1,VY p.1 mF q.2 p.2) else none else none
theorem J4{n:Nat}{mF:List Nat}{F:bQ}{fs:IJ}{Q:VK}(h:TV K ml (ps && mF.isEmpty) true true (cL n mF F fs) σ H Q):Uk (spV K mF n F) [] E0 (TAG K ml ps fs) σ H Q:=by
 obtain⟨B,O,δ,d,δ2,S,q,k⟩:=h;unfold cL at q;obtain⟨⟨as,δ1⟩,h1,q⟩:=Aa.mp q;have q:((V7 δ1 as).bind λds=>if ds.length=n/\UV mF as δ1=true then(F ds).bind λq=>if V3 mF as q.1 q.2=true then some (q.1,VY as mF q.2 δ1) else none else none)=some (d,δ2):=q;obtain⟨ds,h2,q⟩:=Aa.mp q;have q:(if ds.length=n/\UV mF as δ1=true then(F ds).bind λq=>if V3 mF as q.1 q.2=true then some (q.1,VY as mF q.2 δ1) else none else none)=some (d,δ2):=q;split at q
 ·rename_i hc
  obtain⟨⟨r,os⟩,h3,q⟩:=Aa.mp q;have q:(if V3 mF as r os=true then some (r,VY as mF os δ1) else none)=some (d,δ2):=q;split at q
  ·rename_i hb
   cases q;obtain⟨hn,hc⟩:=hc;simp only[UV,Ag,decide_eq_true_eq,Ix] at hc;simp only[V3,Ag,decide_eq_true_eq] at hb;obtain⟨Y,T⟩:=hc;obtain⟨⟨rp,sw⟩,am⟩:=hb;refine⟨B,O,δ,as,δ1,S,h1,λvs H1 R=>?_⟩;show spV K mF n F (vs++[]) H1 Q E0;rw[Cv];obtain⟨U,V⟩:=KD h2;have G:∀i∈mF,∃j a x,as[i]?=some (.o j)/\δ1[j]?=some (.ow x)/\O j=some a/\vs[i]?=some (.ref a)/\NR K (Nn B O) H1 a x:=λi hi=>by
    have:=Y i hi;unfold C3 at this;split at this
    ·rename_i j ej
     split at this
     ·rename_i x ex
      obtain⟨a,c,g,w⟩:=R.sta.ow j x ex;obtain⟨v,l,t⟩:=R.rep.getO ej;rw[g] at t;cases t;exact⟨j,a,x,ej,ex,c,l,w⟩
     ·cases this
    ·cases this
   have hP:∀a,QC mF vs a->∃i j,i∈mF/\as[i]?=some (.o j)/\O j=some a:=λa q0=>by obtain⟨i,hi,e⟩:=q0;obtain⟨j,a',x,c,_,g,l,_⟩:=G i hi;rw[e] at l;cases l;exact⟨i,j,hi,c,g⟩
   have L:∀a,QC mF vs a->OA O a:=λa h=>by obtain⟨i,j,_,_,e⟩:=hP a h;exact⟨j,e⟩
   have s:∀a,Zp (λa=>Nn B O a/\∀j∈UO as,O j≠some a) mF vs a->Nn B O a:=λa h=>by
    rcases h with h|h
    ·exact h.1
    ·exact .inr (L a h)
   refine⟨λa=>Nn B O a/\∀j∈UO as,O j≠some a,ds,_,os,hn,⟨by rw[<-U,R.rep.length],λi hi=>?_,λi x hi e=>?_,λi x hi e=>?_,λi j a hi W c g=>?_,λa h=>R.sta.nin h.1⟩,h3,λv H2 f2 w2 r2=>?_⟩
   ·obtain⟨j,a,x,c,_⟩:=G i hi
    rw[<-U];exact(Ad.mp c).1
   ·obtain⟨a,c,g⟩:=V i x e
    cases a with
    |d y=>
     cases g;obtain⟨v,l,r⟩:=R.rep.getD c;exact⟨v,l,r.mono s s⟩
    |o j=>
     obtain⟨v,l,t⟩:=R.rep.getO c;refine⟨v,l,?_⟩;rcases LP g with C|C
     ·obtain⟨v',A,r⟩:=R.sta.va j x C
      rw[t] at A;cases A;exact r.mono s s
     ·obtain⟨a,J,A,w⟩:=R.sta.ow j x C
      rw[t] at A;cases A;refine(w.mono s).rep λz=>?_;rcases z with z|z
      ·exact z.2 j (PP c) J
      ·obtain⟨P,m,f,I,M⟩:=hP a z
       have:j=m:=R.sta.inj j m a J M;subst this;have:=JM T c I;subst this;exact hi f
   ·obtain⟨a,c,g⟩:=V i x e
    obtain⟨j,b,y,l,t,C,A,w⟩:=G i hi;rw[l] at c;cases c;have J:slot δ1 j=some y:=by unfold slot;rw[t]
    have g:slot δ1 j=some x:=g;rw[J] at g;cases g;exact⟨b,A,w.mono s,λz=>z.2 j (PP l) C⟩
   ·obtain⟨j1,b1,_,l,_,t,C,_⟩:=G i hi
    obtain⟨j2,b2,_,A,_,J,I,_⟩:=G j W;rw[c] at C;cases C;rw[g] at I;cases I;have:j1=j2:=R.sta.inj j1 j2 a t J;subst this;exact JM T l A
   ·have S2:Z4 K ml B O H2 σ (VY as mF os δ1):=by
     refine R.sta.call Q0 (λj=>?_) f2 L;by_cases W:j<δ1.length
     ·rcases NA (as:=as) (is:=mF) (os:=os) (δ:=δ1) j am W with⟨kk,i,o,c,g,l,t⟩|⟨c,g⟩
      ·obtain⟨m,a,x,C,_,A,J,_⟩:=G i (Bv c)
       rw[l] at C;cases C;have w:=w2 kk i a o c J g;refine .inr ⟨a,o,A,t,?_⟩;rcases(Hy _ _).mp sw with z|z
       ·refine w.mono λb hb => ?_
        by_cases u:∃m∈UO as,O m=some b
        ·obtain⟨m,p,I⟩:=u
         obtain⟨P,M⟩:=CV p;have f:=SM z M;rw[Gd] at f;obtain⟨X,a'',_,E,_,D,N,_⟩:=G P f;rw[M] at E;cases E;rw[I] at D;cases D;exact .inr ⟨P,f,N⟩
        ·exact .inl ⟨hb,λm p e=>u ⟨m,p,e⟩⟩
       ·exact w.kids (Ix.mp z o (Bv g))
      ·refine .inl ⟨g,λa ea Z => ?_⟩
       obtain⟨i,m,hi,l,t⟩:=hP a Z;have:j=m:=R.sta.inj j m a ea t;subst this;exact c i hi l
     ·refine .inl ⟨?_,λa ea => ?_⟩
      ·rw[Bq (by rw[Q0];lia),Bq (by lia)]
      ·obtain⟨x,ex⟩:=R.sta.dom j a ea
       exact absurd (Ad.mp ex).1 W
    refine k v H2 ⟨S2,R.frm.trans (f2.mono L),λz=>?_,?_⟩
    ·obtain⟨z1,z2⟩:=(Ag _ _).mp z
     refine(R.pur z1).trans λb o e=>f2 b o e λw=>?_;obtain⟨i,hi,_⟩:=w;rw[Po.mp z2] at hi;cases hi
    ·rcases(Hy _ _).mp rp with z|z
     ·have hN : ∀ a,Nn B O a -> Zp (λa => Nn B O a /\ ∀ j ∈ UO as,O j ≠ some a) mF vs a := λb hb => by
       by_cases u:∃m∈UO as,O m=some b
       ·obtain⟨m,p,I⟩:=u
        obtain⟨P,M⟩:=CV p;have f:=SM z M;rw[Gd] at f;obtain⟨X,a'',_,E,_,D,N,_⟩:=G P f;rw[M] at E;cases E;rw[I] at D;cases D;exact .inr ⟨P,f,N⟩
       ·exact .inl ⟨hb,λm p e=>u ⟨m,p,e⟩⟩
      exact r2.mono hN hN
     ·exact r2.hard z
  ·cases q
 ·cases q
theorem eQ{x:Ti}{c j n:Nat}{d:List Ti}{mF:List Nat}{F:bQ}{o:Tf}{p':Pos}{fs:IJ}(m:X.K=K)(D:Def X.prog X.w K X.mg X.base x c d (spV K mF n F) o)(f:XX j X.A)(g:c<=j)(i:Gl X x)(l:PA X (e::es) (TAG K ml ps fs))(b:(x==("__debug__":Ti))=false:=by decide)(k:Aj (e::es) X.env=(false,eval e X.env)::Aj es X.env:=by rfl)(a:(Fx pos (Aj es X.env)).any (·.1)=false:=by rfl):PE X (.Call (.Name x p') (e::es) [] pos) (TV K ml (ps&&mF.isEmpty) true true (cL n mF F fs)):=by subst m;exact(mG D f g i l b k a).imp λ_ _ _ h=>J4 h
end
section
variable{X:Cx}{K:As}{ml:List Nat}{e a b c:Tj}{es:List Tj}{pi pt pe pu bt bi ps bs:Bool}{f:VF}{B B':Bs}{O:Nat->Option Tf}{H H0 H1 H':Hp}{σ:St}{δ δ':Ev}{v:V}{d:cX}{p:Tf}{pos:Pos}{ix:List Nat}{nl:Nat}
noncomputable def a9(ix:List Nat)(δ:Ev):Ev:=ix.map λi=>(δ[i]?).getD .no
noncomputable def M4(nl:Nat):Ev:=Bi nl Sl.no
noncomputable def ZT(n nl:Nat)(gg:VG)(tb:VB)(fe:VF):List cX->List cX->Ev->Option (List cX×Ev)
 |[],acc,δ=>some (acc,δ)
 |d::r,acc,δ=>(gg d (δ++M4 nl)).bind λδ1=>(tb δ1).bind λp=>if p.1=true then(fe p.2).bind λq=>if acc.length<16777216 then ZT n nl gg tb fe r (acc++[q.1]) (q.2.take n) else none else ZT n nl gg tb fe r acc (p.2.take n)
noncomputable def ZC:List Nat->Ev->Ev->Ev
 |i::is,s::ss,δ=>match s with
  |.ow d=>ZC is ss (δ.set i (.ow d))
  |_=>ZC is ss δ
 |_,_,δ=>δ
noncomputable def ZL(ix:List Nat)(nl:Nat)(a:VI)(gg:VG)(tb:VB)(fe:VF):VF:=λδ=>(a δ).bind λp=>(ZT ix.length nl gg tb fe p.1 [] (a9 ix p.2)).map λq=>(.lst q.1,ZC ix q.2 p.2)
noncomputable def W2:VB:=λδ=>some (true,δ)
theorem XN:∀{ix:List Nat} {ss δ:Ev},(ZC ix ss δ).length=δ.length
 |[],_,_=>rfl
 |_::_,[],_=>rfl
 |i::is,s::ss,δ=>by
  cases s<;>simp only[ZC]<;>rw[XN]<;>try rw[Bz]
theorem WQ:∀{ix:List Nat} {ss δ:Ev} (i:Nat),i<δ.length->ix.length=ss.length->(∃(j:Nat) (d:cX),ix[j]?=some i/\ss[j]?=some (Sl.ow d)/\(ZC ix ss δ)[i]?=some (Sl.ow d))∨((∀(j:Nat) (d:cX),ix[j]?=some i->ss[j]? ≠some (Sl.ow d))/\(ZC ix ss δ)[i]?=δ[i]?)
 |[],ss,δ,i,hi,hl=>.inr ⟨(λj d h=>by simp at h),rfl⟩
 |k::is,[],δ,i,hi,hl=>by cases hl
 | k :: is,s :: ss,δ,i,hi,hl => by
  have a:is.length=ss.length:=by simpa using hl
  cases s with
  |ow d=>
   simp only[ZC];rcases WQ (ix:=is) (ss:=ss) (δ:=δ.set k (.ow d)) i (by rw[Bz];exact hi) a with⟨j,d',h1,h2,b⟩|⟨h1,h2⟩
   ·exact .inl ⟨j+1,d',by simpa using h1,by simpa using h2,b⟩
   ·by_cases c:i=k
    ·subst c
     rw[Dh hi] at h2;exact .inl ⟨0,d,rfl,rfl,h2⟩
    ·rw[Ca (Dn c)] at h2
     refine .inr ⟨λj d' e=>?_,h2⟩;cases j with
     |zero=>cases e;exact absurd rfl c
     |succ j=>simpa using h1 j d' (by simpa using e)
  |va d=>
   simp only[ZC];rcases WQ (ix:=is) (ss:=ss) (δ:=δ) i hi a with⟨j,d',h1,h2,b⟩|⟨h1,h2⟩
   ·exact .inl ⟨j+1,d',by simpa using h1,by simpa using h2,b⟩
   ·refine .inr ⟨λj d' e => ?_,h2⟩
    cases j with
    |zero=>simp
    |succ j=>simpa using h1 j d' (by simpa using e)
  |no=>
   simp only[ZC];rcases WQ (ix:=is) (ss:=ss) (δ:=δ) i hi a with⟨j,d',h1,h2,b⟩|⟨h1,h2⟩
   ·exact .inl ⟨j+1,d',by simpa using h1,by simpa using h2,b⟩
   ·refine .inr ⟨λj d' e => ?_,h2⟩
    cases j with
    |zero=>simp
    |succ j=>simpa using h1 j d' (by simpa using e)
noncomputable def Oc(ix:List Nat)(O:Nat->Option Tf):Nat->Option Tf:=λj=>(ix[j]?).bind O
noncomputable def Bc(ix:List Nat)(B:Bs)(O:Nat->Option Tf)(H0:Hp)(D:Tf)(kp:List (V×cX)):Bs:=
 ⟨λa=>(B.Z a∨a=D)∨∃i,O i=some a/\i∉ix,OA (Oc ix O),H0,Oc ix O,kp⟩
theorem M3{D:Tf}{kp:List (V×cX)}:∀a,Nn (Bc ix B O H0 D kp) (Oc ix O) a->Nn B O a∨a=D:=λa h=>by
 rcases h with((h|h)|⟨i,h,_⟩)|⟨j,h⟩
 ·exact .inl (.inl h)
 ·exact .inr h
 ·exact .inl (.inr ⟨i,h⟩)
 ·unfold Oc at h
  cases q:ix[j]? with
  |none=>rw[q] at h;cases h
  |some i=>rw[q] at h;exact .inl (.inr ⟨i,h⟩)
theorem U4{D:Tf}{kp:List (V×cX)}:∀a,Nn (B.add D) O a->Nn (Bc ix B O H0 D kp) (Oc ix O) a:=λa h=>by
 rcases h with h|⟨i,h⟩
 ·exact .inl (.inl h)
 ·by_cases hi:i∈ix
  ·obtain⟨j,b⟩:=Ez.mp hi
   exact .inr ⟨j,by unfold Oc;rw[b];exact h⟩
  ·exact .inl (.inr ⟨i,h,hi⟩)
theorem Z4.withKp{kp:List (V×cX)}(S:Z4 K ml B O H σ δ)(h:∀p∈kp,aX K (Nn B O) H (Nn B O) p.1 p.2):Z4 K ml {B with kp:=kp} O H σ δ:=
 ⟨S.len,S.va,S.ow,S.dom,S.inj,S.old,S.zin,S.frm,S.par,S.pin,h⟩
theorem Z4.writeZ{D:Tf}{o:HO}{acc:List V}(S:Z4 K ml B O H σ δ)(j:B.Z D)(hl:H D=some (.lst acc))(l:B.H0 D=none):Z4 K ml B O (aN H D o) σ δ:=by
 have g:Fr (λb=>b=D) H (aN H D o):=λb u q n=>by
  by_cases hb:b=D
  ·subst hb
   rw[hl] at q;cases q;exact absurd (n rfl) λz=>z
  ·rw[bF hb]
   exact q
 have f:∀b,b=D->Nn B O b:=λb z=>.inl (z▸j);have c:∀b,(∃u,H b=some u)->∃u,aN H D o b=some u:=λb q0=>by
  obtain⟨u,q⟩:=q0;by_cases hb:b=D
  ·exact⟨o,by rw[hb];exact bZ⟩
  ·exact⟨u,by rw[bF hb];exact q⟩
 refine⟨S.len,λi d q=>?_,λi d q=>?_,S.dom,S.inj,S.old,λb h=>c b (S.zin b h),λb u q n=>?_,S.par,λb h=>c b (S.pin b h),λp k=>(S.kep p k).fr g f f⟩
 ·obtain⟨v,e,r⟩:=S.va i d q
  exact⟨v,e,r.fr g f f⟩
 ·obtain⟨a,e,m,w⟩:=S.ow i d q
  exact⟨a,e,m,w.fr g f λz=>(S.old i a e).1 (z▸j)⟩
 ·have hb : b ≠ D := λz => by rw [z,l] at q;cases q
  rw[bF hb];exact S.frm b u q n
theorem KM{j:Nat}{s:Sl}(h:(a9 ix δ++M4 nl)[j]?=some s):(∃i,ix[j]?=some i/\s=(δ[i]?).getD .no)∨s=.no:=by
 unfold a9 M4 at h;by_cases a:j<ix.length
 ·rw [Af (by simpa using a),Cb] at h
  cases q:ix[j]? with
  |none=>rw[q] at h;cases h
  |some i=>rw[q] at h;cases h;exact .inl ⟨i,rfl,rfl⟩
 ·rw [Bj (by simpa using a),Db] at h
  split at h
  ·cases h;exact .inr rfl
  ·cases h
theorem F9{i j:Nat}{v:V}(hi:ix[j]?=some i)(h:σ[i]?=some (some v)):(aJ ix σ++Bi nl none)[j]?=some (some v):=by have a:j<ix.length:=(Ad.mp hi).1;unfold aJ;rw[Af (by simpa using a),Cb,hi];show some ((σ[i]?).join)=_;rw[h];rfl
theorem Z4.inner{D:Tf}(S:Z4 K ml B O H0 σ δ)(b:H0 D=none)(x:ix.Nodup){l:List (V×cX)}(t:∀p∈l,aX K (Nn B O) H0 (Nn B O) p.1 p.2):
  Z4 K (Au ix.length) (Bc ix B O H0 D l) (Oc ix O) (aN H0 D (.lst [])) (aJ ix σ++Bi nl none) (a9 ix δ++M4 nl) where
 len:=by simp[aJ,a9,M4]
 va := λj d e => by
  rcases KM e with⟨i,hi,q⟩|q
  ·have q:δ[i]? =some (.va d):=by
    cases w:δ[i]? with
    |none=>rw[w] at q;cases q
    |some s=>rw[w] at q;rw[show s=.va d from q.symm]
   obtain⟨v,c,r⟩:=S.va i d q;exact⟨v,F9 hi c,(r.away b _ _ M3 M3).same (cN b)⟩
  ·cases q
 ow := λj d e => by
  rcases KM e with⟨i,hi,q⟩|q
  ·have q:δ[i]? =some (.ow d):=by
    cases w:δ[i]? with
    |none=>rw[w] at q;cases q
    |some s=>rw[w] at q;rw[show s=.ow d from q.symm]
   obtain⟨a,c,f,w⟩:=S.ow i d q;refine⟨a,by unfold Oc;rw[hi];exact c,F9 hi f,?_⟩;cases w with
   |lst u r=>exact .lst (cN b _ _ u) ((r.away b _ _ M3).same (cN b))
   |dct u r=>exact .dct (cN b _ _ u) ((r.away b _ _ M3).same (cN b))
  ·cases q
 dom:=λj a e=>by unfold Oc at e;obtain⟨i,hi,e⟩:=Aa.mp e;obtain⟨d,q⟩:=S.dom i a e;refine⟨d,?_⟩;have A:j<ix.length:=(Ad.mp hi).1;unfold a9;rw[Af (by simpa using A),Cb,hi];show some ((δ[i]?).getD .no)=_;rw[q];rfl
 inj:=λj k a c f=>by
  unfold Oc at c f;cases hi:ix[j]? with
  |none=>rw[hi] at c;cases c
  |some i=>
   cases t:ix[k]? with
   |none=>rw[t] at f;cases f
   |some m=>
    rw[hi] at c;rw[t] at f;have:i=m:=S.inj i m a c f;subst this;obtain⟨E,q1⟩:=Ad.mp hi;obtain⟨C,q2⟩:=Ad.mp t;exact(Ln x).mp (q1.trans q2.symm)
 old:=λj a e=>by
  have g:=e;unfold Oc at g;cases hi:ix[j]? with
  |none=>rw[hi] at g;cases g
  |some i=>
   rw[hi] at g;refine⟨λz=>?_,.inl ⟨j,e⟩⟩;rcases z with(z|z)|⟨m,z,n⟩
   ·exact(S.old i a g).1 z
   ·obtain⟨o,q⟩:=S.nin (.inr ⟨i,g⟩)
    rw[z,b] at q;cases q
   ·have:i=m:=S.inj i m a g z
    subst this;exact n (Bv hi)
 zin:=λa h=>by
  rcases h with(h|h)|⟨i,h,_⟩
  ·obtain⟨o,q⟩:=S.zin a h
   exact⟨o,cN b _ _ q⟩
  ·exact⟨_,by rw[h];exact bZ⟩
  ·obtain⟨o,q⟩:=S.nin (.inr ⟨i,h⟩)
   exact⟨o,cN b _ _ q⟩
 frm:=(cN b).fr
 par:=⟨λj a e=>by
  have e:(ix[j]?).bind O=some a:=e;cases hi:ix[j]? with
  |none=>rw[hi] at e;cases e
  |some i=>exact Cr.mpr (Ad.mp hi).1,λj _=>rfl⟩
 pin:=λa q0=>by obtain⟨j,e⟩:=q0;unfold Oc at e;obtain⟨i,hi,e⟩:=Aa.mp e;obtain⟨o,q⟩:=S.nin (.inr ⟨i,e⟩);exact⟨o,cN b _ _ q⟩
 kep:=λp y=>((t p y).away b _ _ M3 M3).same (cN b)
theorem Z4.turn{l:Nat->Option Tf}{f:St}{n:Nat}{m:St}(S:Z4 K (Au n) B l H f δ)(A:∀j,n<=j->B.mu j=none)(u:m.length=n)(o:f.take n=m)(C:n<=δ.length):Z4 K (Au n) B B.mu H (m++Bi nl none) (δ.take n++M4 nl):=by
 have y:∀j,j<n->l j=B.mu j:=λj b=>S.par.2 j (Cr.mpr b);have c:∀j a,B.mu j=some a->l j=some a:=λj a e=>by rw[y j (Cr.mp (S.par.1 j a e))];exact e
 have g:∀a,Nn B B.mu a->Nn B l a:=λa h=>by
  rcases h with h|⟨j,h⟩
  ·exact .inl h
  ·exact .inr ⟨j,c j a h⟩
 have x:∀(j:Nat) (s:Sl),(δ.take n++M4 nl)[j]?=some s->(j<n/\δ[j]?=some s)∨s=.no:=λj s h=>by
  have hl:(δ.take n).length=n:=by rw[Bt];lia
  by_cases b:j<n
  ·rw [Af (by rw [hl];exact b),Cc b] at h
   exact .inl ⟨b,h⟩
  ·unfold M4 at h
   rw[Bj (by rw[hl];lia),Db] at h;split at h
   ·cases h;exact .inr rfl
   ·cases h
 have hs:∀(j:Nat) (v:V),j<n->f[j]?=some (some v)->(m++Bi nl none)[j]?=some (some v):=λj v b e=>by rw[Af (by rw[u];exact b),<-o,Cc b];exact e
 refine⟨?_,λj d e=>?_,λj d e=>?_,λj a e=>?_,λj k a i t=>S.inj j k a (c j a i) (c k a t),λj a e=>S.old j a (c j a e),S.zin,S.frm,⟨S.par.1,λj _=>rfl⟩,S.pin,λp z=>(S.kep p z).mono g g⟩
 ·simp[u,M4,Bt]
  lia
 ·rcases x j _ e with⟨b,e⟩|e
  ·obtain⟨v,i,r⟩:=S.va j d e
   exact⟨v,hs j v b i,r.mono g g⟩
  ·cases e
 ·rcases x j _ e with⟨b,e⟩|e
  ·obtain⟨a,i,t,w⟩:=S.ow j d e
   exact⟨a,(y j b)▸i,hs j _ b t,w.mono g⟩
  ·cases e
 ·have b:=Cr.mp (S.par.1 j a e)
  obtain⟨d,q⟩:=S.dom j a (c j a e);refine⟨d,?_⟩;rw[Af (by rw[Bt];lia),Cc b];exact q
theorem YH(ix:List Nat)(σ:St):(aJ ix σ).length=ix.length:=by simp[aJ]
theorem P5{a:St}(hl:ix.length<=a.length)(h:∀i∈Au ix.length,a[i]?=(aJ ix σ++Bi nl none)[i]?):a.take ix.length=aJ ix σ:=by
 refine Kv λj=>?_;by_cases b:j<ix.length
 ·rw[Cc b,h j (Cr.mpr b),Af (by rw[YH];exact b)]
 ·rw[Bq (by rw[Bt];lia),Bq (by rw[YH];lia)]
theorem IS{a:St}(c:∀i∈Au ix.length,a[i]?=(aJ ix σ++Bi nl none)[i]?):ix.length<=a.length:=by
 by_cases e:ix.length=0
 ·lia
 ·have b : ix.length - 1 < ix.length := by lia
  have:=c (ix.length - 1) (Cr.mpr b);have hs:(aJ ix σ++Bi nl none)[ix.length - 1]? ≠none:=by rw[Af (by rw[YH];exact b)];simp[aJ,b]
  rw[<-this] at hs;have d:ix.length - 1<a.length:=Nat.lt_of_not_le λz=>hs (List.getElem?_eq_none_iff.mpr z);lia
theorem D4{fi:VI}{gg:VG}{tb:VB}{fe:VF}(hnd:ix.Nodup){Q:VK}(h:TN K ml (pi&&pt&&pe) (ZL ix nl fi gg tb fe) σ H Q):D3 ix nl (AN K ml pi fi) (TGV K (Au ix.length) gg) (TB K (Au ix.length) pt tb) (TV K (Au ix.length) pe true true fe) σ H Q:=by
 obtain⟨B,O,δ,d,δ2,S,q,k⟩:=h;unfold ZL at q;obtain⟨⟨ds,δ1⟩,h1,q⟩:=Aa.mp q;have q:((ZT ix.length nl gg tb fe ds [] (a9 ix δ1)).map λq=>(cX.lst q.1,ZC ix q.2 δ1))=some (d,δ2):=q;obtain⟨⟨res,l⟩,h2,q⟩:=Ar.mp q;cases q;refine⟨B,O,δ,ds,δ1,S,h1,λJ f H0 y f0 p0 wk D u=>?_⟩;have hDO:∀j,Oc ix O j≠some D:=λj e=>by unfold Oc at e;obtain⟨i,hi,e⟩:=Aa.mp e;obtain⟨o,q⟩:=y.nin (.inr ⟨i,e⟩);rw[u] at q;cases q
 have dw:∀kp j,ix.length<=j->(Bc ix B O H0 D kp).mu j=none:=λkp j R=>by show(ix[j]?).bind O=none;rw[Bq R];rfl
 refine⟨λi m acc H1=>m=ds.length - i/\i<=ds.length/\∃(g:List cX) (c:Ev),c.length=ix.length/\acc.length=g.length∧
   Z4 K (Au ix.length) (Bc ix B O H0 D (f++acc.zip g)) (Oc ix O) H1 (aJ ix σ++Bi nl none) (c++M4 nl)/\H1 D=some (.lst acc)/\((pt&&pe)=true->aP H0 H1)∧
   ZT ix.length nl gg tb fe (ds.drop i) g c=some (res,l),
  ⟨ds.length,rfl,Cy _,[],a9 ix δ1,by simp[a9],rfl,by rw[Kw,Cv];exact y.unkeep.inner u hnd λp t=>y.kep p (Cg _ t),bZ,λ_=>cN u,h2⟩,?_⟩
 rintro i m acc H1 ⟨rfl,hi,g,c,P,X,M,G,cb,hc⟩;have w:=wk (Nn (Bc ix B O H0 D (f++acc.zip g)) (Oc ix O)) H1 λp t=>M.kep p (Cg _ t);by_cases F:i<ds.length
 ·obtain ⟨go,yl⟩ := w.1 i ds[i] (by simp [F])
  rw[Cq F] at hc;simp only[ZT] at hc;obtain⟨N,g1,hc⟩:=Aa.mp hc;obtain⟨⟨kk,s⟩,g2,hc⟩:=Aa.mp hc;refine .inr ⟨go,λaf H'=>∃(g:List cX) (c:Ev),c.length=ix.length/\af.length=g.length∧
   Z4 K (Au ix.length) (Bc ix B O H0 D (f++af.zip g)) (Oc ix O) H' (aJ ix σ++Bi nl none) (c++M4 nl)/\H' D=some (.lst af)/\((pt&&pe)=true->aP H0 H')∧
   ZT ix.length nl gg tb fe (ds.drop (i+1)) g c=some (res,l),λaf H' w'=>⟨ds.length - (i+1),by lia,rfl,F,w'⟩,λx H2 hy=>?_⟩
  obtain⟨Y,rx⟩:=yl x H2 hy;refine⟨_,_,_,ds[i],N,M.same Y,rx,g1,λσ3 O3 S3 m3=>?_⟩;have E:=IS m3;have r:=P5 E m3;refine⟨r,_,_,N,kk,s,S3,g2,λH4 I=>?_⟩;have V:H4 D=some (.lst acc):=I.frm _ _ (Y _ _ G) λz=>by obtain⟨j,e⟩:=z;have:=(I.sta.old j D e).1;exact absurd (.inl (.inr rfl)) this
  have ln4:ix.length<=s.length:=by rw[<-I.sta.len];exact E
  cases kk with
  |false=>
   rw[if_neg Dj] at hc;refine OC ⟨g,s.take ix.length,by rw[Bt];lia,X,I.sta.turn (dw _) (YH ix σ) r ln4,V,λz=>?_,hc⟩;exact((cb z).trans Y).trans (I.pur ((Ag _ _).mp z).1)
  |true=>
   rw[if_pos rfl] at hc;obtain⟨⟨W,C⟩,g3,hc⟩:=Aa.mp hc;split at hc
   ·rename_i hz
    refine OD ⟨_,_,s,W,C,I.sta,g3,λv H5 A=>?_⟩;have U:H5 D=some (.lst acc):=A.frm _ _ V λz=>by obtain⟨j,e⟩:=z;have:=(A.sta.old j D e).1;exact absurd (.inl (.inr rfl)) this
    have ln5:ix.length<=C.length:=by rw[<-A.sta.len];exact E
    have S6:=A.sta.turn (nl:=nl) (dw _) (YH ix σ) r ln5;have hv:aX K (Nn (Bc ix B O H0 D (f++acc.zip g)) (Oc ix O)) H5 (Nn (Bc ix B O H0 D (f++acc.zip g)) (Oc ix O)) v W:=by
     have hN:∀a,Nn (Bc ix B O H0 D (f++acc.zip g)) (Oc ix O) a->av (Bc ix B O H0 D (f++acc.zip g)) O3 true a:=λa h=>by
      rcases h with h|⟨j,h⟩
      ·exact .inl h
      ·refine .inr ⟨j,?_⟩
       have R:j∈Au ix.length:=A.sta.par.1 j a h;rw[A.sta.par.2 j R];exact h
     exact A.rep.mono hN hN
    have S7:=S6.withKp (kp:=f++(acc++[v]).zip (g++[W])) λp t=>by
     rw[Mm X,<-Bh] at t;rcases Cp.mp t with z|z
     ·exact S6.kep p z
     ·rw[Bb.mp (show p∈[(v,W)] from z)]
      exact hv
    refine⟨U,by rw[X,Di];exact hz,g++[W],C.take ix.length,by rw[Bt];lia,by simp[X],?_,bZ,λz=>?_,hc⟩
    ·exact S7.writeZ (.inl (.inr rfl)) U u
    ·intro b o e
     have hb:b≠D:=λz=>by rw[z,u] at e;cases e
     rw[bF hb];obtain⟨z1,z2⟩:=(Ag _ _).mp z;exact(((cb z).trans Y).trans ((I.pur z1).trans (A.pur z2))) b o e
   ·cases hc
 ·have e : i = ds.length := by lia
  subst e;rw[Ds] at hc;cases hc;refine .inl ⟨w.2,k D H1 ?_⟩;have fP:Fr (OA (Oc ix O)) H0 H1:=M.frm;have T:∀a,OA (Oc ix O) a->OA O a:=λa q0=>by
   obtain⟨j,e⟩:=q0;unfold Oc at e;cases hi:ix[j]? with
   |none=>rw[hi] at e;cases e
   |some i=>rw[hi] at e;exact⟨i,e⟩
  have SL:=y.unkeep.laid (o:=.lst acc) u;have fL:Fr (OA (Oc ix O)) (aN H0 D (.lst acc)) H1:=λb o e n=>by
   by_cases hb:b=D
   ·subst hb
    rw[bZ] at e;cases e;exact G
   ·rw[bF hb] at e
    exact fP b o e n
  refine⟨SL.call (XN) (λi=>?_) fL T,f0.trans (fP.mono T),λz=>?_,.lst G (U8 X λp t=>(M.kep p (Av _ t)).mono U4 U4),y.unkeep.new u,y.fresh u⟩
  ·by_cases eg:i<δ1.length
   ·rcases WQ (ix:=ix) (ss:=l) (δ:=δ1) i eg P.symm with⟨j,x,e1,Z,e3⟩|⟨e1,Z⟩
    ·have e4:(l++M4 nl)[j]? =some (.ow x):=by rw[Af (Ad.mp Z).1];exact Z
     obtain⟨a,e5,_,w⟩:=M.ow j x e4;refine .inr ⟨a,x,?_,e3,w.mono U4⟩;unfold Oc at e5;rw[e1] at e5;exact e5
    ·refine .inl ⟨Z,λa ea ⟨j,L⟩ => ?_⟩
     obtain⟨x,ex⟩:=M.dom j a L;unfold Oc at L;cases hi:ix[j]? with
     |none=>rw[hi] at L;cases L
     |some i'=>
      rw[hi] at L;have:i=i':=y.inj i i' a ea L;subst this;have R:j<l.length:=by rw[P];exact(Ad.mp hi).1
      rw[Af R] at ex;exact e1 j x hi ex
   ·refine .inl ⟨?_,λa ea => ?_⟩
    ·rw[Bq (by rw[XN];lia),Bq (by lia)]
    ·obtain⟨x,ex⟩:=y.dom i a ea
     exact absurd (Ad.mp ex).1 eg
  ·simp only[Ag] at z
   exact(p0 z.1.1).trans (cb (by simp[z.1.2,z.2]))
theorem Zg{Q:Bool->Hp->Prop}(h:TB K ml true W2 σ H Q):tYes σ H Q:=by obtain⟨B,O,δ,k,δ',S,q,w⟩:=h;cases q;exact w H (AL.refl S)
theorem NO{Y:Cx}{t:VB}(h:PT Y c (TB K ml pt t)):PTs Y [c] (TB K ml pt t):=gF h
theorem XT{Y:Cx}:PTs Y [] (TB K ml true W2):=λaa s σ H Q I hw=>kZ aa s σ H Q I (Zg hw)
theorem Ub{Q:VK}{o:Bool}(h:TX K ml (if o then xO f else xV f) σ H Q):TN K ml pu f σ H Q:=by
 obtain⟨B,O,δ,s,δ',S,q,k⟩:=h;have e:∃d,f δ=some (d,δ')/\s=if o then .ow d else .va d:=by
  cases o with
  |true=>
   have q:(f δ).map (λp=>(Sl.ow p.1,p.2))=some (s,δ'):=q;cases h1:f δ with
   |none=>rw[h1] at q;cases q
   |some p=>rw[h1] at q;cases q;exact⟨p.1,rfl,rfl⟩
  |false=>
   have q:(f δ).map (λp=>(Sl.va p.1,p.2))=some (s,δ'):=q;cases h1:f δ with
   |none=>rw[h1] at q;cases q
   |some p=>rw[h1] at q;cases q;exact⟨p.1,rfl,rfl⟩
 obtain⟨d,h1,hs⟩:=e;refine⟨B,O,δ,d,δ',S,h1,λp H' R=>?_⟩;cases o with
 |true=>
  cases hs;have w:=R.own;cases w with
  |lst q1 r=>exact k _ H' _ (R.sta.keepV (TK r)) (.ol q1 r.length R.nz R.h0) R.frm
  |dct q1 r=>exact k _ H' _ (R.sta.keepV (TK r)) (.od q1 (by simpa using r.length) R.nz R.h0) R.frm
 |false=>
  cases hs;exact k _ H' _ (R.sta.unadd.keepV (ps:=[(.ref p,d)]) λz a=>by rw[Bb.mp a];exact(R.own.mono RQ).rep R.nz) .va R.frm
theorem FU{i:Nat}{x:VX}{te:TE}(a:∀σ H Q,TX K ml x σ H Q->te σ H Q)(c:i∉ml){D:EA}(h:SK K ml (Z3 i x) D σ H):tAsg te (GL i) D σ H:=by
 obtain⟨B,O,δ,o,S,q,k⟩:=h;unfold Z3 at q;obtain⟨⟨s,δ1⟩,h1,q⟩:=Aa.mp q;have q:(if i<δ1.length then some (Ou.nx (δ1.set i s)) else none)=some o:=q;split at q
 ·rename_i hl
  cases q;refine a _ _ _ ⟨B,O,δ,s,δ1,S,h1,λv H' B' d h' f=>?_⟩;obtain⟨e,b⟩:=h'.bind d c hl;exact k _ _ _ b
 ·cases q
end
abbrev cA(P:Br)(w:Tl)(K:As)(mg:Ti->Option Te)(base:Tp)(x:Ti)(k:Nat)(ps:List Ti)(mF:List Nat)(F:bQ)(f:Tf):Prop:=Def P w K mg base x k ps (spV K mF ps.length F) f
section
variable{X:Cx}{K:As}{ml:List Nat}{e a b c:Tj}{es:List Tj}{pa ta ia pb tb ib pc tc ic pu bt bi ps bs:Bool}{fa fb fc f:VF}{B B':Bs}{O:Nat->Option Tf}{H H0 H1 H':Hp}{σ:St}{δ δ':Ev}{v:V}{d:cX}{p:Tf}{pos:Pos}
theorem aL{x:Ti}(a:Gl X x)(h:∃u v,X.mg x=some u/\bO v u/\∀N H M,aX K N H M v d)(b:(x==("__debug__":Ti))=false:=by decide):PE X (.Name x pos) (TV K ml true true true (fC d)):=by obtain⟨u,v,h1,h2,c⟩:=h;exact CA (dZ a h1 h2 b) c
def Vd(K:As):R2:=λx y H Q=>∃a b xs ys,x=.ref a/\y=.ref b/\V0 K H a xs/\V0 K H b ys/\xs.length+ys.length<=sizeLine∧
 (xs=[]->Q (.ref b) H)/\(xs≠[]->ys=[]->Q (.ref a) H)/\(xs≠[]->ys≠[]->∀p,H p=none->Q (.ref p) (aN H p (.tup (xs++ys))))
theorem eJ:WD X (Gj .Add) (Vd X.K):=by
 intro aa s σ H x y v u Q I B A h;obtain⟨a,b,xs,ys,rfl,rfl,E,hb,m,q0,q1,q2⟩:=h;cases B;cases A;obtain⟨its,g,l,_⟩:=I.tuple E;obtain⟨D,f,p2,_⟩:=I.tuple hb;by_cases i:xs=[]
 ·subst i
  have F:its=[]:=g.nil_iff.mpr rfl;subst F;obtain⟨⟨cls,G,data,t⟩,p,hc,n,r⟩:=id l;obtain⟨⟨J,k,data2,j⟩,c,e,C,d⟩:=id p2;simp only at hc r e d;subst hc r e d;exact Mg ⟨_,p,rfl⟩ ⟨_,c,rfl⟩ Lo Nu Ib Hu (Hl _ _)
   (tuple_addW0 a b _ D.toArray n C G k t j (by simp)) ⟨p,c,⟨.ref b,H,I,rfl,q0 rfl⟩⟩
 ·refine HT.zEV l p2 (λz => i (g.nil_iff.mp z)) (λz => ⟨.ref a,H,I,rfl,q1 i (f.nil_iff.mp z)⟩) (λz => ?_) (by rw [<- g.length,<- f.length];exact m)
  refine⟨.ref s.heap.objs.size,_,I.laid (t':=s.toks) (o:=.tup (xs++ys)) (λb L q=>Ae _ q) (Ak _) ?_,rfl,q2 i (λw=>z (f.nil_iff.mpr w)) _ (I.hok.fresh (Ak _))⟩;exact⟨by rw[Cf];exact m,_,g.append f,Kr _ _⟩
def Uq(K:As):R2:=λx y H Q=>∃l b xs zs,x=.ref l/\y=.ref b/\WT K H l xs/\WT K H b zs/\xs.length+zs.length<=sizeLine/\∀p,H p=none->Q (.ref p) (aN H p (.lst (xs++zs)))
theorem nW:WD X (Gj .Add) (Uq X.K):=by
 intro aa s σ H x y v u Q I t p h;obtain⟨l,b,xs,zs,rfl,rfl,B,C,A,q⟩:=h;cases t;cases p;obtain⟨its,r,w,_⟩:=I.list B;obtain⟨f,j,p2,_⟩:=I.list C;obtain⟨⟨cls,E,data,o⟩,n,k,hc,_,m⟩:=id w;obtain⟨⟨G,i,data2,e⟩,z,a,d,_,c⟩:=id p2;simp only at hc m d c;subst hc m d c;have D:its.toArray++f.toArray=(its++f).toArray:=by simp
 have hl:=r.length;have g:=j.length;refine Mg ⟨_,k,rfl⟩ ⟨_,a,rfl⟩ noFill_list_add seq_list_add PySem.F.slot_list_add PySem.F.entry_list_add (PySem.F.args_list_add_2 _ _) (list_addW l b its.toArray f.toArray n z E i o e (by rw[At,At,<-hl,<-g];exact A)) ⟨k,a,?_⟩;rw[D];exact⟨.ref _,_,I.lnew (t':=s.toks) (r.append j) (by rw[Cf];lia),rfl,q _ I.fresh⟩
def Ut(K:As):R2:=λx y H Q=>((FE (λi j=>.int (i+j)) x y H Q∨Vd K x y H Q)∨Uq K x y H Q)∨∃i j,x=.str i/\y=.str j/\i.length+j.length<=sizeLine/\Q (.str (i++j)) H
theorem X2(h:X.K=K):WD X (Gj .Add) (Ut K):=by subst h;exact((zHY.or eJ).or nW).or E7
noncomputable def ZM:cX->cX->Option cX
 |.int i,.int j=>some (.int (i+j))
 |.tup ds,.tup es=>if ds.length+es.length<=16777216 then some (.tup (ds++es)) else none
 |.lst ds,.lst es=>if ds.length+es.length<=16777216 then some (.lst (ds++es)) else none
 |.str x,.str y=>if x.length+y.length<=16777216 then some (.str (x++y)) else none
 |_,_=>none
theorem aX.tupE{N M:Tf->Prop}{ds:List cX}(h:aX K N H M v (.tup ds)):∃a xs,v=.ref a/\V0 K H a xs/\b7 K N H xs ds:=by
 cases h with
 |tup q r=>exact⟨_,_,rfl,q,r⟩
theorem aX.lstE{N M:Tf->Prop}{ds:List cX}(h:aX K N H M v (.lst ds)):∃a xs,v=.ref a/\WT K H a xs/\b7 K N H xs ds:=by
 cases h with
 |lst q n r=>exact⟨_,_,rfl,WT.of q,r⟩
 |fzl q r=>exact⟨_,_,rfl,q.sq,r⟩
theorem ZF:OpC K (Ut K) ZM:=by
 intro H N M M' x y d e c Q n m h k;cases d with
 |int i=>
  cases e with
  |int j=>
   cases h;cases n;cases m;exact .inl (.inl (.inl ⟨_,_,rfl,rfl,k _ _ (aP.refl _) λ_ _=>.int _⟩))
  |_=>cases h
 |str i=>
  cases e with
  |str j=>
   simp only[ZM] at h;split at h
   ·cases h
    cases n;cases m;exact .inr ⟨_,_,rfl,rfl,by rw[Di];assumption,k _ _ (aP.refl _) λ_ _=>.str _⟩
   ·cases h
  |_=>cases h
 |tup ds=>
  cases e with
  |tup es=>
   simp only[ZM] at h;split at h
   ·rename_i s
    cases h;obtain⟨a,xs,rfl,q1,g⟩:=n.tupE;obtain⟨b,ys,rfl,q2,f⟩:=m.tupE;refine .inl (.inl (.inr ⟨a,b,xs,ys,rfl,rfl,q1,q2,by rw[g.length,f.length,Di];exact s,λz=>?_,λu t=>?_,λu t p l=>?_⟩))
    ·subst z
     have:ds=[]:=Ff.mp g.length.symm;subst this;exact k _ _ (aP.refl _) λM r=>.tup q2 f
    ·subst t
     have:es=[]:=Ff.mp f.length.symm;subst this;rw[Cv] at k;exact k _ _ (aP.refl _) λM r=>.tup q1 g
    ·exact k _ _ (cN l) λM r=>.tup (V0.of bZ) ((g.append f).same (cN l))
   ·cases h
  |_=>cases h
 |lst ds=>
  cases e with
  |lst es=>
   simp only[ZM] at h;split at h
   ·rename_i s
    cases h;obtain⟨a,xs,rfl,q1,g⟩:=n.lstE;obtain⟨b,ys,rfl,q2,f⟩:=m.lstE;exact .inl (.inr ⟨a,b,xs,ys,rfl,rfl,q1,q2,by rw[g.length,f.length,Di];exact s,λp l=>k _ _ (cN l) λM r=>.lst bZ (λz=>by obtain⟨o,q⟩:=r _ z;rw[l] at q;cases q) ((g.append f).same (cN l))⟩)
   ·cases h
  |_=>cases h
 |_=>cases h
def Xa:As->R2:=λ_=>rI CMul λi j=>.int (i*j)
theorem MW(h:X.K=K):WD X (Gj .Mult) (Xa K):=iT
noncomputable abbrev PX:=oMul
theorem QI:OpC K (Xa K) PX:=by intro H N M M' x y d e c Q b a h k;exact nX H N N M M' x y d e c Q b a h λv f=>k v H (aP.refl _) λM _=>f _ _ _
noncomputable def VT:cX->Option Z7
 |.int i=>some (.inl i)
 |.str x=>some (.inr x)
 |_=>none
theorem aX.key{N M:Tf->Prop}{k:Z7}(h:aX K N H M v d)(e:VT d=some k):v=kV k:=by
 cases h<;>first
  |(cases e;rfl)
  |cases e
noncomputable def bD(ks:List Z7)(ds:List cX)(k:Z7):Option cX:=match ks,ds with
 |k'::ks,d::ds=>if k'=k then some d else bD ks ds k
 |_,_=>none
theorem QT{N:Tf->Prop}{k:Z7}:∀{kvs:List (Z7×V)} {ds:List cX},b7 K N H (kvs.map Ec) ds->(∃v d,SE kvs k=some v/\bD (kvs.map Cz) ds k=some d/\aX K N H N v d)∨(SE kvs k=none/\bD (kvs.map Cz) ds k=none)
 |[],_,.nil=>.inr ⟨rfl,rfl⟩
 | (k',v) :: kvs,_,.cons h t => by
  by_cases a:k'=k
  ·refine .inl ⟨v,_,Q4 (p:=(k',v)) a,?_,h⟩
   simp[bD,a]
  ·rcases QT (k:=k) t with⟨b,d',h1,h2,c⟩|⟨h1,h2⟩
   ·exact .inl ⟨b,d',(UH (p:=(k',v)) a).trans h1,by simpa[bD,a] using h2,c⟩
   ·exact .inr ⟨(UH (p:=(k',v)) a).trans h1,by simpa[bD,a] using h2⟩
theorem nA(f:X.A.units+1<cLine):AA X (λx y H Q=>∃a v,x=.ref a/\OW H a y (some v)/\Q v H):=by intro value b aa s σ H x y v u Q I e d h hs;obtain⟨a,w,rfl,g,q⟩:=h;cases e;exact Rw (GD I g) PySem.F.slot_dict_getitem.lookup (AX f I g d λj k i c=>⟨w,H,i,c,q⟩) hs
def rIxA(K:As):R2:=λx y H Q=>(rIx K x y H Q∨∃a v,x=.ref a/\OW H a y (some v)/\Q v H)∨∃a k D v,x=.ref a/\y=.str k/\KTab K a D/\Fw k D=some v/\Q v H
theorem kIxA(h:X.K=K)(a:X.A.units+1<cLine):AA X (rIxA K):=by subst h;exact(zJK.or (nA a)).or dX
noncomputable def cB:cX->cX->Option cX
 |.tup ds,.int i=>WU ds i
 |.lst ds,.int i=>WU ds i
 |.dct ks ds,e=>(VT e).bind (bD ks ds)
 |.str z,.int i=>if z.length<=16777216 then(WU z.cps.toList i).map λc=>.str ⟨#[c]⟩ else none
 |_,_=>none
theorem PD{N:Tf->Prop}{k:Ti}:∀{D:List (Ti×V)} {ds:List cX},b7 K N H (D.map Ec) ds->(∃v d,Fw k D=some v/\bD (D.map λp=>.inr p.1) ds (.inr k)=some d/\aX K N H N v d)∨(Fw k D=none/\bD (D.map λp=>.inr p.1) ds (.inr k)=none)
 |[],_,.nil=>.inr ⟨rfl,rfl⟩
 | (k',v) :: D,_,.cons h t => by
  by_cases a:k'=k
  ·subst a
   exact .inl ⟨v,_,by simp[Fw],by simp[bD],h⟩
  ·have b : ¬ k = k' := λz => a z.symm
   rcases PD (k:=k) t with⟨c,d',h1,h2,e⟩|⟨h1,h2⟩
   ·exact .inl ⟨c,d',by simpa[Fw,a,b] using h1,by simpa[bD,a] using h2,e⟩
   ·exact .inr ⟨by simpa[Fw,a,b] using h1,by simpa[bD,a] using h2⟩
theorem GU{i:Int}:∀{D:List (Ti×V)} {ds:List cX},bD (D.map λp=>.inr p.1) ds (.inl i)=none
 |[],_=>by simp[bD]
 |_::_,[]=>by simp[bD]
 |p::D,d::ds=>by simpa[bD] using GU (D:=D) (ds:=ds)
theorem Yx:OpI K (rIxA K) cB:=by
 intro H N N' M M' x y d e c Q j g h k;have seq:∀ds i,W8 d=some ds->e=.int i->WU ds i=some c->rIxA K x y H Q:=λds i h1 h2 b=>by
  subst h2;cases g;obtain⟨a,xs,rfl,sq,r⟩:=j.seq h1;obtain⟨v,m,l⟩:=mM r b;rcases sq with sq|sq
  ·exact .inl (.inl (.inl ⟨a,xs,i,v,rfl,rfl,sq,m,k v l⟩))
  ·exact .inl (.inl (.inr (.inl ⟨a,xs,i,v,rfl,rfl,sq,m,k v l⟩)))
 cases d with
 |tup ds=>
  cases e with
  |int i=>exact seq ds i rfl rfl h
  |_=>cases h
 |lst ds=>
  cases e with
  |int i=>exact seq ds i rfl rfl h
  |_=>cases h
 |str z=>
  cases e with
  |int i=>
   simp only[cB] at h;split at h
   ·obtain⟨ch,hc,h⟩:=Ar.mp h
    cases h;cases j;cases g;exact .inl (.inl (.inr (.inr ⟨z,i,ch,rfl,rfl,by rw[Di];assumption,hc,k _ (.str _)⟩)))
   ·cases h
  |_=>cases h
 |dct ks ds=>
  simp only[cB] at h;obtain⟨f,o,h⟩:=Aa.mp h;have h:bD ks ds f=some c:=h;have p:=g.key o;subst p;cases j with
  |dct q n r=>
   rcases QT (k:=f) r with⟨v,d',h1,h2,b⟩|⟨h1,h2⟩
   ·rw[h] at h2
    cases h2;exact .inl (.inr ⟨_,v,rfl,h1▸OW.k q,k v b⟩)
   ·rw[h] at h2;cases h2
  |ktb T r=>
   cases f with
   |inl i=>rw[GU] at h;cases h
   |inr x=>
    rcases PD (k:=x) r with⟨v,d',h1,h2,b⟩|⟨h1,h2⟩
    ·rw[h] at h2
     cases h2;exact .inr ⟨_,x,_,v,rfl,rfl,T,h1,k v b⟩
    ·rw[h] at h2;cases h2
 |_=>cases h
noncomputable def W6(δ:Ev)(i:Nat):Option (List Z7×List cX):=match δ[i]? with
 |some (.ow (.dct ks ds))=>some (ks,ds)
 |_=>none
theorem S8{i:Nat}{ks:List Z7}{ds:List cX}(h:W6 δ i=some (ks,ds)):δ[i]?=some (.ow (.dct ks ds)):=by
 unfold W6 at h;split at h
 ·cases h;assumption
 ·cases h
noncomputable def JC(i:Nat)(fk a:VF):VF:=λδ=>(W6 δ i).bind λ_=>(fk δ).bind λp=>(a p.2).bind λq=>(VT p.1).bind λk=>(W6 q.2 i).map λz=>((bD z.1 z.2 k).getD q.1,q.2)
theorem lQ{i:Nat}{fk u:VF}{ax ag:Pos}(R:X.A.units+1<cLine)(h:PE X a (OI i))(T:PE X b (TV K ml pa ta ia fk))(P:PE X c (TV K ml pb true true u))(m:M2 X a "get" ax b c ag):
  PE X (.Call (.Attribute a "get" ax) [b,c] [] ag) (TV K ml (pa&&pb) true true (JC i fk u)):=(fU R h T P m).imp λσ H Q g=>by
 obtain⟨B,O,δ,d,G,S,q,k⟩:=g;unfold JC at q;cases p:W6 δ i with
 |none=>rw[p] at q;cases q
 |some M=>
  obtain⟨f,C⟩:=M;rw[p] at q;cases h1:fk δ with
  |none=>simp[h1] at q
  |some N=>
   obtain⟨y,δ1⟩:=N;simp only[Aw,h1] at q;cases h2:u δ1 with
   |none=>simp[h2] at q
   |some p2=>
    obtain⟨z,δ2⟩:=p2;simp only[Aw,h2] at q;cases n:VT y with
    |none=>simp[n] at q
    |some E=>
     simp only[Aw,n] at q;cases j:W6 δ2 i with
     |none=>simp[j] at q
     |some I=>
      obtain⟨ks,ds⟩:=I;simp only[j] at q;cases q;obtain⟨l,Z,Y,w⟩:=S.ow i _ (S8 p);refine⟨.ref l,Y,l,rfl,?_,B,O,δ,y,δ1,S,h1,λv1 H1 e=>⟨B,O,δ1,z,_,e.sta,h2,λv2 H2 R2=>?_⟩⟩
      ·generalize hw:cX.dct f C=dd at w
       cases w with
       |lst _ _=>cases hw
       |dct q _=>exact .inl ⟨_,.inl q⟩
      ·have W:=e.rep.key n
       subst W;obtain⟨l',F,_,D⟩:=R2.sta.ow i _ (S8 j);rw[Z] at F;cases F;have x:∀o,aX K (Nn B O) H2 (Nn B O) (o:V) ((bD ks ds E).getD z)->Q o H2:=λo h=>k o H2 ⟨R2.sta,e.frm.trans R2.frm,λz=>by obtain⟨L,J⟩:=(Ag _ _).mp z;exact(e.pur L).trans (R2.pur J),h⟩
       generalize hw:cX.dct ks ds=dd at D;cases D with
       |lst _ _=>cases hw
       |dct q r=>
        cases hw;refine⟨_,OW.k q,x _ ?_⟩;rcases QT (k:=E) r with⟨v,d',t,s,U⟩|⟨t,s⟩
        ·rw[t,s];exact U
        ·rw[t,s];exact R2.rep
noncomputable def X4:List Z7->List cX->Z7->cX->List Z7×List cX
 |k'::ks,d::ds,k,v=>if k'=k then(k'::ks,v::ds) else let r:=X4 ks ds k v;(k'::r.1,d::r.2)
 |_,_,k,v=>([k],[v])
noncomputable def HM(i:Nat)(fk a:VF):VS:=λδ=>(a δ).bind λp=>(W6 p.2 i).bind λ_=>(fk p.2).bind λq=>(VT q.1).bind λk=>(W6 q.2 i).bind λz=>if z.1.length<16777216/\z.1.Nodup then some (.nx (q.2.set i (.ow (let r:=X4 z.1 z.2 k p.1;.dct r.1 r.2)))) else none
theorem LH{N:Tf->Prop}{k:Z7}{v:V}(h:aX K N H N v d):∀{kvs:List (Z7×V)} {ds:List cX},(kvs.map Cz).Nodup->b7 K N H (kvs.map Ec) ds->(W7 kvs k v).map Cz=(X4 (kvs.map Cz) ds k d).1/\b7 K N H ((W7 kvs k v).map Ec) (X4 (kvs.map Cz) ds k d).2
 |[],_,_,.nil=>⟨rfl,.cons h .nil⟩
 | (k',u) :: kvs,_,b,.cons g t => by
  obtain⟨f,c⟩:=Cw.mp b;by_cases a:k'=k
  ·subst a
   have e:W7 ((k',u)::kvs) k' v=(k',v)::kvs:=by unfold W7;rw[if_pos (by simp)];simp only[Bg,if_true];congr 1;refine(Dq λp i=>?_).trans (Nh _);have:p.1≠k':=λz=>f (Be.mpr ⟨p,i,z⟩);simp[this]
   rw[e];exact⟨by simp[X4],by simpa[X4] using b7.cons h t⟩
  ·obtain⟨h1,h2⟩:=LH (k:=k) h c t
   have e:W7 ((k',u)::kvs) k v=(k',u)::W7 kvs k v:=by
    unfold W7;simp only[Jb,a,decide_false,Nx];split
    ·simp[a]
    ·rfl
   rw[e];exact⟨by simpa[X4,a] using h1,by simpa[X4,a] using b7.cons g h2⟩
theorem JS{N:Tf->Prop}{l:Tf}{o:HO}{xs:List V}{ds:List cX}{kvs:List (Z7×V)}(c:H l=some (.dK kvs))(d:N l)(h:b7 K N H xs ds):b7 K N (aN H l o) xs ds:=
 h.fr (P:=λb=>b=l) (λb u q n=>by
  by_cases hb:b=l
  ·subst hb
   rw[c] at q;cases q;exact absurd (n rfl) λz=>z
  ·rw[bF hb]
   exact q) λa z=>z▸d
theorem D7{i:Nat}{fk v:VF}{bp:Pos}(J:X.A.units+1<cLine)(L:PE X a (OI i))(M:PE X b (TV K ml pa ta ia fk))(I:PE X c (TV K ml pb true true v))(hs:Gm c (some (.Subscript a b bp)) pos.line X.env=pure false):
  PS X (.Assign [.Subscript a b bp] c pos) (SK K ml (HM i fk v)):=(gR J L M I hs).imp λD σ H f=>by
 obtain⟨B,O,δ,o,S,q,k⟩:=f;unfold HM at q;obtain⟨⟨z,δ1⟩,h1,q⟩:=Aa.mp q;have q:((W6 δ1 i).bind λ_=>(fk δ1).bind λq=>(VT q.1).bind λk=>(W6 q.2 i).bind λd=>if d.1.length<16777216/\d.1.Nodup then some (Ou.nx (q.2.set i (.ow (let r:=X4 d.1 d.2 k z;.dct r.1 r.2)))) else none)=some o:=q;cases j:W6 δ1 i with
 |none=>rw[j] at q;cases q
 |some E=>
 obtain⟨G,T⟩:=E;rw[j] at q;cases h2:fk δ1 with
 |none=>simp[h2] at q
 |some p2=>
  obtain⟨y,δ2⟩:=p2;simp only[Aw,h2] at q;cases h:VT y with
  |none=>simp[h] at q
  |some e=>
   simp only[Aw,h] at q;cases g:W6 δ2 i with
   |none=>simp[g] at q
   |some C=>
    obtain⟨ks,ds⟩:=C;simp only[g,Aw] at q;split at q
    ·rename_i u
     cases q;refine⟨B,O,δ,z,δ1,S,h1,λs H1 n=>?_⟩;obtain⟨l,m,R,_⟩:=n.sta.ow i _ (S8 j);refine⟨.ref l,R,B,O,δ1,y,δ2,n.sta,h2,λU H2 R2=>?_⟩;have Q:=R2.rep.key h;subst Q;obtain⟨V,x,_,p⟩:=R2.sta.ow i _ (S8 g);rw[m] at x;cases x;generalize hw:cX.dct ks ds=W at p;cases p with
     |lst _ _=>cases hw
     |dct t r=>
      cases hw;have F:=n.rep.fr R2.frm (λa z=>.inr z) λa z=>.inr z;obtain⟨P,N⟩:=LH (k:=e) F u.2 r;refine⟨l,_,rfl,DPut.k t (by rw[Di];simpa using u.1),k σ _ O (R2.sta.wrote m (λz=>z) ?_)⟩;have w:NR K (Nn B O) (aN H2 l (.dK (W7 _ e s))) l (.dct ((W7 _ e s).map Cz) _):=.dct bZ (JS t (.inr ⟨i,m⟩) N);rw[P] at w;exact w
    ·cases q
end
section
variable{X:Cx}{K:As}{ml:List Nat}{e a b c:Tj}{es:List Tj}{pa ta ia pb tb ib pc tc ic pu bt bi ps bs:Bool}{fa fb fc f:VF}{B B':Bs}{O:Nat->Option Tf}{H H0 H1 H':Hp}{σ:St}{δ δ':Ev}{v:V}{d:cX}{p:Tf}{pos:Pos}
def lL(i j k:Nat)(ta:TA):TS:=λD σ H=>ta σ H λvs H1=>∃v w u,vs=[v,w,u]/\D.nx (((σ.set i (some v)).set j (some w)).set k (some u)) H1
theorem nQ{i j k:Nat}{x y z:Ti}{a b c:Tj}{ta:TA}{t r n pt:Pos}{kt k2 pt2}(hc:X.calm=true)(J:X.N.Nodup)(hi:X.N[i]?=some x)(V:X.N[j]?=some y)(U:X.N[k]?=some z)(G:i≠j)(F:i≠k)(E:j≠k)(M:X.env.scope.names.lookup x=some .local)(L:X.env.scope.names.lookup y=some .local)(K:X.env.scope.names.lookup z=some .local)(W:PA X [a,b,c] ta)(hw:Fq [.Tuple [.Name x t,.Name y r,.Name z n] kt pt] (.Tuple [a,b,c] k2 pt2) X.env=pure (some [x,y,z]))(hs:Fp [.Tuple [.Name x t,.Name y r,.Name z n] kt pt] (.Tuple [a,b,c] k2 pt2) pos.line X.env=pure false:=by rfl):PS X (.Assign [.Tuple [.Name x t,.Name y r,.Name z n] kt pt] (.Tuple [a,b,c] k2 pt2) pos) (lL i j k ta):=by
 intro aa s σ H D I h;rw[exec_Assign_arm];refine Ac (Ea ?_);rw[hs];refine Ac (An ?_);rw[if_neg (by decide)];refine Ac (Tuple_ (ZB (W _ aa s σ H _ I h) λP s1 ⟨vs,H1,I1,S,q1⟩=>?_));obtain⟨v,w,u,Y,q1⟩:=q1;subst Y;obtain⟨g,f,d,rfl,Q,l,R⟩:∃g f d,P=[g,f,d]/\bO v g/\bO w f/\bO u d:=by
  cases S with
  |cons p q=>
   cases q with
   |cons p' T=>
    cases T with
    |cons B m=>
     cases m;exact⟨_,_,_,rfl,p,p',B⟩
 refine Dd ?_ (by show 3<=sizeLine;decide);have I2:cE X aa σ H1 {s1 with heap:=s1.heap.push {cls:=.type "tuple",data:=.seq [g,f,d].toArray}}:=I1.kept (t':=s1.toks) λb o e=>Ae _ e;rw[hw];refine Ac (An ?_);show Tg (Th X.prog X.w) X.A (do rule "assign.swapped-stores";let items<-Jk (.ref s1.heap.objs.size) 3 none;Tv [λv=>Ja X.env z v,λv=>Ja X.env y v,λv=>Ja X.env x v] items.reverse;pure Flow.next) _ _ _;refine Ac (Gy (Ac (Ol (items:= #[g,f,d]) (I.ok.hd hc) (Kr s1.heap _) λh' C=>?_)));have I3:=I2.kept (h':=h') (t':=s1.toks) λb o e=>C b o (Bk (Aq e)) e;show Tg _ _ (Tv [λv=>Ja X.env z v,λv=>Ja X.env y v,λv=>Ja X.env x v] [d,f,g]>>=λ_=>pure Flow.next) _ _ _;refine Ac (Ej (Iq (X5 I3 J U (.inl K) R (λs2 I4=>?_) (.inr K))));refine Ej (Iq (X5 I4 J V (.inl L) l (λs3 Z=>?_) (.inr L)));refine Ej (Iq (X5 Z J hi (.inl M) Q (λs4 O=>Ig (An ?_)) (.inr M)));rw[Ek _ _ (Dn G),Ek _ _ (Dn F),Ek _ _ (Dn E)] at O;exact⟨_,H1,O,q1⟩
noncomputable def NF(i j k:Nat)(x y z:VX):VS:=λδ=>(x δ).bind λp=>(y p.2).bind λq=>(z q.2).bind λr=>if i<r.2.length/\j<r.2.length/\k<r.2.length then some (.nx (((r.2.set k r.1).set j q.1).set i p.1)) else none
theorem LM{i j k:Nat}{x y z:VX}{o:Ou}(h:NF i j k x y z δ=some o):∃s1 δ1 d δ2 c a,x δ=some (s1,δ1)/\y δ1=some (d,δ2)/\z δ2=some (c,a)/\(i<a.length/\j<a.length/\k<a.length)/\o=.nx (((a.set k c).set j d).set i s1):=by
 unfold NF at h;cases h1:x δ with
 |none=>rw[h1] at h;cases h
 |some p=>
  rw[h1] at h;cases h2:y p.2 with
  |none=>simp[h2] at h
  |some q=>
   simp only[Aw,h2] at h;cases b:z q.2 with
   |none=>simp[b] at h
   |some r=>
    simp only[Aw,b] at h;split at h
    ·cases h
     exact⟨p.1,p.2,q.1,q.2,r.1,r.2,rfl,h2,b,by assumption,rfl⟩
    ·cases h
theorem Zt{i j k:Nat}{x y z:Ti}{E C A:VX}{m l h pt:Pos}{kt k2 pt2}(hc:X.calm=true)(hN:X.N.Nodup)(hi:X.N[i]?=some x)(W:X.N[j]?=some y)(V:X.N[k]?=some z)(f:i≠j)(e:i≠k)(d:j≠k)(U:X.env.scope.names.lookup x=some .local)(T:X.env.scope.names.lookup y=some .local)(R:X.env.scope.names.lookup z=some .local)(Z:PE X a (TX K ml E))(hb:PE X b (TX K ml C))(w:PE X c (TX K ml A))(hw:Fq [.Tuple [.Name x m,.Name y l,.Name z h] kt pt] (.Tuple [a,b,c] k2 pt2) X.env=pure (some [x,y,z]))(s:i∉ml:=by decide)(r:j∉ml:=by decide)(p:k∉ml:=by decide)(hs:Fp [.Tuple [.Name x m,.Name y l,.Name z h] kt pt] (.Tuple [a,b,c] k2 pt2) pos.line X.env=pure false:=by rfl)(Y:Aj (a::[b,c]) X.env=(false,eval a X.env)::Aj [b,c] X.env:=by rfl)(u:Aj (b::[c]) X.env=(false,eval b X.env)::Aj [c] X.env:=by rfl)(t:Aj (c::[]) X.env=(false,eval c X.env)::Aj [] X.env:=by rfl):
  PS X (.Assign [.Tuple [.Name x m,.Name y l,.Name z h] kt pt] (.Tuple [a,b,c] k2 pt2) pos) (SK K ml (NF i j k E C A)):=(nQ hc hN hi W V f e d U T R (bC Z (bC hb (bC w Y7 t) u) Y) hw hs).imp λD σ H n=>by
 obtain⟨B,O,δ,o,S,q,k⟩:=n;obtain⟨s1,δ1,Q,δ2,P,g,h1,h2,h3,hl,rfl⟩:=LM q;refine⟨B,O,δ,s1,δ1,S,h1,λv H1 B1 S1 J f1=>⟨B1,O,δ1,Q,δ2,S1,h2,λM H2 B2 S2 I f2=>⟨B2,O,δ2,P,g,S2,h3,λL H3 B3 S3 G f3=>⟨v,M,L,rfl,?_⟩⟩⟩⟩;obtain⟨O4,S4⟩:=G.bind S3 p hl.2.2;obtain⟨O5,S5⟩:=(I.fr f3).bind S4 r (by rw[Bz];exact hl.2.1);obtain⟨O6,F⟩:=((J.fr f2).fr f3).bind S5 s (by rw[Bz,Bz];exact hl.1);rw[Ek _ _ (Dn f),Ek _ _ (Dn e),Ek _ _ (Dn d)] at F;exact k _ _ _ F
theorem eF{i j k:Nat}{x y z:Ti}{T R Q:VX}{f e d pt:Pos}{kt k2 pt2}(hK:X.K=K)(hc:X.calm=true)(E:X.N.Nodup)(hi:X.N[i]?=some x)(hj:X.N[j]?=some y)(hk:X.N[k]?=some z)(u:i≠j)(t:i≠k)(s:j≠k)(hx:AB X.env.scope x)(hy:AB X.env.scope y)(hz:AB X.env.scope z)(ha:PE X a (TX K ml T))(hb:PE X b (TX K ml R))(C:PE X c (TX K ml Q))(r:i∉ml:=by decide)(n:j∉ml:=by decide)(m:k∉ml:=by decide)(hs:Fp [.Tuple [.Name x f,.Name y e,.Name z d] kt pt] (.Tuple [a,b,c] k2 pt2) pos.line X.env=pure false:=by rfl)(hw:Fq [.Tuple [.Name x f,.Name y e,.Name z d] kt pt] (.Tuple [a,b,c] k2 pt2) X.env=pure none:=by rfl)(hn:(Tk [.Name x f,.Name y e,.Name z d] X.env).length=3:=by rfl)(h:(Tk [.Name x f,.Name y e,.Name z d] X.env).findIdx? (·.1)=none:=by rfl)(g1:(Tk [.Name x f,.Name y e,.Name z d] X.env).map (·.2)=assign (.Name x f) X.env::(Tk [.Name y e,.Name z d] X.env).map (·.2):=by rfl)(g2:(Tk [.Name y e,.Name z d] X.env).map (·.2)=assign (.Name y e) X.env::(Tk [.Name z d] X.env).map (·.2):=by rfl)(g3:(Tk [.Name z d] X.env).map (·.2)=assign (.Name z d) X.env::(Tk [] X.env).map (·.2):=by rfl)(I:X.fn x=true∨X.env.scope.names.lookup x=some .local:=by first|exact .inl rfl|exact .inr rfl|assumption)(G:X.fn y=true∨X.env.scope.names.lookup y=some .local:=by first|exact .inl rfl|exact .inr rfl|assumption)(F:X.fn z=true∨X.env.scope.names.lookup z=some .local:=by first|exact .inl rfl|exact .inr rfl|assumption)(h1:(Tk [.Tuple [.Name x f,.Name y e,.Name z d] kt pt] X.env).map (·.2)=[assign (.Tuple [.Name x f,.Name y e,.Name z d] kt pt) X.env]:=by rfl)(he:Aj (a::[b,c]) X.env=(false,eval a X.env)::Aj [b,c] X.env:=by rfl)(A:Aj (b::[c]) X.env=(false,eval b X.env)::Aj [c] X.env:=by rfl)(w:Aj (c::[]) X.env=(false,eval c X.env)::Aj [] X.env:=by rfl):PS X (.Assign [.Tuple [.Name x f,.Name y e,.Name z d] kt pt] (.Tuple [a,b,c] k2 pt2) pos) (SK K ml (NF i j k T R Q)):=
 (JQ (Wz (bC ha (bC hb (bC C Y7 w) A) he)) (Wi (K:=K) hK hc (QY (N4 E hi hx I) (QY (N4 E hj hy G) (QY (N4 E hk hz F) DA g3) g2) g1) hn h) hs hw h1).imp λD σ H l=>by obtain⟨B,O,δ,o,S,q,k⟩:=l;obtain⟨s1,δ1,s2,δ2,s3,g,h1,h2,h3,hl,rfl⟩:=LM q;refine⟨B,O,δ,s1,δ1,S,h1,λv H1 B1 S1 Z f1=>⟨B1,O,δ1,s2,δ2,S1,h2,λM H2 B2 S2 Y f2=>⟨B2,O,δ2,s3,g,S2,h3,λL V B3 S3 W f3=>⟨(by show 3<=sizeLine;decide),λp P=>⟨p,_,rfl,V0.of bZ,rfl,v,_,rfl,M,_,rfl,L,_,rfl,rfl,?_⟩⟩⟩⟩⟩;have J:Fr (OA O) V (aN V p (.tup [v,M,L])):=(cN P).fr;obtain⟨O4,S4⟩:=(W.fr J).bind (S3.same (cN P)) m hl.2.2;obtain⟨O5,S5⟩:=((Y.fr f3).fr J).bind S4 n (by rw[Bz];exact hl.2.1);obtain⟨O6,U⟩:=(((Z.fr f2).fr f3).fr J).bind S5 r (by rw[Bz,Bz];exact hl.1);rw[Ek _ _ (Dn u),Ek _ _ (Dn t),Ek _ _ (Dn s)] at U;exact k _ _ _ U
noncomputable def DY(i:Nat)(b a:VF):VS:=λδ=>(a δ).bind λp=>(WC p.2 i).bind λ_=>(b p.2).bind λq=>(WC q.2 i).bind λds=>match q.1 with
 |.int k=>(K4 ds.length k).map λj=>.nx (q.2.set i (.ow (.lst (ds.set j p.1))))
 |_=>none
theorem jT{i:Nat}{n t:VF}{bp:Pos}(P:X.K=K)(E:PE X a (OI i))(hi:PE X b (TV K ml pa ta ia n))(C:PE X c (TV K ml pb true true t))(F:∀v,assign (.Subscript a b bp) X.env v=(do
   let d<-Mc [v] (eval a X.env)
   let f<-Mc [v,d] (eval b X.env)
   Mb bp
   Mc [v,d,f] (setItem d f v)
   release [v,d,f] []):=by intro _;rfl)
  (hs:Fp [.Subscript a b bp] c pos.line X.env=pure false:=by rfl) (hw:Fq [.Subscript a b bp] c X.env=pure none:=by rfl)
  (h1:(Tk [.Subscript a b bp] X.env).map (·.2)=[assign (.Subscript a b bp) X.env]:=by rfl):PS X (.Assign [.Subscript a b bp] c pos) (SK K ml (DY i n t)):=
 (JQ C (oE E hi nY F) hs hw h1).imp λD σ H g => by
  obtain⟨B,O,δ,o,S,q,k⟩:=g;unfold DY at q;obtain⟨⟨z,δ1⟩,h1,q⟩:=Aa.mp q;cases m:WC δ1 i with
  |none=>simp[m] at q
  |some L=>
   simp only[Aw,m] at q;cases h2:n δ1 with
   |none=>simp[h2] at q
   |some p2=>
    obtain⟨y,δ2⟩:=p2;simp only[Aw,h2] at q;cases h:WC δ2 i with
    |none=>simp[h] at q
    |some ds=>
     simp only[h,Aw] at q;cases y with
     |int e=>
      have q:((K4 ds.length e).map λj=>Ou.nx (δ2.set i (.ow (.lst (ds.set j z)))))=some o:=q;obtain⟨j,G,q⟩:=Ar.mp q;cases q;refine⟨B,O,δ,z,δ1,S,h1,λM H1 s=>?_⟩;obtain⟨l,p,J,_⟩:=s.sta.ow i _ (S9 m);refine⟨.ref l,J,B,O,δ1,_,δ2,s.sta,h2,λx H2 R2=>?_⟩;have I:x=.int e:=by have r:=R2.rep;cases r;rfl
      subst I;obtain⟨N,u,_,w⟩:=R2.sta.ow i _ (S9 h);rw[p] at u;cases u;cases w with
      |lst hl r=>
       have A:=s.rep.fr R2.frm (λa z=>.inr z) λa z=>.inr z;refine⟨l,_,e,j,rfl,rfl,hl,by rw[r.length];exact G,k σ _ O (R2.sta.wrote p (λz=>z) (.lst bZ (OS (ys:=[]) hl (.inr ⟨i,p⟩) (r.set A j))))⟩
     |_=>cases q
end
section
variable{prog:Br}{w:Tl}{A:Df}{E:Te->Ah->Prop}{s:Ah}
theorem R6{it t:Tf}{i:Nat}{items:Array Te}{x:Te}{Q:Te->Ah->Prop}(a:s.heap.IsTupleIter it t i)(e:s.heap.IsTuple t items)(d:items[i]?=some x)(f:∀h',h'.IsTupleIter it t (i+1)->Fo it s.heap h'->Q x {s with heap:=h'}):Tg (Th prog w) A (Ck (.ref it)) Q E s:=by obtain⟨l,c,j,b⟩:=id a;obtain⟨k,g,_,m,h⟩:=e;unfold Ck;refine Ac (Du (name:=Am "__next__") a.typeIs Fm (Ep Fm a.typeIs Jq ?_ (Jd _)));show Tg _ _ (field (Bx it) 0>>=_) _ _ s;refine Ac (Em c b (x:=.ref t) rfl ?_);show Tg _ _ (if(Bx t== .none)=true then _ else _) _ _ s;rw[if_neg (show¬(Bx t==Value.none)=true from Dj)];show Tg _ _ (field (Bx it) 1>>=_) _ _ s;refine Ac (Em c b (x:=.int i 0) rfl ?_);show Tg _ _ (seqItems? (Bx t)>>=_) _ _ s;refine Ac (Fg g h ?_);simp only[d,Dt];refine Ac (wpAny_setField c b (by simp) (An ⟨x,rfl,An (f _ ⟨_,Mh _ c (Obj.isFreed_of_fields (Nz b _)),(Obj.cls_mapFields ..).trans j,?_⟩ (Nj ..))⟩));rw[Nz b];simp[rawInt]
theorem QU{it t:Tf}{i:Nat}{items:Array Te}{Q:Te->Ah->Prop}(f:A.handled=none)(b:s.heap.IsTupleIter it t i)(h:s.heap.IsTuple t items)(g:items[i]?=none)(j:∀h' e,Jp it s.heap h'->(∃o,h'.get? e=some o/\o.cls=.type "StopIteration")->E (.ref e) {s with heap:=h'}):Tg (Th prog w) A (Ck (.ref it)) Q E s:=by
 obtain⟨p,c,r,d⟩:=id b;obtain⟨n,k,_,q,l⟩:=h;unfold Ck;refine Ac (Du (name:=Am "__next__") b.typeIs Fm (Ep Fm b.typeIs Jq ?_ (Jd _)));show Tg _ _ (field (Bx it) 0>>=_) _ _ s;refine Ac (Em c d (x:=.ref t) rfl ?_);show Tg _ _ (if(Bx t== .none)=true then _ else _) _ _ s;rw[if_neg (show¬(Bx t==Value.none)=true from Dj)];show Tg _ _ (field (Bx it) 1>>=_) _ _ s;refine Ac (Em c d (x:=.int i 0) rfl ?_);show Tg _ _ (seqItems? (Bx t)>>=_) _ _ s;refine Ac (Fg k l ?_);simp only[g,Dt];refine Ac (Gy (Ac (wpAny_setField c d (by simp) ?_)));show Tg _ _ (newExc (Kp "StopIteration") []>>=_) _ _ _;refine Ac ?_;unfold newExc newTuple;refine Ac (Dd ?_ (by size_fits));refine Ac (m:=firstArgMember _ _) (wpAny_of_eq (a:=Value.none) (by first|rfl|(unfold firstArgMember;rfl)) (Dd ?_ (by size_fits)));unfold raiseNew;refine Ac (wpAny_handled ?_);first|rw[f]|rw[show A.in1.handled=none from f]
 refine Ac (An (wpAny_throw (j _ _ (((Nj ..).extBut.push _).push _) ⟨_,Ay _ rfl,rfl⟩)))
end
theorem A0{prog:Br}{w:Tl}{A:Df}(g:A.handled=none)(it t:Tf)(d:t≠it)(items:Array Te):
  Draws prog w A it [it,t] items.size (λi v=>items[i]?=some v) (λi h=>h.IsTupleIter it t i/\h.IsTuple t items) where
 live:=λ_ _ st=>let ⟨o,c,_⟩:=st.1;⟨o,c⟩
 frame:=λ_ _ _ st f=>⟨st.1.at λo e=>f it (by simp) o e,by obtain⟨o,c,r⟩:=st.2;exact⟨o,f t (by simp) o c,r⟩⟩
 item:=λi s Q E hi st j=>R6 st.1 st.2 (x:=items[i]) (by simp[hi]) λh' a b=>j _ h' s.toks (by simp[hi]) ⟨a,st.2.extBut b.extBut d⟩ b
 done:=λs Q E st k=>QU g st.1 st.2 (by simp) k
section
variable{X:Cx}{aa:List (Tf×Tq)}{σ:St}{H:Hp}{s:Ah}{h':Tp}
theorem cE.turnedL{t':Nat}{fp:List Tf}(I:cE X aa σ H s)(k:∀b o,b∉fp->s.heap.get? b=some o->h'.get? b=some o)(there:∀b∈fp,∃o,h'.get? b=some o)(d:∀b∈fp,O8 X aa H b):cE X aa σ H {s with heap:=h',toks:=t'}:=by
 have a:∀b u,H b=some u->b∉fp:=λb u e z=>by rw[(d b z).1] at e;cases e
 have h:X.env.locals∉fp:=λz=>(d _ z).2.1 rfl;refine I.step (g':=s.gens) (d':=s.drawn) (ch:=fp) (λb hb=>?_) (λb o _ _ hc e _=>k b o hc e) (λb o _ _ hc e _=>⟨o.slots,k b o hc e⟩) (λ_ _ _ _ n=>n)
  (λb o hc e=>⟨o,k b o hc e⟩) (λ_ _ e=>e) (λ_ _ _ e=>e) (λb ps e=>⟨#[],by rw[e];simp⟩) (λm g=>?_) (λb u e=>?_) I.bare
 ·obtain⟨_,f1,f2,f3,j,i⟩:=d b hb
  exact⟨f3,f1,j,i⟩
 ·obtain⟨o,es,l,f,r⟩:=g
  exact⟨o,es,l,k _ o h f,r⟩
 ·refine (I.hok b u e).stay (λc v hc q => k c v ?_ q) (λ_ q => q) λ_ _ q => q
  rcases hc with z|z
  ·rw[z];exact a b u e
  ·exact a c _ z
end
section
variable{X:Cx}{aa:List (Tf×Tq)}{σ:St}{H:Hp}{s:Ah}{h':Tp}
theorem cE.turnedL'{t':Nat}{fp:List Tf}(I:cE X aa σ H s)(k:∀b o,b∉fp->s.heap.get? b=some o->h'.get? b=some o)(d:∀b∈fp,O8 X aa H b):cE X aa σ H {s with heap:=h',toks:=t'}:=by
 have a:∀b u,H b=some u->b∉fp:=λb u e z=>by rw[(d b z).1] at e;cases e
 have h:X.env.locals∉fp:=λz=>(d _ z).2.1 rfl;refine I.step (g':=s.gens) (d':=s.drawn) (ch:=fp) (λb hb=>?_) (λb o _ _ hc e _=>k b o hc e) (λb o _ _ hc e _=>⟨o.slots,k b o hc e⟩) (λ_ _ _ _ n=>n)
  (λb o hc e=>⟨o,k b o hc e⟩) (λ_ _ e=>e) (λ_ _ _ e=>e) (λb ps e=>⟨#[],by rw[e];simp⟩) (λm g=>?_) (λb u e=>?_) I.bare
 ·obtain⟨_,f1,f2,f3,j,i⟩:=d b hb
  exact⟨f3,f1,j,i⟩
 ·obtain⟨o,es,l,f,r⟩:=g
  exact⟨o,es,l,k _ o h f,r⟩
 ·refine (I.hok b u e).stay (λc v hc q => k c v ?_ q) (λ_ q => q) λ_ _ q => q
  rcases hc with z|z
  ·rw[z];exact a b u e
  ·exact a c _ z
end
def KB(K:As)(tup:Bool)(H:Hp)(a:Tf)(xs:List V):Prop:=if tup=true then V0 K H a xs else WT K H a xs
def QB(tup:Bool)(h:Tp)(a:Tf)(items:Array Te):Prop:=if tup=true then h.IsTuple a items else h.IsList a items
def UL(tup:Bool)(h:Tp)(it a:Tf)(i:Nat):Prop:=if tup=true then h.IsTupleIter it a i else h.IsListIter it a i
theorem Ur{prog:Br}{w:Tl}{A:Df}(b:A.handled=none)(tup:Bool)(it t:Tf)(a:t≠it)(items:Array Te):Draws prog w A it [it,t] items.size (λi v=>items[i]?=some v) (λi h=>UL tup h it t i/\QB tup h t items):=by
 cases tup with
 |true=>exact A0 b it t a items
 |false=>exact Draws.list b it t a items
theorem QB.lt{tup:Bool}{h:Tp}{a:Tf}{items:Array Te}(s:QB tup h a items):a<h.objs.size:=by
 cases tup with
 |true=>obtain⟨o,e,_⟩:=s;exact Aq e
 |false=>obtain⟨o,e,_⟩:=s;exact Aq e
theorem cE.srcA{X:Cx}{aa:List (Tf×Tq)}{σ:St}{H:Hp}{s:Ah}{a:Tf}{xs:List V}{tup:Bool}(I:cE X aa σ H s)(h:KB X.K tup H a xs):∃its:List Te,bJ xs its/\QB tup s.heap a its.toArray/\xs.length<=sizeLine:=by
 cases tup with
 |true=>
  obtain⟨its,r,p,z⟩:=I.tuple h;exact⟨its,r,p,z⟩
 |false=>
  obtain⟨its,r,p,z⟩:=I.list h;exact⟨its,r,p.isList,z⟩
theorem cE.sq_inj{X:Cx}{aa:List (Tf×Tq)}{σ:St}{H:Hp}{s:Ah}{a:Tf}{xs ys:List V}{tup:Bool}(I:cE X aa σ H s)(h:KB X.K tup H a xs)(h':KB X.K tup H a ys):xs=ys:=by
 cases tup with
 |true=>exact I.tuple_inj h h'
 |false=>exact I.list_inj h h'
theorem UL.at{tup:Bool}{h h':Tp}{it a:Tf}{i:Nat}(st:UL tup h it a i)(k:∀o,h.get? it=some o->h'.get? it=some o):UL tup h' it a i:=by
 cases tup with
 |true=>exact Heap.IsTupleIter.at st k
 |false=>exact Heap.IsListIter.at st k
theorem UL.obj{tup:Bool}{h:Tp}{it a:Tf}{i:Nat}(st:UL tup h it a i):∃o,h.get? it=some o/\∀v,o.data≠ .cell v:=by
 cases tup with
 |true=>
  obtain⟨o,e,c,d⟩:=st;exact⟨o,e,λv z=>by rw[d] at z;cases z⟩
 |false=>
  obtain⟨o,e,c,d⟩:=st;exact⟨o,e,λv z=>by rw[d] at z;cases z⟩
noncomputable def Ite(K:As)(tup:Bool)(a:Tf):It:=
 ⟨λi H=>∃xs x,KB K tup H a xs/\xs[i]?=some x,λi H v H'=>∃p x,(∀xs,KB K tup H a xs->xs[i]?=some x)/\H p=none/\H'=aN H p (.tup [.int i,x])/\v=.ref p,λi H=>∃xs,KB K tup H a xs/\xs.length=i⟩
theorem B5{P:Br}{w:Tl}{K:As}{es:List Tj}{k:Nat}{pos:Pos}(tup:Bool)(a e it:Tf)(f:e≠it)(O:a≠e)(B:a≠it):
  F4 P w K (.Tuple es k pos) (Ite K tup a) [e,it] e (λi h=>(∃d,IsEnum h e it i d)/\UL tup h it a i) where
 mem:=by simp
 obj:=λi h st b hb=>by
  obtain⟨⟨d,g⟩,hi⟩:=st;rcases Ai.mp hb with z|z
  ·subst z
   exact⟨_,g,λv z=>by cases z⟩
  ·have:=Bb.mp z
   subst this;exact hi.obj
 keep:=λi h h' st F=>by obtain⟨⟨d,g⟩,hi⟩:=st;exact⟨⟨d,F e (by simp) _ g⟩,hi.at λo q=>F it (by simp) o q⟩
 item:=by
  intro X Q hw R hc i aa s σ H E I r st N;subst Q hw R;obtain⟨⟨d,g⟩,hi⟩:=st;obtain⟨xs,x,G,p⟩:=N;obtain⟨its,D,j,W⟩:=I.srcA G;have L:i<its.toArray.size:=by have:=(Ad.mp p).1;have:=D.length;simp only[At];lia
  have M:X.A.in1.handled=none:=I.ok.hd hc;refine wpAny_pyNext_enum_itemD (Ur M tup it a B its.toArray) g ⟨hi,j⟩ L f (by simp[f,Dn O]) λu h1 tk l ho n Z hsz hk=>⟨_,rfl,?_⟩;refine wpAny_letOwnedTupleGo_enum (s:={s with heap:=h1,toks:=tk+1}) ho λh2 t c=>?_;have c:Fo e h1 h2:=c;obtain⟨m,J,V⟩:=D.get p;have l:its.toArray[i]?=some u:=l;rw[List.getElem?_toArray,J] at l;have l:=Bw l;subst l;have F:∀b o,b∉[e,it]->s.heap.get? b=some o->h2.get? b=some o:=λb o hb q=>by have C:b≠e:=λz=>hb (by simp[z]);have S:b≠it:=λz=>hb (by simp[z]);exact(c.2 b C).trans (hk b o C S q)
  have fu:h2.get? s.heap.objs.size=some {cls:=.type "tuple",data:=.seq #[.int i tk,m]}:=(c.2 _ (Go (Aq g))).trans Z;have bq:H s.heap.objs.size=none:=I.hok.fresh (Ak _);have T:∀b∈[e,it],b<s.heap.objs.size:=λb hb=>by
   rcases Ai.mp hb with z|z
   ·rw[z];exact Aq g
   ·rw[Bb.mp z]
    obtain⟨o,q,_⟩:=hi.obj;exact Aq q
  have I0:cE X aa σ (aN H s.heap.objs.size (.tup [.int i,x])) {s with heap:=s.heap.push {cls:=.type "tuple",data:=.seq #[.int i tk,m]},toks:=tk}:=
   I.laid (λb o q=>Ae _ q) (Ak _) ⟨by show 2<=sizeLine;decide,[.int i tk,m],.cons ⟨tk,rfl⟩ (.cons V .nil),Kr _ _⟩
  have I1:cE X aa σ (aN H s.heap.objs.size (.tup [.int i,x])) {s with heap:=h2,toks:=tk+1}:=by
   refine cE.turnedL (s:={s with heap:=s.heap.push {cls:=.type "tuple",data:=.seq #[.int i tk,m]},toks:=tk}) (h':=h2) (t':=tk+1) (fp:=[e,it]) I0 (λb o hb q=>?_) (λb hb=>?_) λb hb=>⟨by rw[bF (Bk (T b hb))];exact(r b hb).1,(r b hb).2⟩
   ·by_cases y:b=s.heap.objs.size
    ·subst y
     have q:(s.heap.push {cls:=.type "tuple",data:=.seq #[.int i tk,m]}).get? s.heap.objs.size=some o:=q;rw[Ay _ rfl] at q;cases q;exact fu
    ·exact F b o hb ((Ij _ _ _ y).symm.trans q)
   ·rcases Ai.mp hb with z|z
    ·rw[z];exact⟨_,t⟩
    ·rw[Bb.mp z]
     obtain⟨o,q,_⟩:=n.1.obj;exact⟨o,(c.2 it (Dn f)).trans q⟩
  refine⟨.ref s.heap.objs.size,aN H s.heap.objs.size (.tup [.int i,x]),?_,rfl,⟨_,x,λys Y=>by rw[I.sq_inj Y G];exact p,bq,rfl,rfl⟩,⟨⟨_,by simpa using t⟩,n.1.at λo q=>(c.2 it (Dn f)).trans q⟩,λb hb=>?_⟩
  ·exact I1
  ·rw[bF (Bk (T b hb))]
   exact(r b hb).1
 done:=by
  intro X Q hw R hc i aa s σ H E I r st N;subst Q hw R;obtain⟨⟨d,g⟩,hi⟩:=st;obtain⟨xs,G,p⟩:=N;obtain⟨its,D,j,W⟩:=I.srcA G;have M:X.A.in1.handled=none:=I.ok.hd hc;have hn:its.toArray.size=i:=by rw[At,<-D.length];exact p
  refine wpAny_pyNext_enum_endD (Ur M tup it a B its.toArray) g ⟨by rw[hn];exact hi,j⟩ λh1 U=>⟨rfl,?_⟩;obtain⟨f0,f1,f2,f3,f4,f5⟩:=r it (by simp);exact I.turned (t':=s.toks) (λb o hb q=>U b o hb q) f0 f1 f3 f4 f5
 self:=λ_ i _ _ _ st h=>Ot st.1.choose_spec h
theorem A2(a:Tf)(items:Array Te)(n:Nat)(j:Option Tf)(f:Array (Option Te)):Meets (Nk.«enumerate.__new__» ⟨[.type "enumerate",.ref a],[]⟩) (λ_ R s=>s.heap.get? a=some {cls:=.type "tuple",dict:=j,data:=.seq items n,slots:=f}∧R (.ok (.ret (.ref (s.heap.push {cls:=.type "tuple_iterator",data:=.fields #[.ref a,.int 0 0]}).objs.size))) {s with heap:=(s.heap.push {cls:=.type "tuple_iterator",data:=.fields #[.ref a,.int 0 0]}).push {cls:=.type "enumerate",data:=.fields #[.none,.bool false,.ref s.heap.objs.size,rawInt 0,.none,.none]}}):=by
 refine .of_wp λprog w A R s h=>?_;obtain⟨i,g,d,tk,os⟩:=s;obtain⟨b,h⟩:=h;have hs:=sub_enumerate;have e:Heap.IsTuple (Qp ⟨i,g,d,tk,os⟩) a items:=⟨_,b,rfl,n,rfl⟩;wp_walk using Hm b
 refine wpAny_stack_any λst=>An ?_;split
 ·rename_i c _ _ _ _ _
  cases (c==Kp "enumerate")<;>(wp_walk using Hm b,Hq e;exact⟨_,rfl,h⟩)
 ·wp_walk using Hm b,Hq e
  exact⟨_,rfl,h⟩
theorem EM{prog:Br}{w:Tl}{A:Df}{E:Te->Ah->Prop}{s:Ah}{a:Tf}{items:Array Te}{tup:Bool}{Q:Te->Ah->Prop}(hs:QB tup s.heap a items)(h:∀h',IsEnum h' (s.heap.objs.size+1) s.heap.objs.size 0 .none->UL tup h' s.heap.objs.size a 0->(∀b o,s.heap.get? b=some o->h'.get? b=some o)->Q (.ref (s.heap.objs.size+1)) {s with heap:=h'}):Tg (Th prog w) A (call (.type "enumerate") [.ref a]) Q E s:=by
 cases tup with
 |false=>exact call_enumerate_list hs λh' l a2 _ a4=>h h' l a2 a4
 |true=>
  obtain⟨⟨k,j,i,f⟩,g,hc,n,d⟩:=hs;replace hc:k=.type "tuple":=hc
  replace d:i=.seq items n:=d
  subst hc d;have e:(s.heap.push {cls:=.type "tuple_iterator",data:=.fields #[.ref a,.int 0 0]}).objs.size=s.heap.objs.size+1:=De ..;refine callType_new F.called_enumerate (by decide) (F.typeCall_enumerate_1 _) (F.newCall_enumerate_1 _) (λobj=>F.args_object_init_2 obj _) F.entry_enumerate_new (A2 a items n j f) ⟨g,?_⟩;show _/\_;rw[e];have c:=Ay (s.heap.push {cls:=.type "tuple_iterator",data:=.fields #[.ref a,.int 0 0]}) (o:={cls:=.type "enumerate",data:=.fields #[.none,.bool false,.ref s.heap.objs.size,rawInt 0,.none,.none]}) rfl;rw[e] at c;exact⟨⟨_,c,rfl⟩,h _ c ⟨_,Ae _ (Ay _ rfl),rfl,rfl⟩ λb o x=>Ae _ (Ae _ x)⟩
theorem IM:Bo "enumerate"=some (.type "enumerate"):=by decide+kernel
theorem fT:Bo "zip"=some (.type "zip"):=by decide+kernel
section
variable{X:Cx}{K:As}{ml:List Nat}{l:Tj}{pu:Bool}{f:VF}{p pos du:Pos}{es:List Tj}{tk:Nat}{δ:Ev}
def iEnu(K:As)(tl:TE):TI:=λσ H R=>tl σ H λx H1=>∃a tup,x=.ref a/\(∃xs,KB K tup H1 a xs)/\R (Ite K tup a) H1
theorem mJ{tl:TE}(q:Gl X "enumerate")(o:X.mg "enumerate"=none)(hl:PE X l tl)(j:Aj (l::[]) X.env=(false,eval l X.env)::Aj [] X.env:=by rfl):PI X (.Tuple es tk du) (.Call (.Name "enumerate" p) [l] [] pos) (iEnu X.K tl):=by
 intro aa s σ H R I h;refine Fs (RM I q o IM ?_ (by decide) (by decide));refine El (ZB (bC hl Y7 j pos aa s σ H (λvs H1=>match vs with
  |[x]=>∃a tup,x=.ref a/\(∃xs,KB X.K tup H1 a xs)/\R (Ite X.K tup a) H1
  |_=>False) I h) λv s1 ⟨vs,H1,f,g,q1⟩=>?_) j (by rfl)
 match vs,g,q1 with
 |[x],g,q1=>
  obtain⟨a,tup,rfl,⟨xs,m⟩,r⟩:=q1;obtain⟨u,rfl,k⟩:=R7 g;cases k;obtain⟨its,w,c,_⟩:=f.srcA m;refine EM c λh' d i kp=>?_;have t:cE X aa σ H1 {s1 with heap:=h'}:=f.kept (t':=s1.toks) kp;have n:∀b,s1.heap.objs.size<=b->H1 b=none:=λb hb=>f.hok.fresh hb;refine Ot d ⟨s1.heap.objs.size+1,[s1.heap.objs.size+1,s1.heap.objs.size],_,Ite X.K tup a,H1,rfl,t,B5 tup a (s1.heap.objs.size+1) s1.heap.objs.size (Nat.succ_ne_self _) (λz=>?_) (λz=>?_),⟨⟨_,d⟩,i⟩,λb hb=>?_,r⟩
  ·have:=c.lt
   rw[z] at this;exact absurd this (Nat.not_lt_of_le (Ge _))
  ·have:=c.lt
   rw[z] at this;exact absurd this (Cm _)
  ·have e:s1.heap.objs.size<=b:=by
    rcases Ai.mp hb with z|z
    ·rw[z];exact Ge _
    ·rw[Bb.mp z];exact Ak _
   exact f.fpOk e (n b e)
theorem kI(h:X.K=K){tl:TE}(b:Gl X "enumerate")(a:X.mg "enumerate"=none)(hl:PE X l tl)(c:Aj (l::[]) X.env=(false,eval l X.env)::Aj [] X.env:=by rfl):PI X (.Tuple es tk du) (.Call (.Name "enumerate" p) [l] [] pos) (iEnu K tl):=by subst h;exact mJ b a hl c
noncomputable def Y6:Nat->List cX->List cX
 |_,[]=>[]
 |i,d::ds=>.tup [.int i,d]::Y6 (i+1) ds
noncomputable def QP(f:VF):VI:=λδ=>(f δ).bind λp=>(W8 p.1).map λds=>(Y6 0 ds,p.2)
theorem QL:∀{ds:List cX} {n i:Nat} {d:cX},(Y6 n ds)[i]?=some d->∃x,ds[i]?=some x/\d=.tup [.int (n+i:Nat),x]
 |[],_,_,_,h=>by simp[Y6] at h
 |x::ds,n,0,d,h=>by simp[Y6] at h;exact⟨x,rfl,h.symm⟩
 |x::ds,n,i+1,d,h=>by
  have h:(Y6 (n+1) ds)[i]?=some d:=by simpa[Y6] using h
  obtain⟨y,h1,h2⟩:=QL h;exact⟨y,by simpa using h1,by rw[h2,show n+1+i=n+(i+1) by lia]⟩
theorem QM:∀(ds:List cX) (n:Nat),(Y6 n ds).length=ds.length
 |[],_=>rfl
 |_::ds,n=>congrArg (· +1) (QM ds (n+1))
theorem L0{a:Tf}{tup:Bool}{ds:List cX}:Walk K (Ite K tup a) [(.ref a,if tup=true then .tup ds else .lst ds)] (Y6 0 ds):=by
 intro N H h;have r:=h _ (Bb.mpr rfl);have b:∀xs,KB K tup H a xs->b7 K N H xs ds->(∀(i:Nat) (d:cX),(Y6 0 ds)[i]?=some d->(Ite K tup a).go i H/\∀x H',(Ite K tup a).yld i H x H'->aP H H'/\aX K N H' N x d)/\(Ite K tup a).stop (Y6 0 ds).length H:=λxs sq r=>by refine⟨λi d e=>?_,xs,sq,by rw[r.length,QM]⟩;obtain⟨z,l,rfl⟩:=QL e;obtain⟨x,f,g⟩:=r.get l;refine⟨⟨xs,x,sq,f⟩,λy H' j=>?_⟩;obtain⟨p,m,k,c,rfl,rfl⟩:=j;have:=k xs sq;rw[f] at this;cases this;refine⟨cN c,.tup (V0.of bZ) (.cons ?_ (.cons (g.same (cN c)) .nil))⟩;rw[Gd];exact .int _
 cases tup with
 |true=>
  have r:aX K N H N (.ref a) (.tup ds):=r;cases r with
  |tup sq r=>exact b _ sq r
 |false=>
  have r:aX K N H N (.ref a) (.lst ds):=r;cases r with
  |lst q n r=>exact b _ (WT.of q) r
  |fzl q r=>exact b _ q.sq r
theorem Q5(m:X.K=K)(i:Gl X "enumerate")(g:X.mg "enumerate"=none)(h:PE X l (TV K ml pu true true f))(j:Aj (l::[]) X.env=(false,eval l X.env)::Aj [] X.env:=by rfl):
  PI X (.Tuple es tk du) (.Call (.Name "enumerate" p) [l] [] pos) (AN K ml pu (QP f)):=(kI (K:=K) m i g h j).imp λσ H R d=>by
 obtain⟨B,O,δ,ds,δ',S,q,k⟩:=d;unfold QP at q;obtain⟨⟨x,δ1⟩,h1,q⟩:=Aa.mp q;refine⟨B,O,δ,x,δ1,S,h1,λv H1 b=>?_⟩;cases x with
 |lst c=>
  cases q;obtain⟨a,xs,rfl,sq,r⟩:=b.rep.lstE;exact⟨a,false,rfl,⟨xs,sq⟩,k _ [(.ref a,.lst c)] H1 (b.sta.keepV λp e=>by rw[Bb.mp e];exact b.rep) b.frm b.pur (L0 (tup:=false))⟩
 |tup c=>
  cases q;obtain⟨a,xs,rfl,sq,r⟩:=b.rep.tupE;exact⟨a,true,rfl,⟨xs,sq⟩,k _ [(.ref a,.tup c)] H1 (b.sta.keepV λp e=>by rw[Bb.mp e];exact b.rep) b.frm b.pur (L0 (tup:=true))⟩
 |_=>cases q
end
section
variable{prog:Br}{w:Tl}{A:Df}{E:Te->Ah->Prop}{s:Ah}
theorem UL.ext{tup:Bool}{h h':Tp}{it a b:Tf}{i:Nat}(x:UL tup h it a i)(hs:Jp b h h')(c:it≠b):UL tup h' it a i:=x.at λo e=>hs _ _ c e
theorem QB.ext{tup:Bool}{h h':Tp}{a b:Tf}{xs:Array Te}(x:QB tup h a xs)(hs:Jp b h h')(c:a≠b):QB tup h' a xs:=by
 cases tup with
 |true=>obtain⟨o,e,r⟩:=x;exact⟨o,hs _ _ c e,r⟩
 |false=>obtain⟨o,e,r⟩:=x;exact⟨o,hs _ _ c e,r⟩
theorem RO{tup:Bool}{it a:Tf}{i:Nat}{xs:Array Te}{x:Te}{Q:Te->Ah->Prop}(hi:UL tup s.heap it a i)(hs:QB tup s.heap a xs)(b:xs[i]?=some x)(c:∀h',UL tup h' it a (i+1)->Fo it s.heap h'->Q x {s with heap:=h'}):Tg (Th prog w) A (Ck (.ref it)) Q E s:=by
 cases tup with
 |true=>exact R6 hi hs b c
 |false=>exact wpAny_nextOf_list_item hi hs b c
theorem K9{tup:Bool}{it a:Tf}{i:Nat}{xs:Array Te}{Q:Te->Ah->Prop}(c:A.handled=none)(hi:UL tup s.heap it a i)(hs:QB tup s.heap a xs)(b:xs[i]?=none)(d:∀h' e,Jp it s.heap h'->(∃o,h'.get? e=some o/\o.cls=.type "StopIteration")->E (.ref e) {s with heap:=h'}):Tg (Th prog w) A (Ck (.ref it)) Q E s:=by
 cases tup with
 |true=>exact QU c hi hs b d
 |false=>exact wpAny_nextOf_list_end c hi hs b d
structure ZSt(t1 t2:Bool)(h:Tp)(z p q i1 i2 a b:Tf)(k:Nat)(f0:Te):Prop where
 zip:IsZip h z p q f0
 its:IsPair h p (.ref i1) (.ref i2)
 res:∃u v,IsPair h q u v
 one:UL t1 h i1 a k
 two:UL t2 h i2 b k
theorem CC{t1 I:Bool}{z p q h f a b:Tf}{k:Nat}{xs ys:Array Te}{x y:Te}{Q:Te->Ah->Prop}(D:Mr z p q h f a b)(S:ZSt t1 I s.heap z p q h f a b k .none)(s1:QB t1 s.heap a xs)(Z:QB I s.heap b ys)(hx:xs[k]?=some x)(hy:ys[k]?=some y)(hQ:∀h',ZSt t1 I h' z p q h f a b (k+1) (rawInt s.heap.objs.size)->IsPair h' s.heap.objs.size x y->h'.objs.size=s.heap.objs.size+1->(∀c o,c≠z->c≠q->c≠h->c≠f->s.heap.get? c=some o->h'.get? c=some o)->Q (.ref s.heap.objs.size) {s with heap:=h'}):Tg (Th prog w) A (Nk.«zip.__next__» ⟨[.ref z],[]⟩) (λO s'=>∃v,O=.done (.ret v)/\Q v s') E s:=by
 obtain⟨C,X,⟨u,v,gr⟩,g1,g2⟩:=S;show Tg _ _ (field (Bx z) 2>>=_) _ _ _;refine Ac (Em C rfl (x:=.bool false) rfl ?_);show Tg _ _ (field (Bx z) 3>>=_) _ _ _;refine Ac (Em C rfl (x:=.ref p) rfl (Ac (Fg X rfl ?_)));show Tg _ _ (Ed (Bx z)>>=_) _ _ _;refine Ac ?_
 (unfold Ed)
 refine Ac (Em C rfl (x:=.none) rfl (An ?_));simp only[if_true];refine Ac (Gy (Ac (Em C rfl (x:=.ref q) rfl (Ac (Ft C (by simp) λha M j=>Ac ?_)))));have M:IsZip ha z p q .ellipsis:=M;simp only[Qq,Pp,Nb,Jo];refine Ac (Ac (Li ?_));show Tg _ _ (Ck (Bx h)>>=_) _ _ _;refine Ac (RO (g1.ext j.extBut D.i1z) (s1.ext j.extBut D.l1z) hx λhb n1 m=>An ?_);have V:IsPair hb q u v:=m.extBut _ _ D.TOi1 (j.extBut _ _ D.TOz gr);refine Ac (Fg V rfl (Ac (Iz V λhc N l=>Ac (Qr (An ?_)))));have N:IsPair hc q x v:=N;refine Ac (Ac (Li ?_));show Tg _ _ (Ck (Bx f)>>=_) _ _ _;refine Ac (RO (((g2.ext j.extBut D.i2z).ext m.extBut D.i12.symm).ext l.extBut D.TOi2.symm) (((Z.ext j.extBut D.l2z).ext m.extBut D.l2i1).ext l.extBut D.l2TO) hy λhd n2 G=>An ?_);have rd:IsPair hd q x v:=G.extBut _ _ D.TOi2 N;refine Ac (Fg rd rfl (Ac (Iz rd λd J F=>Ac (Qr (An (An ?_))))));have J:IsPair d q x y:=J;refine Ac (Fg J rfl (Ac (wpAny_newTuple ?_)));have e:d.objs.size=s.heap.objs.size:=by rw[F.1,G.1,l.1,m.1,j.1]
 have U:IsZip d z p q .ellipsis:=F.extBut _ _ D.TOz.symm (G.extBut _ _ D.i2z.symm (l.extBut _ _ D.TOz.symm (m.extBut _ _ D.i1z.symm M)));have W:∀c o,c≠z->c≠q->c≠h->c≠f->s.heap.get? c=some o->d.get? c=some o:=λc o i K R P g=>F.extBut _ _ K (G.extBut _ _ P (l.extBut _ _ K (m.extBut _ _ R (j.extBut _ _ i g))));have e1:UL t1 d h a (k+1):=((n1.ext l.extBut D.TOi1.symm).ext G.extBut D.i12).ext F.extBut D.TOi1.symm;have e2:UL I d f b (k+1):=n2.ext F.extBut D.TOi2.symm;have ie:IsPair d p (.ref h) (.ref f):=W _ _ D.TIz D.TITO D.TIi1 D.TIi2 X;have n:z<d.objs.size:=Aq U;show Tg _ _ (He (Bx z) (.ref d.objs.size)>>=_) _ _ _;refine Ac ?_
 (unfold He)
 have Y:IsZip (d.push {cls:=.type "tuple",data:=.seq #[x,y]}) z p q .ellipsis:=Ae _ U;refine Ac (Ft Y (by simp) λhg L T=>?_);have L:IsZip hg z p q (rawInt d.objs.size):=L;refine Ft L (by simp) λB H bk=>?_;have H:IsZip B z p q (rawInt d.objs.size):=H;have r:∀c o,c≠z->d.get? c=some o->B.get? c=some o:=λc o i g=>bk.extBut _ _ i (T.extBut _ _ i (Ae _ g));have tk:IsPair B d.objs.size x y:=bk.extBut _ _ (Go n) (T.extBut _ _ (Go n) (Ay _ rfl));have t:B.objs.size=d.objs.size+1:=by rw[bk.1,T.1,De]
 rw[e] at H tk t;refine An ⟨_,rfl,?_⟩;show Q (.ref d.objs.size) _;rw[e];exact hQ B ⟨H,r _ _ D.TIz ie,⟨x,y,r _ _ D.TOz J⟩,e1.at λo g=>r _ o D.i1z g,e2.at λo g=>r _ o D.i2z g⟩ tk t λc o i K R P g=>r c o i (W c o i K R P g)
theorem dC{t1 I:Bool}{z p q t r a b:Tf}{k:Nat}{xs ys:Array Te}{Q:Fin->Ah->Prop}(K:A.handled=none)(D:Mr z p q t r a b)(S:ZSt t1 I s.heap z p q t r a b k .none)(s1:QB t1 s.heap a xs)(P:QB I s.heap b ys)(R:xs[k]?=none∨ys[k]?=none)(L:∀h' e,(∀c o,c≠z->c≠q->c≠t->c≠r->s.heap.get? c=some o->h'.get? c=some o)->(∃o,h'.get? e=some o/\o.cls=.type "StopIteration")->E (.ref e) {s with heap:=h'}):Tg (Th prog w) A (Nk.«zip.__next__» ⟨[.ref z],[]⟩) Q E s:=by
 obtain⟨j,Y,⟨u,v,X⟩,M,Z⟩:=S;show Tg _ _ (field (Bx z) 2>>=_) _ _ _;refine Ac (Em j rfl (x:=.bool false) rfl ?_);show Tg _ _ (field (Bx z) 3>>=_) _ _ _;refine Ac (Em j rfl (x:=.ref p) rfl (Ac (Fg Y rfl ?_)));show Tg _ _ (Ed (Bx z)>>=_) _ _ _;refine Ac ?_
 (unfold Ed)
 refine Ac (Em j rfl (x:=.none) rfl (An ?_));simp only[if_true];refine Ac (Gy (Ac (Em j rfl (x:=.ref q) rfl (Ac (Ft j (by simp) λW n d=>Ac ?_)))));have n:IsZip W z p q .ellipsis:=n;simp only[Qq,Pp,Nb,Jo];refine Ac (Ac (Li ?_));show Tg _ _ (Ck (Bx t)>>=_) _ _ _;cases C:xs[k]? with
 |none=>
  refine Ac (K9 K (M.ext d.extBut D.i1z) (s1.ext d.extBut D.l1z) C λhb e f ⟨y,h,l⟩=>?_);have H:IsZip hb z p q .ellipsis:=f _ _ D.i1z.symm n;have B:e≠z:=λw=>by subst w;rw[H] at h;cases h;simp at l
  exact Ft H (by simp) λhc _ i=>L hc e (λc o m _ F _ g=>i.extBut _ _ m (f _ _ F (d.extBut _ _ m g))) ⟨y,i.extBut _ _ B h,l⟩
 |some x=>
  have T:ys[k]?=none:=R.resolve_left λw=>by rw[C] at w;cases w
  refine Ac (RO (M.ext d.extBut D.i1z) (s1.ext d.extBut D.l1z) C λhb n1 f=>An ?_);have J:IsPair hb q u v:=f.extBut _ _ D.TOi1 (d.extBut _ _ D.TOz X);refine Ac (Fg J rfl (Ac (Iz J λhc rc i=>Ac (Qr (An (Ac (Ac (Li ?_))))))));show Tg _ _ (Ck (Bx r)>>=_) _ _ _;refine Ac (K9 K (((Z.ext d.extBut D.i2z).ext f.extBut D.i12.symm).ext i.extBut D.TOi2.symm) (((P.ext d.extBut D.l2z).ext f.extBut D.l2i1).ext i.extBut D.l2TO) T λV e O ⟨y,h,l⟩=>?_);have G:IsZip V z p q .ellipsis:=O _ _ D.i2z.symm (i.extBut _ _ D.TOz.symm (f.extBut _ _ D.i1z.symm n));have B:e≠z:=λw=>by subst w;rw[G] at h;cases h;simp at l
  exact Ft G (by simp) λU _ N=>L U e (λc o m c2 F c4 g=>N.extBut _ _ m (O _ _ c4 (i.extBut _ _ c2 (f.extBut _ _ F (d.extBut _ _ m g))))) ⟨y,N.extBut _ _ B h,l⟩
theorem E2{t1 f:Bool}{z p q e d a b:Tf}{k:Nat}{xs ys:Array Te}{x y:Te}{Q:Option Te->Ah->Prop}(D:Mr z p q e d a b)(S:ZSt t1 f s.heap z p q e d a b k .none)(s1:QB t1 s.heap a xs)(g:QB f s.heap b ys)(i:xs[k]?=some x)(h:ys[k]?=some y)(j:∀h',ZSt t1 f h' z p q e d a b (k+1) (rawInt s.heap.objs.size)->IsPair h' s.heap.objs.size x y->h'.objs.size=s.heap.objs.size+1->(∀c o,c≠z->c≠q->c≠e->c≠d->s.heap.get? c=some o->h'.get? c=some o)->Q (some (.ref s.heap.objs.size)) {s with heap:=h'}):Tg (Th prog w) A (pyNext (.ref z)) Q E s:=by
 have ty:s.TypeIs (.ref z) "zip":=⟨_,S.zip,rfl⟩
 (unfold pyNext)
 exact Ac (Oa (Du (name:=Am "__next__") ty Jr (Ep Jr ty Pq (CC D S s1 g i h λh' m a2 l a4=>An (j h' m a2 l a4)) (Ov _))))
theorem BH{t1 g:Bool}{z p q f d a b:Tf}{k:Nat}{xs ys:Array Te}{Q:Option Te->Ah->Prop}(l:A.handled=none)(D:Mr z p q f d a b)(S:ZSt t1 g s.heap z p q f d a b k .none)(s1:QB t1 s.heap a xs)(h:QB g s.heap b ys)(j:xs[k]?=none∨ys[k]?=none)(m:∀h',(∀c o,c≠z->c≠q->c≠f->c≠d->s.heap.get? c=some o->h'.get? c=some o)->Q none {s with heap:=h'}):Tg (Th prog w) A (pyNext (.ref z)) Q E s:=by
 have ty:s.TypeIs (.ref z) "zip":=⟨_,S.zip,rfl⟩
 (unfold pyNext)
 refine Ac (Oa (Du (name:=Am "__next__") ty Jr (Ep Jr ty Pq (dC l D S s1 h j λh' e i ⟨o,n,r⟩=>?_) (Ov _))));exact Ac (wpAny_isInstance (T:= "StopIteration") (b:=true) ⟨o,n,r⟩ isSubtype_stop (An (m _ i)))
end
noncomputable def eO(tup:Bool):String:=if tup=true then "tuple_iterator" else "list_iterator"
noncomputable abbrev zO(tup:Bool)(a:Tf):Tq:={cls:=.type (eO tup),data:=.fields #[.ref a,.int 0 0]}
theorem Vq{prog:Br}{w:Tl}{A:Df}{E:Te->Ah->Prop}{s:Ah}{tup:Bool}{a:Tf}{xs:Array Te}{Q:Te->Ah->Prop}(h:QB tup s.heap a xs)(b:Q (.ref s.heap.objs.size) {s with heap:=s.heap.push (zO tup a)}):Tg (Th prog w) A (Qh (.ref a)) Q E s:=by
 cases tup with
 |true=>exact Hq h b
 |false=>exact Gz h b
theorem QB.push{tup:Bool}{h:Tp}{a:Tf}{xs:Array Te}(x:QB tup h a xs)(o:Tq):QB tup (h.push o) a xs:=by
 cases tup with
 |true=>obtain⟨o,e,r⟩:=x;exact⟨o,Ae _ e,r⟩
 |false=>obtain⟨o,e,r⟩:=x;exact⟨o,Ae _ e,r⟩
theorem jN(t1 c:Bool)(a b:Tf)(xs ys:Array Te):Meets (Nk.«zip.__new__» ⟨[.type "zip",.ref a,.ref b],[]⟩) (λ_ R s=>QB t1 s.heap a xs/\QB c s.heap b ys/\∀h1 h2 f e j,h1=s.heap.push (zO t1 a)->h2=h1.push (zO c b)->f=h2.push {cls:=.type "tuple",data:=.seq #[.ref s.heap.objs.size,.ref h1.objs.size]}->e=f.push {cls:=.type "tuple",data:=.seq #[.none,.none]}->j=e.push {cls:=.type "zip",data:=.fields #[.none,.bool false,.bool false,.ref h2.objs.size,.ref f.objs.size]}->R (.ok (.ret (.ref e.objs.size))) {s with heap:=j}):=by
 refine .of_wp λprog w A R s h=>?_;obtain⟨i,g,d,tk,os⟩:=s;obtain⟨n,m,h⟩:=h;have hs:=sub_zip;have l:QB t1 (Qp ⟨i,g,d,tk,os⟩) a xs:=n;have k:QB c (Qp ⟨i.push (zO t1 a),g,d,tk,os⟩) b ys:=QB.push m _;wp_walk using Vq l,Vq k
 exact⟨_,rfl,h _ _ _ _ _ rfl rfl rfl rfl rfl⟩
theorem AT{prog:Br}{w:Tl}{A:Df}{E:Te->Ah->Prop}{s:Ah}{t1 e:Bool}{a b:Tf}{xs ys:Array Te}{Q:Te->Ah->Prop}(H:QB t1 s.heap a xs)(G:QB e s.heap b ys)(h:∀h',ZSt t1 e h' (s.heap.objs.size+4) (s.heap.objs.size+2) (s.heap.objs.size+3) s.heap.objs.size (s.heap.objs.size+1) a b 0 .none->(∀c o,s.heap.get? c=some o->h'.get? c=some o)->Q (.ref (s.heap.objs.size+4)) {s with heap:=h'}):Tg (Th prog w) A (call (.type "zip") [.ref a,.ref b]) Q E s:=by
 refine callType_new F.called_zip (by decide) (F.typeCall_zip_2 _ _) (F.newCall_zip_2 _ _) (λobj=>F.args_object_init_3 obj _ _) F.entry_zip_new (jN t1 e a b xs ys) ⟨H,G,?_⟩;rintro h1 h2 f l d r p n m C;have j:h1.objs.size=s.heap.objs.size+1:=by rw[r,De]
 have i:h2.objs.size=s.heap.objs.size+2:=by rw[p,De,j]
 have g:f.objs.size=s.heap.objs.size+3:=by rw[n,De,i]
 have t:l.objs.size=s.heap.objs.size+4:=by rw[m,De,g]
 have u:∀c o,l.get? c=some o->d.get? c=some o:=λc o q=>by rw[C];exact Ae _ q
 have v:∀c o,f.get? c=some o->d.get? c=some o:=λc o q=>u c o (by rw[m];exact Ae _ q);have x:∀c o,h2.get? c=some o->d.get? c=some o:=λc o q=>v c o (by rw[n];exact Ae _ q);have y:∀c o,h1.get? c=some o->d.get? c=some o:=λc o q=>x c o (by rw[p];exact Ae _ q);have D:∀c o,s.heap.get? c=some o->d.get? c=some o:=λc o q=>y c o (by rw[r];exact Ae _ q);have k:d.get? l.objs.size=some {cls:=.type "zip",data:=.fields #[.none,.bool false,.bool false,.ref h2.objs.size,.ref f.objs.size]}:=by rw[C];exact Ay _ rfl
 have z:d.get? f.objs.size=some {cls:=.type "tuple",data:=.seq #[.none,.none]}:=u _ _ (by rw[m];exact Ay _ rfl);have B:d.get? h2.objs.size=some {cls:=.type "tuple",data:=.seq #[.ref s.heap.objs.size,.ref h1.objs.size]}:=v _ _ (by rw[n];exact Ay _ rfl);have o2:d.get? h1.objs.size=some (zO e b):=x _ _ (by rw[p];exact Ay _ rfl);have o1:d.get? s.heap.objs.size=some (zO t1 a):=y _ _ (by rw[r];exact Ay _ rfl);show _/\_;rw[i,g,t] at k;rw[g] at z;rw[j,i] at B;rw[j] at o2;rw[t];refine⟨⟨_,k,rfl⟩,h _ ⟨k,B,⟨_,_,z⟩,?_,?_⟩ D⟩
 ·cases t1 with
  |true=>exact⟨_,o1,rfl,rfl⟩
  |false=>exact⟨_,o1,rfl,rfl⟩
 ·cases e with
  |true=>exact⟨_,o2,rfl,rfl⟩
  |false=>exact⟨_,o2,rfl,rfl⟩
theorem lE(n a b:Nat)(c:a<n)(hb:b<n):Mr (n+4) (n+2) (n+3) n (n+1) a b:=by
 have f:∀x y:Nat,x<y∨y<x->x≠y:=λx y h=>by lia
 exact⟨f _ _ (by lia),f _ _ (by lia),f _ _ (by lia),f _ _ (by lia),f _ _ (by lia),f _ _ (by lia),f _ _ (by lia),f _ _ (by lia),f _ _ (by lia),f _ _ (by lia),f _ _ (by lia),f _ _ (by lia),f _ _ (by lia),f _ _ (by lia),f _ _ (by lia),f _ _ (by lia),f _ _ (by lia),f _ _ (by lia)⟩
noncomputable def Itz(K:As)(t1 c:Bool)(a b:Tf):It:=
  ⟨λi H=>∃xs ys x y,KB K t1 H a xs/\KB K c H b ys/\xs[i]?=some x/\ys[i]?=some y,λi H v H'=>∃p x y,(∀xs,KB K t1 H a xs->xs[i]?=some x)/\(∀ys,KB K c H b ys->ys[i]?=some y)/\H p=none/\H'=aN H p (.tup [x,y])/\v=.ref p,λi H=>∃xs ys,KB K t1 H a xs/\KB K c H b ys/\(xs.length<=i∨ys.length<=i)⟩
theorem Zk{P:Br}{w:Tl}{K:As}{es:List Tj}{k:Nat}{pos:Pos}(t1 C:Bool)(z p q l j a b:Tf)(D:Mr z p q l j a b):
  F4 P w K (.Tuple es k pos) (Itz K t1 C a b) [z,p,q,l,j] z (λi h=>ZSt t1 C h z p q l j a b i .none) where
 mem:=by simp
 obj:=λi h st c hc=>by
  simp only[Ai,Ax,or_false] at hc;rcases hc with rfl|rfl|rfl|rfl|rfl
  ·exact⟨_,st.zip,λv e=>by cases e⟩
  ·exact⟨_,st.its,λv e=>by cases e⟩
  ·obtain⟨u,v,g⟩:=st.res
   exact⟨_,g,λv e=>by cases e⟩
  ·exact st.one.obj
  ·exact st.two.obj
 keep:=λi h h' st t=>by obtain⟨u,v,g⟩:=st.res;exact⟨t z (by simp) _ st.zip,t p (by simp) _ st.its,⟨u,v,t q (by simp) _ g⟩,st.one.at λo e=>t l (by simp) o e,st.two.at λo e=>t j (by simp) o e⟩
 item:=by
  intro X Q hw R hc i aa s σ H E I A st N;subst Q hw R;obtain⟨xs,ys,x,y,n,m,W,V⟩:=N;obtain⟨U,J,T,_⟩:=I.srcA n;obtain⟨vs,G,S,_⟩:=I.srcA m;obtain⟨u,hu,ru⟩:=J.get W;obtain⟨v,hv,rv⟩:=G.get V;refine E2 D st T S (by simpa using hu) (by simpa using hv) λh1 f hp hsz M=>⟨_,rfl,?_⟩;refine wpAny_letOwnedTupleGo_zip (s:={s with heap:=h1}) f.zip λh2 Y F=>?_;have F:Fo z h1 h2:=F;have lt:∀c∈[z,p,q,l,j],c<s.heap.objs.size:=λc hc=>by
   simp only[Ai,Ax,or_false] at hc;rcases hc with rfl|rfl|rfl|rfl|rfl
   ·exact Aq st.zip
   ·exact Aq st.its
   ·obtain⟨u,v,g⟩:=st.res
    exact Aq g
   ·obtain⟨o,e,_⟩:=st.one.obj
    exact Aq e
   ·obtain⟨o,e,_⟩:=st.two.obj
    exact Aq e
  have r:∀c o,c≠z->h1.get? c=some o->h2.get? c=some o:=λc o O e=>(F.2 c O).trans e;have d:ZSt t1 C h2 z p q l j a b (i+1) .none:=by obtain⟨u',Z,g⟩:=f.res;exact⟨Y,r _ _ D.TIz f.its,⟨u',Z,r _ _ D.TOz g⟩,f.one.at λo e=>r _ o D.i1z e,f.two.at λo e=>r _ o D.i2z e⟩
  have fu:h2.get? s.heap.objs.size=some {cls:=.type "tuple",data:=.seq #[u,v]}:=r _ _ (Go (lt z (by simp))) hp;have bq:H s.heap.objs.size=none:=I.hok.fresh (Ak _);have I0:cE X aa σ (aN H s.heap.objs.size (.tup [x,y])) {s with heap:=s.heap.push {cls:=.type "tuple",data:=.seq #[u,v]},toks:=s.toks}:=
   I.laid (λc o e=>Ae _ e) (Ak _) ⟨by show 2<=sizeLine;decide,[u,v],.cons ru (.cons rv .nil),Kr _ _⟩
  have I1:cE X aa σ (aN H s.heap.objs.size (.tup [x,y])) {s with heap:=h2,toks:=s.toks}:=by
   refine cE.turnedL (s:={s with heap:=s.heap.push {cls:=.type "tuple",data:=.seq #[u,v]},toks:=s.toks}) (h':=h2) (t':=s.toks) (fp:=[z,p,q,l,j]) I0 (λc o hc e=>?_) (λc hc=>?_) λc hc=>⟨by rw[bF (Bk (lt c hc))];exact(A c hc).1,(A c hc).2⟩
   ·by_cases B:c=s.heap.objs.size
    ·subst B
     have e:(s.heap.push {cls:=.type "tuple",data:=.seq #[u,v]}).get? s.heap.objs.size=some o:=e;rw[Ay _ rfl] at e;cases e;exact fu
    ·have e':=(Ij _ _ _ B).symm.trans e
     exact r c o (λw=>hc (by simp[w])) (M c o (λw=>hc (by simp[w])) (λw=>hc (by simp[w])) (λw=>hc (by simp[w])) (λw=>hc (by simp[w])) e')
   ·simp only[Ai,Ax,or_false] at hc
    rcases hc with rfl|rfl|rfl|rfl|rfl
    ·exact⟨_,d.zip⟩
    ·exact⟨_,d.its⟩
    ·obtain⟨u,v,g⟩:=d.res
     exact⟨_,g⟩
    ·obtain⟨o,e,_⟩:=d.one.obj
     exact⟨o,e⟩
    ·obtain⟨o,e,_⟩:=d.two.obj
     exact⟨o,e⟩
  exact⟨.ref s.heap.objs.size,_,I1,rfl,⟨_,x,y,λzs L=>by rw[I.sq_inj L n];exact W,λzs L=>by rw[I.sq_inj L m];exact V,bq,rfl,rfl⟩,d,λc hc=>by rw[bF (Bk (lt c hc))];exact(A c hc).1⟩
 done:=by
  intro X Q hw R hc i aa s σ H E I A st N;subst Q hw R;obtain⟨xs,ys,n,m,i8⟩:=N;obtain⟨U,J,T,_⟩:=I.srcA n;obtain⟨vs,G,S,_⟩:=I.srcA m;have l1:=J.length;have l2:=G.length;have he:U.toArray[i]?=none∨vs.toArray[i]?=none:=by
   rcases i8 with z|z
   ·exact .inl (by simp;lia)
   ·exact .inr (by simp;lia)
  refine BH (I.ok.hd hc) D st T S he λh1 M=>⟨rfl,?_⟩;have fq:∀c∈[z,q,l,j],c∈[z,p,q,l,j]:=λc hc=>by simp only[Ai,Ax,or_false] at hc⊢;rcases hc with w|w|w|w<;>simp[w]
  have I':=cE.turnedL' (s:=s) (h':=h1) (t':=s.toks) (fp:=[z,q,l,j]) I (λc o hc e=>M c o (λw=>hc (by simp[w])) (λw=>hc (by simp[w])) (λw=>hc (by simp[w])) (λw=>hc (by simp[w])) e) λc hc=>A c (fq c hc);exact I'
 self:=λ_ i _ _ _ st h=>wpAny_pyIter_zip st.zip h
section
variable{X:Cx}{K:As}{ml:List Nat}{l m:Tj}{pa ta ia pb tb ib:Bool}{f g:VF}{p pos du:Pos}{es:List Tj}{tk:Nat}{δ:Ev}
def iZp(K:As)(tl d:TE):TI:=λσ H R=>tl σ H λx H1=>d σ H1 λy H2=>∃a b t1 c,x=.ref a/\y=.ref b/\(∃xs,KB K t1 H2 a xs)/\(∃ys,KB K c H2 b ys)/\R (Itz K t1 c a b) H2
theorem Za{tl o:TE}(F:Gl X "zip")(E:X.mg "zip"=none)(hl:PE X l tl)(C:PE X m o)(q:Aj (l::[m]) X.env=(false,eval l X.env)::Aj [m] X.env:=by rfl)(n:Aj (m::[]) X.env=(false,eval m X.env)::Aj [] X.env:=by rfl)(k:(Fx pos (Aj [m] X.env)).any (·.1)=false:=by rfl):PI X (.Tuple es tk du) (.Call (.Name "zip" p) [l,m] [] pos) (iZp X.K tl o):=by
 intro aa s σ H R I h;refine Fs (RM I F E fT ?_ (by decide) (by decide));refine El (ZB (bC hl (bC C Y7 n) q pos aa s σ H (λvs H1=>match vs with
  |[x,y]=>∃a b t1 d,x=.ref a/\y=.ref b/\(∃xs,KB X.K t1 H1 a xs)/\(∃ys,KB X.K d H1 b ys)/\R (Itz X.K t1 d a b) H1
  |_=>False) I h) λz s1 ⟨vs,H1,f,g,q1⟩=>?_) q k
 match vs,g,q1 with
 |[x,y],g,q1=>
  obtain⟨a,b,t1,d,rfl,rfl,⟨xs,j⟩,⟨ys,i⟩,J⟩:=q1;obtain⟨u,v,rfl,B,A⟩:=D6 g;cases B;cases A;obtain⟨z,N,t,_⟩:=f.srcA j;obtain⟨vs,M,r,_⟩:=f.srcA i;refine AT t r λh' st kp=>?_;have L:cE X aa σ H1 {s1 with heap:=h'}:=f.kept (t':=s1.toks) kp;have G:=t.lt;have hb:=r.lt;have D:Mr (s1.heap.objs.size+4) (s1.heap.objs.size+2) (s1.heap.objs.size+3) s1.heap.objs.size (s1.heap.objs.size+1) a b:=by exact lE _ a b G hb
  refine wpAny_pyIter_zip st.zip ⟨s1.heap.objs.size+4,[s1.heap.objs.size+4,s1.heap.objs.size+2,s1.heap.objs.size+3,s1.heap.objs.size,s1.heap.objs.size+1],_,Itz X.K t1 d a b,H1,rfl,L,Zk t1 d _ _ _ _ _ a b D,st,λc hc=>?_,J⟩;have e:s1.heap.objs.size<=c:=by simp only[Ai,Ax,or_false] at hc;rcases hc with w|w|w|w|w<;>rw[w]<;>first|exact Nat.le_add_right _ _|exact Ak _
  exact f.fpOk e (f.hok.fresh e)
theorem Xu(h:X.K=K){tl c:TE}(f:Gl X "zip")(e:X.mg "zip"=none)(hl:PE X l tl)(d:PE X m c)(g:Aj (l::[m]) X.env=(false,eval l X.env)::Aj [m] X.env:=by rfl)(b:Aj (m::[]) X.env=(false,eval m X.env)::Aj [] X.env:=by rfl)(a:(Fx pos (Aj [m] X.env)).any (·.1)=false:=by rfl):PI X (.Tuple es tk du) (.Call (.Name "zip" p) [l,m] [] pos) (iZp K tl c):=by subst h;exact Za f e hl d g b a
noncomputable def SF:List cX->List cX->List cX
 |d::ds,e::es=>.tup [d,e]::SF ds es
 |_,_=>[]
noncomputable def iZip(f g:VF):VI:=λδ=>(f δ).bind λp=>(g p.2).bind λq=>(W8 p.1).bind λds=>(W8 q.1).map λes=>(SF ds es,q.2)
theorem ID:∀{ds es:List cX} {i:Nat} {d:cX},(SF ds es)[i]?=some d->∃x y,ds[i]?=some x/\es[i]?=some y/\d=.tup [x,y]
 |[],_,_,_,h=>by simp[SF] at h
 |_::_,[],_,_,h=>by simp[SF] at h
 |x::ds,y::es,0,d,h=>by simp[SF] at h;exact⟨x,y,rfl,rfl,h.symm⟩
 |x::ds,y::es,i+1,d,h=>by obtain⟨b,a,h1,h2,c⟩:=ID (ds:=ds) (es:=es) (i:=i) (d:=d) (by simpa[SF] using h);exact⟨b,a,by simpa using h1,by simpa using h2,c⟩
theorem IE:∀{ds es:List cX},ds.length<=(SF ds es).length∨es.length<=(SF ds es).length
 |[],_=>.inl (Cy _)
 |_::_,[]=>.inr (Cy _)
 |x::ds,y::es=>by
  rcases IE (ds:=ds) (es:=es) with h|h
  ·exact .inl (Pr h)
  ·exact .inr (Pr h)
noncomputable def Xo:cX->Bool
 |.tup _=>true
 |_=>false
theorem aX.sqA{N M:Tf->Prop}{H:Hp}{v:V}{d:cX}{ds:List cX}(h:aX K N H M v d)(e:W8 d=some ds):∃a tup xs,v=.ref a/\KB K tup H a xs/\b7 K N H xs ds/\tup=Xo d:=by
  cases d<;>first
    | (cases e
       obtain⟨a,xs,h1,h2,b⟩:=h.tupE;exact⟨a,true,xs,h1,h2,b,rfl⟩)
    | (cases e
       obtain⟨a,xs,h1,h2,b⟩:=h.lstE;exact⟨a,false,xs,h1,h2,b,rfl⟩)
    |cases e
theorem We(hK:X.K=K)(hg:Gl X "zip")(hm:X.mg "zip"=none)(h:PE X l (TV K ml pa true true f))(h':PE X m (TV K ml pb true true g))(he:Aj (l::[m]) X.env=(false,eval l X.env)::Aj [m] X.env:=by rfl)(F:Aj (m::[]) X.env=(false,eval m X.env)::Aj [] X.env:=by rfl)
  (D:(Fx pos (Aj [m] X.env)).any (·.1)=false:=by rfl):PI X (.Tuple es tk du) (.Call (.Name "zip" p) [l,m] [] pos) (AN K ml (pa&&pb) (iZip f g)):=(Xu (K:=K) hK hg hm h h' he F D).imp λσ H R C=>by
 obtain⟨B,O,δ,ds,δ2,S,q,k⟩:=C;unfold iZip at q;obtain⟨⟨x,δ1⟩,h1,q⟩:=Aa.mp q;cases h2:g δ1 with
 |none=>simp[h2] at q
 |some p2=>
  obtain⟨y,s⟩:=p2;simp only[Aw,h2] at q;obtain⟨xs,Q,q⟩:=Aa.mp q;have q:(W8 y).map (λes=>(SF xs es,s))=some (ds,δ2):=q;obtain⟨ys,P,q⟩:=Ar.mp q;cases q;refine⟨B,O,δ,x,δ1,S,h1,λu H1 r=>⟨B,O,δ1,y,_,r.sta,h2,λt H2 R2=>?_⟩⟩;have M:=r.rep.fr R2.frm (λa z=>.inr z) λa z=>.inr z;obtain⟨a,t1,us,W,q1,w1,J⟩:=M.sqA Q;obtain⟨b,L,vs,V,q2,w2,I⟩:=R2.rep.sqA P;refine⟨a,b,t1,L,W,V,⟨us,q1⟩,⟨vs,q2⟩,k _ [(u,x),(t,y)] H2 (R2.sta.keepV λz n=>?_) (r.frm.trans R2.frm) (λz=>?_) ?_⟩
  ·simp only[Ai,Ax,or_false] at n
   rcases n with rfl|rfl
   ·exact M
   ·exact R2.rep
  ·obtain⟨z1,z2⟩:=(Ag _ _).mp z
   exact(r.pur z1).trans (R2.pur z2)
  ·intro N H h
   obtain⟨a',A,j,f1,f2,f3,f4⟩:=(h (u,x) (by simp)).sqA Q;obtain⟨b',v,c,o,G,T,g4⟩:=(h (t,y) (by simp)).sqA P;have f1:u=.ref a':=f1;have o:t=.ref b':=o;rw[W] at f1;rw[V] at o;cases f1;cases o;have:A=t1:=f4.trans J.symm;subst this;have:v=L:=g4.trans I.symm;subst this;refine⟨λi d e=>?_,j,c,f2,G,?_⟩
   ·obtain⟨dx,dy,hx,hy,rfl⟩:=ID e
    obtain⟨ux,ex,rx⟩:=f3.get hx;obtain⟨uy,U,ry⟩:=T.get hy;refine⟨⟨j,c,ux,uy,f2,G,ex,U⟩,λz H' n=>?_⟩;obtain⟨pp,x',y',c1,c2,E,rfl,rfl⟩:=n;have Z:=c1 j f2;have Y:=c2 c G;rw[ex] at Z;rw[U] at Y;cases Z;cases Y;exact⟨cN E,.tup (V0.of bZ) (.cons (rx.same (cN E)) (.cons (ry.same (cN E)) .nil))⟩
   ·rcases IE (ds:=xs) (es:=ys) with w|w
    ·exact .inl (by rw[f3.length];exact w)
    ·exact .inr (by rw[T.length];exact w)
end
end L2
namespace L2
open PySem PySem.Spec PyProof.Rows PySem.W
section
variable{prog:Br}{w:Tl}{A:Df}{E:Te->Ah->Prop}{s:Ah}
theorem FS{t:Tf}{items:Array Te}{Q:List Te->Ah->Prop}(n:A.handled=none)(c:IsTup s.heap t items)(h1:1<=items.size)(m:items.size<=16777216)(p:∀(x:Te) (hb:Tp) (tk:Nat),items[0]?=some x->(∀b o,s.heap.get? b=some o->hb.get? b=some o)->Q [x,.ref hb.objs.size] {s with heap:=hb.push {cls:=.type "list",data:=.seq (items.toList.drop 1).toArray},toks:=tk}):Tg (Th prog w) A (Jk (.ref t) 2 (some 1)) Q E s:=by
 have a:t≠s.heap.objs.size:=by obtain⟨o,e,_⟩:=c;exact Bk (Aq e)
 (unfold Jk)
 refine Ac ?_
 (unfold notIterableAtAll)
 refine Ac (wpAny_specialOf c.typeIs slot_tuple_iter.lookup (An ?_));simp only[Dx,if_false];refine Ac (Cn (iter_tuple c (Ac (Cn (draw_tuple a 1 0 _ _ ⟨_,Ay _ rfl,rfl,rfl⟩ (c.push _) (by lia) λf ia g=>?_)))));have ta:IsTup f t items:=(c.push _).extBut g.extBut a;have ia:f.IsTupleIter s.heap.objs.size t 1:=ia;obtain⟨G,v,_⟩:=id ia;obtain⟨F,q,_⟩:=id ta;have hsz:f.objs.size=s.heap.objs.size+1:=by rw[g.1,De]
 have i:((items.toList.drop 0).take 1).length=1:=by simp;lia
 rw[if_neg (show¬((items.toList.drop 0).take 1).length<1 by rw[i];exact Cm _)];refine Ac (Cn (kun_collect (s:={s with heap:=f}) (T:= "tuple_iterator") (.inr (.inr (.inr rfl))) (Walks.tuple (A:=A.in1) n s.heap.objs.size t a items) (λj u st=>st.1.typeIs) (k:=1) h1 ⟨ia,ta⟩ (Aq v) (Aq q) (λhb tk l=>?_) (by rw[Di];exact m)));have D:(items.toList.drop 1).length=items.size - 1:=by simp
 show Tg _ _ (if(items.toList.drop 1).length<2 - 1 - 1 then _ else _) _ _ _;rw[if_neg (Qs _)];show Tg _ _ (Ry ((items.toList.drop 1).take ((items.toList.drop 1).length - (2 - 1 - 1)))>>=λd=>pure ((items.toList.drop 0).take 1++[d]++(items.toList.drop 1).drop ((items.toList.drop 1).length - (2 - 1 - 1)))) _ _ _;have C:(items.toList.drop 1).take ((items.toList.drop 1).length - (2 - 1 - 1))=items.toList.drop 1:=Co (Ak _);have B:(items.toList.drop 1).drop ((items.toList.drop 1).length - (2 - 1 - 1))=[]:=Ds;rw[C,B];refine Ac (Dd (An ?_) (by show _<=sizeLine;rw[Di];simp;lia));obtain⟨x,h⟩:∃x,items[0]?=some x:=⟨items[0],by simp[show 0<items.size by lia]⟩;have z:(items.toList.drop 0).take 1=[x]:=by
  rw[Na];have:items.toList[0]?=some x:=by simpa using h
  cases hl:items.toList with
  |nil=>rw[hl] at this;cases this
  |cons y r=>rw[hl] at this;cases this;rfl
 rw[z];have keep:∀b o,s.heap.get? b=some o->hb.get? b=some o:=λb o e=>l b o (Bk (Aq e)) (g.extBut b o (Bk (Aq e)) (Ae _ e));exact p x hb tk h keep
end
section
variable{X:Cx}{K:As}{ml:List Nat}{e a b c:Tj}{es:List Tj}{pa ta ia pb tb ib pc tc ic pu bt bi ps bs:Bool}{fa fb fc f:VF}{B B':Bs}{O:Nat->Option Tf}{H H0 H1 H':Hp}{σ:St}{δ δ':Ev}{v:V}{d:cX}{p:Tf}{pos:Pos}
def Yz(K:As)(i j:Nat):TG:=λv σ H Q=>∃a x xs,v=.ref a/\V0 K H a (x::xs)/\∀p,H p=none->Q ((σ.set i (some x)).set j (some (.ref p))) (aN H p (.lst xs))
theorem gI{i j:Nat}{x y:Ti}{d c ps o:Pos}{k:Nat}(hc:X.calm=true)(m:X.N.Nodup)(hi:X.N[i]?=some x)(E:X.N[j]?=some y)(A:AB X.env.scope x)(t:AB X.env.scope y)(G:X.fn x=true∨X.env.scope.names.lookup x=some .local)(F:X.fn y=true∨X.env.scope.names.lookup y=some .local)(hl:(Tk [.Name x d,.Starred (.Name y c) ps] X.env).map (·.2)=[assign (.Name x d) X.env,assign (.Name y c) X.env])(D:(Tk [.Name x d,.Starred (.Name y c) ps] X.env).length=2)(g:(Tk [.Name x d,.Starred (.Name y c) ps] X.env).findIdx? (·.1)=some 1):PG X (.Tuple [.Name x d,.Starred (.Name y c) ps] k o) (Yz X.K i j):=by
 intro aa s σ H v u Q I r hw;obtain⟨a,z,zs,J,C,q⟩:=hw;subst J;cases r;obtain⟨its,l,B,p⟩:=I.tuple C;rw[assign_Tuple];refine Ac (Ea ?_)
 (unfold unpack)
 rw[D,g];have h:=l.length;rw[Bu] at h;have e:its.length<=16777216:=by rw[<-Di,<-h];exact p
 refine Ac (Cn (FS (I.ok.hd hc) B (by rw[At];lia) (by rw[At];exact e) λu hb tk f kp=>?_));rw[hl];cases l with
 | @cons _ w _ ws rz b=>
  have f:some w=some u:=by simpa using f
  cases f;have n:cE X aa σ H {s with heap:=hb,toks:=tk}:=I.kept kp;have O:=cE.lnew (s:={s with heap:=hb,toks:=tk}) (t':=tk) n b (by rw[Di];simp only[Bu] at e h;have:=b.length;lia);refine Ej (Gx (X5 O m hi A rz (λR M=>?_) G));refine Ej (Gx (X5 M m E t (v:=.ref hb.objs.size) rfl (λP L=>Ig ⟨_,_,L,q _ (n.hok.fresh (Ak _))⟩) F))
noncomputable def LN(i j:Nat)(f:VF):VS:=λδ=>(f δ).bind λp=>match p.1 with
 |.tup (d::ds)=>some (.nx ((p.2.set i (.va d)).set j (.va (.lst ds))))
 |_=>none
theorem D9{i j:Nat}{x y:Ti}{g b sp h:Pos}{k:Nat}(P:X.K=K)(hc:X.calm=true)(M:X.N.Nodup)(hi:X.N[i]?=some x)(I:X.N[j]?=some y)(J:i≠j)(F:AB X.env.scope x)(E:AB X.env.scope y)(L:PE X e (TV K ml pu true true f))(t:i∉ml:=by decide)(s:j∉ml:=by decide)(T:X.fn x=true∨X.env.scope.names.lookup x=some .local:=by first|exact .inl rfl|exact .inr rfl|assumption)(Q:X.fn y=true∨X.env.scope.names.lookup y=some .local:=by first|exact .inl rfl|exact .inr rfl|assumption)(hl:(Tk [.Name x g,.Starred (.Name y b) sp] X.env).map (·.2)=[assign (.Name x g) X.env,assign (.Name y b) X.env]:=by rfl)(G:(Tk [.Name x g,.Starred (.Name y b) sp] X.env).length=2:=by rfl)(m:(Tk [.Name x g,.Starred (.Name y b) sp] X.env).findIdx? (·.1)=some 1:=by rfl)(hs:Fp [.Tuple [.Name x g,.Starred (.Name y b) sp] k h] e pos.line X.env=pure false:=by rfl)(hw:Fq [.Tuple [.Name x g,.Starred (.Name y b) sp] k h] e X.env=pure none:=by rfl)(h1:(Tk [.Tuple [.Name x g,.Starred (.Name y b) sp] k h] X.env).map (·.2)=[assign (.Tuple [.Name x g,.Starred (.Name y b) sp] k h) X.env]:=by rfl):PS X (.Assign [.Tuple [.Name x g,.Starred (.Name y b) sp] k h] e pos) (SK K ml (LN i j f)):=by
 subst P;refine(JQ L (gI hc M hi I F E T Q hl G m) hs hw h1).imp λD σ H n=>?_;obtain⟨B,O,δ,o,S,q,k⟩:=n;unfold LN at q;obtain⟨⟨z,δ1⟩,h1,q⟩:=Aa.mp q;refine⟨B,O,δ,z,δ1,S,h1,λv H1 R=>?_⟩;cases z with
 |tup ds=>
  cases ds with
  |nil=>cases q
  |cons d ds=>
   cases q;obtain⟨a,xs,rfl,sq,r⟩:=R.rep.tupE;cases r with
   | @cons w vs _ _ C A=>
    refine⟨a,w,vs,rfl,sq,λp l=>?_⟩;have U:=(R.sta.same (cN (o:=.lst vs) l)).setVa t (C.same (cN (o:=.lst vs) l));have u:∀c,Nn B (λj=>if j=i then none else O j) c->Nn B O c:=OP (o:=none);refine k _ _ _ (U.setVa s (.lst bZ (λz=>R.sta.new l (u _ z)) ((A.same (cN l)).mono u)))
 |_=>cases q
end
end L2
namespace L2
open PySem PySem.Spec PyProof.Rows
section
variable{X:Cx}{K:As}{ml:List Nat}{e a b c:Tj}{es:List Tj}{pa ta ia pb tb ib pc tc ic pu bt bi ps bs:Bool}{fa fb fc f:VF}{B B':Bs}{O:Nat->Option Tf}{H H0 H1 H':Hp}{σ:St}{δ δ':Ev}{v:V}{d:cX}{p:Tf}{pos:Pos}
def rInD(K:As)(neg:Bool):R2:=λx y H Q=>∃d e ds,Dp K H x d/\Dp K H y e/\(e=.list ds∨e=.tuple ds)/\Ey d=true/\Ey e=true/\Q (.bl (if neg then !ds.any (λz=>Jh z d) else ds.any λz=>Jh z d)) H
theorem Q2{d:Mz}(h:Ey d=true):d.canLay0=true/\d.depth<=64:=by unfold Ey at h;simp only[Ag,decide_eq_true_eq] at h;exact h
theorem Wt(neg:Bool)(t:X.A.units+64<cLine):WD X (Dk (if neg then .NotIn else .In)) (rInD X.K neg):=by
 intro aa s σ H x y v u Q I o n h;obtain⟨d,e,ds,r,p,f,m,l,q⟩:=h;obtain⟨as,h1⟩:=I.reads r o;obtain⟨bs,h2⟩:=I.reads p n;obtain⟨c,w⟩:=Q2 m;obtain⟨i,g⟩:=Q2 l;have a:∀k,(k=if neg then !ds.any (λz=>Jh z d) else ds.any λz=>Jh z d)->EP X aa σ Q (.bool k) s:=λk f=>by subst f;exact⟨.bl _,H,I,rfl,q⟩
 rcases f with rfl|rfl
 ·have hc : Ik ds = true := by simpa [Gg] using i
  have j:Fj ds<=63:=by simp only[Iu] at g;lia
  have b:X.A.units+1+min (Fj ds) d.depth<cLine:=by have:=Mn (Fj ds) d.depth;lia
  cases neg with
  |false=>exact SeqAt.in_list_reads h2 h1 hc c b (a _ rfl)
  |true=>exact SeqAt.notIn_list_reads h2 h1 hc c b (a _ rfl)
 ·have hc : Ik ds = true := by simpa [Gg] using i
  have j:Fj ds<=63:=by simp only[Iu] at g;lia
  have b:X.A.units+1+min (Fj ds) d.depth<cLine:=by have:=Mn (Fj ds) d.depth;lia
  cases neg with
  |false=>exact SeqAt.in_tuple_reads h2 h1 hc c b (a _ rfl)
  |true=>exact SeqAt.notIn_tuple_reads h2 h1 hc c b (a _ rfl)
theorem VR(h:X.K=K)(a:X.A.units+64<cLine):WD X (Dk .In) (rInD K false):=by subst h;exact Wt false a
theorem QR(h:X.K=K)(a:X.A.units+64<cLine):WD X (Dk .NotIn) (rInD K true):=by subst h;exact Wt true a
noncomputable def MD(d:cX)(ds:List cX):Bool:=(pds ds).any λz=>Jh z d.pd
noncomputable def aS(neg:Bool)(d e:cX):Option cX:=(W8 e).bind λds=>if(LD d&&LD e)=true then some (.bl (if neg then !MD d ds else MD d ds)) else none
theorem ZD{neg:Bool}:OJ K (rInD K neg) (aS neg):=by
 intro H N N' M M' x y d e c Q f b h k;unfold aS at h;obtain⟨ds,hs,h⟩:=Aa.mp h;have h:(if(LD d&&LD e)=true then some (cX.bl (if neg then !MD d ds else MD d ds)) else none)=some c:=h;split at h
 ·rename_i a
  cases h;simp only[LD,Ag] at a;refine⟨d.pd,e.pd,pds ds,f.dp a.1.1,b.dp a.2.1,?_,a.1.2,a.2.2,k _ λ_ _ _=>.bl _⟩;cases e<;>first
   |(cases hs;exact .inr rfl)
   |(cases hs;exact .inl rfl)
   |cases hs
 ·cases h
def iA(K:As)(td ty:TE):TE:=λσ H Q=>td σ H λx H1=>∃a,x=.ref a/\((IsD H1 a/\ty σ H1 λy H2=>∃o,OW H2 a y o/\Q (o.getD .non) H2)∨∃D,KTab K a D/\ty σ H1 λy H2=>∃k,y=.str k/\Q ((Fw k D).getD .non) H2)
theorem mC{ax ag:Pos}{td ty:TE}(E:X.A.units+1<cLine)(F:PE X a td)(p:PE X e ty)(m:M1 X a "get" ax e ag):PE X (.Call (.Attribute a "get" ax) [e] [] ag) (iA X.K td ty):=by
 intro aa s σ H Q I h;refine Op m.base m.few m.line Le Eg Mj (ZB (F aa s σ H _ I h) λu s1 ⟨x,H1,d,w,l,ex,q1⟩=>?_);subst ex;obtain rfl:u=Bx l:=w;rcases q1 with⟨J,q1⟩|⟨D,T,q1⟩
 ·obtain⟨t1,v,_⟩:=Wk d J
  refine⟨t1,v,?_⟩;rw[m.trees];refine Gh rfl (Hb (Gk (ZB (p aa s1 σ H1 _ d q1) λB f ⟨y,H2,c,i,U,g,q2⟩=>Ih ?_)));exact jJ E c g i λP S O j=>⟨_,H2,O,j,q2⟩
 ·obtain⟨z,o,R,V,n,hex,W,_⟩:=id T
  refine⟨⟨o,d.kIn _ _ n,hex.1⟩,λb q=>?_,?_⟩
  ·cases q
   exact⟨o,d.kIn _ _ n,hex.2.1⟩
  rw[m.trees];refine Gh rfl (Hb (Gk (ZB (p aa s1 σ H1 _ d q1) λB f ⟨y,H2,c,i,k,N,q2⟩=>Ih ?_)));subst N;obtain⟨t,rfl⟩:=i;have M:f.TypeIs (.ref l) "dict":=⟨o,c.kIn _ _ n,hex.1⟩;refine Ep Eg M Fl ?_ (Hx _ _);show Tg _ _ (dictGet l (.str k t)>>=_) _ _ f;refine Ac (GR c.kIn T (λd' r L C=>An ⟨r,rfl,?_⟩) λG=>?_)
  ·rw[L] at q2
   exact⟨d',H2,c.tok _,C,q2⟩
  ·rw[G] at q2
   show Tg _ _ (Nl l (.str k t)>>=_) _ _ _;unfold Nl;rw[if_neg (by rw[z];exact Dj)];exact Ac (An (An ⟨.none,rfl,.non,H2,c.tok _,rfl,q2⟩))
noncomputable def Wh:cX->cX->Option cX
 |.dct ks ds,.str x=>some ((bD ks ds (.inr x)).getD .non)
 |_,_=>none
theorem iW{ax ag:Pos}(N:X.K=K)(J:X.A.units+1<cLine)(M:PE X a (TV K ml pa ta ia fa))(hb:PE X b (TV K ml pb tb ib fb))(m:M1 X a "get" ax b ag)(hs:(pb || (ta&&ia))=true:=by rfl):PE X (.Call (.Attribute a "get" ax) [b] [] ag) (TV K ml (pa&&pb) ia ia (f2 Wh fa fb)):=by
 subst N;refine(mC J M hb m).imp λσ H Q u=>?_;obtain⟨B,O,δ,d,δ2,S,q,k⟩:=u;obtain⟨x,δ1,y,h1,h2,C⟩:=PH q;refine⟨B,O,δ,x,δ1,S,h1,λP H1 f=>?_⟩;have i:∀j H2 (R2:Res X.K ml B O H1 σ pb tb ib H2 δ2 j y) o,aX X.K (av B O ia) H2 (av B O ia) o d->Q o H2:=λj H2 R2 o L=>k o H2 ⟨R2.sta,f.frm.trans R2.frm,λz=>by obtain⟨h,g⟩:=(Ag _ _).mp z;exact(f.pur h).trans (R2.pur g),L.mono (λ_ z=>z) Wc⟩
 cases x with
 |dct ks ds=>
  cases y with
  |str z=>
   cases C;generalize t:cX.dct ks ds=R at f;have I:=f.rep;cases I with
   | @dct _ l kvs F s n r=>
    cases t;refine⟨l,rfl,.inl ⟨.inl ⟨_,.inl s⟩,B,O,δ1,_,δ2,f.sta,h2,λj H2 R2=>?_⟩⟩;have p:=R2.rep;cases p;have G:H2 l=some (.dK kvs)/\b7 X.K (av B O ia) H2 (kvs.map Ec) ds:=by
     cases pb with
     |true=>exact⟨R2.pur rfl _ _ s,r.same (R2.pur rfl)⟩
     |false=>
      have hs:(ta&&ia)=true:=by simpa using hs
      obtain⟨h,g⟩:=(Ag _ _).mp hs;subst h g;exact⟨R2.frm _ _ s λw=>absurd (.inr w) n,r.fr R2.frm λa z=>.inr z⟩
    refine⟨_,OW.k (k:=.inr z) G.1,i _ _ R2 _ ?_⟩;rcases QT (k:=.inr z) G.2 with⟨v,d',e,c,E⟩|⟨e,c⟩
    ·rw[e,c];exact E
    ·rw[e,c];exact .non
   | @ktb _ l D F T r=>
    cases t;refine⟨l,rfl,.inr ⟨D,T,B,O,δ1,_,δ2,f.sta,h2,λj H2 R2=>?_⟩⟩;have p:=R2.rep;cases p;refine⟨z,rfl,i _ _ R2 _ ?_⟩;have r':b7 X.K (av B O ia) H2 (D.map Ec) ds:=by
     cases pb with
     |true=>exact r.same (R2.pur rfl)
     |false=>
      have hs:(ta&&ia)=true:=by simpa using hs
      obtain⟨h,g⟩:=(Ag _ _).mp hs;subst h g;exact r.fr R2.frm λa z=>.inr z
    rcases PD (k:=z) r' with⟨v,d',e,c,E⟩|⟨e,c⟩
    ·rw[e,c];exact E
    ·rw[e,c];exact .non
   |_=>cases t
  |_=>cases C
 |_=>cases C
end
theorem Wl:Bo "all"=some (.builtin "all"):=by decide+kernel
theorem CI:Bo "dict"=some (.type "dict"):=by decide+kernel
section
variable{X:Cx}{K:As}{ml:List Nat}{e a b c:Tj}{es:List Tj}{pa ta ia pb tb ib pc tc ic pu bt bi ps bs:Bool}{fa fb fc f:VF}{B B':Bs}{O:Nat->Option Tf}{H H0 H1 H':Hp}{σ:St}{δ δ':Ev}{v:V}{d:cX}{p:Tf}{pos:Pos}
theorem gK{ks:List Bool}{a:List Te}(r:bJ (ks.map V.bl) a){i:Nat}{u:Te}(h:a[i]?=some u):∃k,ks[i]?=some k/\u=.bool k:=by
 have hl:=r.length;rw[Cd] at hl;have hi:i<a.length:=(Ad.mp h).1;have e:(ks.map V.bl)[i]?=some (.bl ks[i]):=by simp[hl▸hi]
 obtain⟨w,h1,h2⟩:=r.get e;rw[h] at h1;cases h1;exact⟨ks[i],by simp[hl▸hi],h2⟩
theorem BQ{ks:List Bool}:(Au ks.length).all (λi=>(ks[i]?).getD true)=ks.all id:=by
 induction ks with
 |nil=>rfl
 |cons k ks a=>
  rw[Bu,Ic,Rz,Sh,Rz,<-a];rfl
def DN(K:As)(g:List Bool->Bool):RC:=λxs H Q=>∃p ks,xs=[.ref p]/\WT K H p (ks.map V.bl)/\Q (.bl (g ks)) H
theorem iB{prog:Br}{w:Tl}{A:Df}{ks:List Bool}{b:List Te}(r:bJ (ks.map V.bl) b):TruthOf prog w A (λi v=>b.toArray[i]?=some v) λi=>(ks[i]?).getD true:=by intro i v s Q E c a;obtain⟨k,h1,rfl⟩:=gK r (by simpa using c);have a:Q ((ks[i]?).getD true) s:=a;rw[h1] at a;exact Ef a
theorem AR(hc:X.calm=true):ZR X (.builtin "all") (DN X.K λks=>ks.all id):=by
 intro aa s σ H xs k Q I r h;obtain⟨l,ks,rfl,i,q⟩:=h;obtain⟨u,rfl,e⟩:=R7 r;cases e;obtain⟨its,c,f,m⟩:=I.list i;have hl:=f.isList;have a:l≠s.heap.objs.size:=by obtain⟨o,g,_⟩:=hl;exact Bk (Aq g)
 have d:=c.length;rw[Cd] at d;refine call_all_walk (Gz hl ⟨_,_,_,_,_,_,_,rfl,Walks.list (show X.A.in1.handled=none from I.ok.hd hc) s.heap.objs.size l a its.toArray,⟨⟨_,Ay _ rfl,rfl,rfl⟩,?_⟩,iB c,λh' tk j=>?_⟩)
 ·obtain⟨o,g,r⟩:=hl
  exact⟨o,Ae _ g,r⟩
 ·rw[At,<- d,BQ]
  exact⟨.bl _,H,I.kept (t':=tk) λb o g=>j b o (by simp;exact Bk (Aq g)) (Ae _ g),rfl,q⟩
theorem kAll(h:X.K=K)(hc:X.calm=true):ZR X (.builtin "all") (DN K λks=>ks.all id):=by subst h;exact AR hc
noncomputable def N9:List cX->Option (List Bool)
 |[]=>some []
 |.bl k::ds=>(N9 ds).map λks=>k::ks
 |_=>none
theorem CH{N:Tf->Prop}:∀{xs:List V} {ds:List cX} {ks:List Bool},b7 K N H xs ds->N9 ds=some ks->xs=ks.map V.bl
 |_,_,_,.nil,h=>by cases h;rfl
 | _,_,_,@b7.cons _ _ _ v vs d ds h t,e => by
  cases d with
  |bl k=>
   cases h;have e:(N9 ds).map (λks=>k::ks)=some _:=e;cases h2:N9 ds with
   |none=>rw[h2] at e;cases e
   |some a=>
    rw[h2] at e;cases e;rw[CH t h2,Bg]
  |_=>cases e
noncomputable def Uf(g:List Bool->Bool):cX->Option cX
 |.lst ds=>(N9 ds).map λks=>.bl (g ks)
 |_=>none
noncomputable abbrev oAll:=Uf λks=>ks.all id
theorem nT{g:List Bool->Bool}:CalS K (DN K g) (Uf g):=by
 intro H N M x d c Q b h k;cases d with
 |lst ds=>
  have h:(N9 ds).map (λks=>cX.bl (g ks))=some c:=h;obtain⟨ks,h1,h⟩:=Ar.mp h;cases h;obtain⟨a,xs,rfl,sq,r⟩:=b.lstE;have:=CH r h1;subst this;exact⟨a,ks,rfl,sq,k _ λ_ _ _=>.bl _⟩
 |_=>cases h
theorem Ux:CalS K (DN K λks=>ks.all id) oAll:=nT
noncomputable def UR:List cX->Option (List Int)
 |[]=>some []
 |.int i::ds=>(UR ds).map λns=>i::ns
 |_=>none
theorem MT{N:Tf->Prop}:∀{xs:List V} {ds:List cX} {ns:List Int},b7 K N H xs ds->UR ds=some ns->xs=ns.map V.int
 |_,_,_,.nil,h=>by cases h;rfl
 | _,_,_,@b7.cons _ _ _ v vs d ds h t,e => by
  cases d with
  |int k=>
   cases h;have e:(UR ds).map (λks=>k::ks)=some _:=e;cases h2:UR ds with
   |none=>rw[h2] at e;cases e
   |some a=>
    rw[h2] at e;cases e;rw[MT t h2,Bg]
  |_=>cases e
theorem HJ{N:Tf->Prop}:∀ns:List Int,b7 K N H (ns.map V.int) (ns.map cX.int)
 |[]=>.nil
 |i::ns=>.cons (.int i) (HJ ns)
theorem rngI{a:Int}{n:Nat}{acc:Array Te}(h:ItemsOf (λi v=>∃t,v=.int (a+i*1) t) acc n):bJ ((Au n).map λi:Nat=>V.int (a+i)) acc.toList:=by
 obtain⟨h1,h2⟩:=h;have go:∀(m:Nat) (b:List Te),b.length=m->∀k:Nat,(∀(i:Nat) (v:Te),b[i]?=some v->∃t,v=.int (a+((k+i:Nat):Int)*1) t)->bJ ((Au m).map λi:Nat=>V.int (a+((k+i:Nat):Int))) b:=by
  intro m;induction m with
  |zero=>intro b hl k _;rw[Ff.mp hl];exact .nil
  |succ m d=>
   intro b hl k c;cases b with
   |nil=>cases hl
   |cons u b=>
    rw[Ic,Bg,Fa];obtain⟨t,f⟩:=c 0 u rfl;refine .cons ⟨t,by rw[f];simp⟩ ?_;have:=d b (by simpa using hl) (k+1) λi v e=>by obtain⟨t,h⟩:=c (i+1) v (by simpa using e);exact⟨t,by rw[h,show k+(i+1)=k+1+i by lia]⟩
    have e:((λi:Nat=>V.int (a+((k+i:Nat):Int)))∘Nat.succ)=λi:Nat=>V.int (a+((k+1+i:Nat):Int)):=by funext i;simp only[Je,Nat.succ_eq_add_one];rw[show k+(i+1)=k+1+i by lia]
    rw[e];exact this
 have:=go n acc.toList (by simpa using h1) 0 λi v e=>by have:=h2 i v (by simpa using e);simpa using this
 simpa using this
theorem F8:ZR X (.type "range") (λxs H Q=>∃j,xs=[.int j]/\∀p,H p=none->Q (.ref p) (aN H p (.ext (rngP p 0 j 1)))):=by intro aa s σ H xs us Q I r h;obtain⟨j,rfl,q⟩:=h;obtain⟨u,rfl,t,rfl⟩:=R7 r;refine call_range_1 ?_;have b:=I.hok.fresh (Ak s.heap.objs.size);refine⟨.ref s.heap.objs.size,_,I.laid (a:=s.heap.objs.size) (o:=.ext (rngP s.heap.objs.size 0 j 1)) (t':=s.toks+1+1) (λ_ _ z=>Ae _ z) (Ak _) ?_,rfl,q _ b⟩;exact⟨⟨_,_,_,Sv ..⟩,⟨_,Ay _ rfl⟩,λh1 h2 ⟨t,u,v,z⟩ k=>⟨t,u,v,k _ z⟩⟩
theorem L4(hc:X.calm=true):ZR X (.type "list") (λxs H Q=>∃(p:Tf) (j:Int),xs=[.ref p]/\H p=some (.ext (rngP p 0 j 1))/\(0<=j/\j<=16777216)/\∀l,H l=none->Q (.ref l) (aN H l (.lst ((Au j.toNat).map λi:Nat=>V.int (0+i))))):=by
 intro aa s σ H xs y Q I r h;obtain⟨p,j,rfl,m,A,q⟩:=h;obtain⟨u,rfl,g⟩:=R7 r;cases g;obtain⟨⟨t,u,v,z⟩,_⟩:=I.hok p _ m;have n:Hr 0 j 1=(j.toNat:Int):=by
  unfold Hr;rw[if_pos (by decide)];split
  ·rw[Int.ediv_one]
   lia
  ·lia
 have d:(2:Int) ^ 62=4611686018427387904:=by decide
 have e:(2:Nat) ^ 24=16777216:=by decide
 have f:Sx 0 j 1=true:=small_one (a:=0) (b:=j) (by rw[d];decide) (by rw[d];decide) (by rw[d];lia) (by rw[d];lia);refine call_list_range (I.ok.hd hc) z f n (by rw[e];lia) λh' tk acc c kp w x=>?_;have k:=rngI x;refine⟨.ref s.heap.objs.size,_,I.laid (a:=s.heap.objs.size) (o:=.lst ((Au j.toNat).map λi:Nat=>V.int (0+i))) (t':=tk) kp (Ak _) ⟨?_,acc.toList,c,k,by simpa using w⟩,rfl,q _ (I.hok.fresh (Ak _))⟩;rw[Cd,Ha,Di];lia
noncomputable def SU(f:VF):VF:=λδ=>(f δ).bind λp=>match p.1 with
 |.int j=>if 0<=j/\j<=16777216 then some (.lst (aG 0 j.toNat),p.2) else none
 |_=>none
theorem eV{N:Tf->Prop}(lo:Int)(n:Nat):b7 K N H ((Au n).map λi:Nat=>V.int (lo+i)) (aG lo n):=by
 unfold aG;induction (Au n) with
 |nil=>exact .nil
 |cons x xs a=>exact .cons (.int _) a
theorem CB{r p2 f:Pos}(hc:X.calm=true)(w:Gl X "list")(u:X.mg "list"=none)(s:Bo "list"=some (.type "list"))(m:Gl X "range")(i:X.mg "range"=none)(g:Bo "range"=some (.type "range"))(y:PE X a (TV K ml pa ta ia fa))(n:Aj (a::[]) X.env=(false,eval a X.env)::Aj [] X.env:=by rfl)(b:Aj (.Call (.Name "range" p2) [a] [] f::[]) X.env=(false,eval (.Call (.Name "range" p2) [a] [] f) X.env)::Aj [] X.env:=by rfl):PE X (.Call (.Name "list" r) [.Call (.Name "range" p2) [a] [] f] [] pos) (TN K ml pa (SU fa)):=
 (VV (L4 hc) w u s (bC (VV F8 m i g (bC y Y7 n) (by decide) (by decide) n) Y7 b) (by decide) (by decide) b).imp λσ H Q h => by
  obtain⟨B,O,δ,d,δ',S,q,k⟩:=h;unfold SU at q;obtain⟨⟨x,δ1⟩,h1,q⟩:=Aa.mp q;cases x with
  |int j=>
   have q:(if 0<=j/\j<=16777216 then some (cX.lst (aG 0 j.toNat),δ1) else none)=some (d,δ'):=q;split at q
   ·rename_i v
    cases q;refine⟨B,O,δ,_,_,S,h1,λA H1 c=>?_⟩;have o:=c.rep;cases o;refine⟨j,rfl,λp t=>⟨p,j,rfl,bZ,v,λl hl=>?_⟩⟩;have e:aP H1 (aN H1 p (.ext (rngP p 0 j 1))):=cN t;exact k l _ (mkN (c.sta.same e) (c.frm.trans e.fr) (λz=>(c.pur z).trans e) hl (eV 0 j.toNat))
   ·cases q
  |_=>cases q
end
section
variable{X:Cx}{K:As}{ml:List Nat}{e a b c:Tj}{es:List Tj}{pa ta ia pb tb ib pc tc ic pu bt bi ps bs:Bool}{fa fb fc f:VF}{B B':Bs}{O:Nat->Option Tf}{H H0 H1 H':Hp}{σ:St}{δ δ':Ev}{v:V}{d:cX}{p:Tf}{pos:Pos}
noncomputable def U6(n:Int):List Int->Option Nat
 |[]=>none
 |i::ns=>if i=n then some 0 else(U6 n ns).map (· +1)
theorem LG{n:Int}:∀{ns:List Int} {j:Nat},U6 n ns=some j->ns[j]?=some n/\∀m,m<j->ns[m]? ≠some n
 |[],_,h=>by cases h
 | i :: ns,j,h => by
  unfold U6 at h;split at h
  ·rename_i hi
   cases h;exact⟨by rw[hi];rfl,λm a=>absurd a (Qs _)⟩
  ·rename_i hi
   obtain⟨k,h1,h⟩:=Ar.mp h;cases h;obtain⟨h2,b⟩:=LG h1;refine⟨by simpa using h2,λm a=>?_⟩;cases m with
   |zero=>simpa using hi
   |succ m=>simpa using b m (Nat.lt_of_succ_lt_succ a)
theorem HY{ns:List Int}{a:List Te}(r:bJ (ns.map V.int) a){m:Nat}{u:Te}(h:a[m]?=some u):∃i t,ns[m]?=some i/\u=.int i t:=by
 have hl:=r.length;rw[Cd] at hl;have b:m<a.length:=(Ad.mp h).1;have e:(ns.map V.int)[m]?=some (.int ns[m]):=by simp[hl▸b]
 obtain⟨f,c,t,d⟩:=r.get e;rw[h] at c;cases c;exact⟨ns[m],t,by simp[hl▸b],d⟩
noncomputable def MU(n:Int):Te->Bool
 |.int i _=>i==n
 |_=>false
theorem Xc{ns:List Int}{its:List Te}{n:Int}{j:Nat}(r:bJ (ns.map V.int) its)(h:U6 n ns=some j):∃e:j<its.toArray.size,MU n its.toArray[j]=true/\(∀m (a:m<its.toArray.size),m<j->MU n its.toArray[m]=false):=by
 obtain⟨h1,h2⟩:=LG h;have hl:=r.length;rw[Cd] at hl;have e:j<ns.length:=(Ad.mp h1).1;have at_:∀(m:Nat) (a:m<its.toArray.size),∃i t,ns[m]?=some i/\its.toArray[m]=.int i t:=λm a=>by
  have d:m<its.length:=by simpa using a
  exact HY r (u:=its.toArray[m]) (by simp[d])
 refine⟨by simpa[<-hl] using e,?_,λm a c=>?_⟩
 ·obtain ⟨i,t',b,f⟩ := at_ j (by simpa [<- hl] using e)
  rw[h1] at b;cases b;rw[f];simp[MU]
 ·obtain⟨i,t',b,f⟩:=at_ m a
  have:=h2 m c;rw[b] at this;rw[f];exact beq_eq_false_iff_ne.mpr λz=>this (by rw[z])
theorem Uw{ns:List Int}{its:List Te}(r:bJ (ns.map V.int) its){y:Te}(b:y∈its.toArray):∃i t,y=.int i t:=by
 obtain⟨m,c,rfl⟩:=Array.mem_iff_getElem.mp b;have a:m<its.length:=by simpa using c
 obtain⟨i,t,_,e⟩:=HY r (m:=m) (u:=its.toArray[m]) (by simp[a]);exact⟨i,t,e⟩
def Vu(K:As):V->List V->Hp->VK->Prop:=λx vs H Q=>∃(l:Tf) (ns:List Int) (n:Int) (j:Nat),x=.ref l/\vs=[.int n]/\WT K H l (ns.map V.int)/\U6 n ns=some j/\Q (.int j) H
theorem BF:MtM X "list.index" (Vu X.K):=by
 intro aa s σ H x vs v A Q I g k h;obtain⟨l,ns,n,j,rfl,rfl,w,z,q⟩:=h;cases g;obtain⟨u,rfl,t,rfl⟩:=k.one;obtain⟨its,r,⟨o,c,e,hc,b,d⟩,m⟩:=I.list w;obtain⟨cls,D,data,f⟩:=o;simp only at hc b d;subst hc b d;obtain⟨a,h1,h2⟩:=Xc r z;have hl:=r.length;refine Om F.slot_list_index ⟨_,e,rfl⟩ F.entry_list_index (F.args_list_index_2 _ _) (SeqAt.list_indexAt l its.toArray c none f (.int n t) (MU n) j a (by
  have C:its.length<=16777216:=by rw[<-hl,<-Di];exact m
  have B:j<its.length:=by simpa using a
  lia) h1 h2) ⟨e,?_,?_⟩
 ·intro y p
  obtain⟨i,t',rfl⟩:=Uw r p;exact SeqAt.EqAt.int_int i t' n t
 ·exact⟨.int j,H,I.tok _,⟨_,rfl⟩,q⟩
theorem kT(h:X.K=K):MtM X "list.index" (Vu K):=by subst h;exact BF
noncomputable def E4:cX->cX->Option cX
 |.lst ds,.int n=>(UR ds).bind λns=>(U6 n ns).map λj=>.int j
 |_,_=>none
theorem mR{ax ag:Pos}(i:X.K=K)(s:PE X a (TV K ml pa ta ia fa))(hb:PE X b (TV K ml pb tb ib fb))(w:Hv a "index" X.env (eval a X.env)=eval a X.env:=by rfl)(u:((Fx ag (Aj (b::[]) X.env)).all (λx=> !x.1)&&(Nv ag (Jm [] X.env)).all (λx=>x.1.isSome)&&decide ((b::([]:List Tj)).length+([]:List Jn).length+(if([]:List Jn).isEmpty then 0 else 1)<30))=true:=by rfl)(A:(ax.endLine==ag.line)=true:=by rfl)(hs:Aj (b::[]) X.env=(false,eval b X.env)::Aj [] X.env:=by rfl)(C:(Fx ag (Aj [] X.env)).any (·.1)=false:=by rfl)(hl:(pb || (ta&&ia))=true:=by rfl):PE X (.Call (.Attribute a "index" ax) [b] [] ag) (TV K ml (pa&&pb) true true (f2 E4 fa fb)):=
 (kBm (K := K) i Lg PySem.F.slot_list_index PySem.F.type_list_index (kT i) s (bC hb Y7 hs) w u A hs C).imp λσ H Q g => by
  obtain⟨B,O,δ,d,δ2,S,q,k⟩:=g;obtain⟨x,δ1,y,h1,h2,c⟩:=PH q;refine⟨B,O,δ,x,δ1,S,h1,λE H1 e=>?_⟩;cases x with
  |lst ds=>
   cases y with
   |int n=>
    have c:((UR ds).bind λns=>(U6 n ns).map λj=>cX.int j)=some d:=c;obtain⟨ns,t,c⟩:=Aa.mp c;have c:(U6 n ns).map (λj=>cX.int j)=some d:=c;cases h:U6 n ns with
    |none=>rw[h] at c;cases c
    |some j=>
     rw[h] at c;cases c;obtain⟨l,xs,rfl,sq,_⟩:=e.rep.lstE;refine⟨.inl ⟨rfl,xs,sq⟩,B,O,δ1,_,δ2,e.sta,h2,λD H2 R2=>?_⟩;have r:=R2.rep;cases r;obtain⟨G,p,v,f,r'⟩:=(R2.live hl e.rep).lstE;cases v;have:=MT r' t;subst this;exact⟨l,ns,n,j,rfl,rfl,f,h,k _ H2 ⟨R2.sta,e.frm.trans R2.frm,λz=>by obtain⟨o,m⟩:=(Ag _ _).mp z;exact(e.pur o).trans (R2.pur m),.int _⟩⟩
   |_=>cases c
  |_=>cases c
def DP:V->List V->Hp->VK->Prop:=λx vs H Q=>∃(l:Tf) (ns:List Int) (n:Int) (j:Nat),x=.ref l/\vs=[.int n]/\H l=some (.lst (ns.map V.int))/\U6 n ns=some j/\Q .non (aN H l (.lst ((ns.eraseIdx j).map V.int)))
theorem KW{α β:Type}(g:α->β):∀(l:List α) (j:Nat),(l.map g).eraseIdx j=(l.eraseIdx j).map g
 |[],_=>by simp
 |_::_,0=>by simp
 |x::l,j+1=>by simp[KW g l j]
theorem BG:MtM X "list.remove" DP:=by
 intro aa s σ H x vs v o Q I f g h;obtain⟨l,ns,n,j,rfl,rfl,d,m,q⟩:=h;cases f;obtain⟨u,rfl,t,rfl⟩:=g.one;obtain⟨z,its,c,r,hl,e⟩:=I.lstM d;obtain⟨a,h1,h2⟩:=Xc r m;refine Om F.slot_list_remove ⟨_,e,rfl⟩ F.entry_list_remove (F.args_list_remove_2 _ _) (MeetsSeq.list_remove l its.toArray c (.int n t) (MU n) (λy k=>?_) j a h1 h2 (by rw[At,<-hl];exact z)) ⟨e,?_⟩
 ·obtain⟨i,t',rfl⟩:=Uw r k
  exact Sq i n t' t
 ·have b : j < its.length := by simpa using a
  refine⟨.non,_,I.lset (its':=its.eraseIdx j) d e (by simp[Kx,b]) (ys:=(ns.eraseIdx j).map V.int) ?_ ?_,rfl,q⟩
  ·have:=bJ.eraseIdx j r
   rwa[KW] at this
  ·rw[Cd]
   have h1:=List.length_eraseIdx_le ns j;rw[Cd] at z;lia
noncomputable def mRem:List cX->List cX->Option (List cX)
 |ds,[.int n]=>(UR ds).bind λns=>(U6 n ns).map λj=>(ns.eraseIdx j).map cX.int
 |_,_=>none
theorem kQ:MuV K DP mRem:=by
 intro H N l xs vs ds es a Q hl i b c h k;cases c with
 |nil=>cases h
 | @cons v vs d es e t=>
  cases t with
  |cons _ _=>cases d<;>cases h
  |nil=>
   cases d with
   |int n=>
    cases e;have h:((UR ds).bind λns=>(U6 n ns).map λj=>(ns.eraseIdx j).map cX.int)=some a:=h;obtain⟨ns,g,h⟩:=Aa.mp h;have h:(U6 n ns).map (λj=>(ns.eraseIdx j).map cX.int)=some a:=h;obtain⟨j,f,h⟩:=Ar.mp h;cases h;have:=MT b g;subst this;exact⟨l,ns,n,j,rfl,rfl,hl,f,k _ _ (HJ _)⟩
   |_=>cases h
end
section
variable{X:Cx}{K:As}{ml:List Nat}{e:Tj}{es:List Tj}{pu bt bi bs:Bool}{f:VF}{fs:MI}
theorem cO(h:PE X e (TV K ml pu bt bi f))(hb:(bt&&bi)=true:=by rfl):PE X e (TV K ml pu true true f):=by obtain⟨h1,h2⟩:=(Ag _ _).mp hb;subst h1 h2;exact h
theorem Uc(h:PE X e (TV K ml pu bt bi f))(hb:bi=true:=by rfl):PE X e (TV K ml pu bt true f):=by subst hb;exact h
theorem bW(h:PA X es (TAV K ml pu bs fs))(hb:bs=true:=by rfl):PA X es (TAV K ml pu true fs):=by subst hb;exact h
theorem NP{st:Tt}:PS X st (SK K ml λ_=>none):=λ_ _ _ _ _ _ ⟨_,_,_,_,_,q,_⟩=>nomatch q
variable{a b c:Tj}{pa ta ia pb tb ib pc tc ic:Bool}{fa fb fc:VF}{pos:Pos}{δ:Ev}
end
section
variable{X:Cx}{K:As}{ml:List Nat}{e a b c:Tj}{pa ta ia pb tb ib pu:Bool}{fa fb fc f:VF}{B:Bs}{O:Nat->Option Tf}{H H':Hp}{σ:St}{δ δ':Ev}{v:V}{d:cX}{p:Tf}{pos:Pos}{ks:List (Option Tj)}{vs:List Tj}
theorem K7:∀{more acc:List (Z7×V)},((acc++more).map Cz).Nodup->M0 acc more=acc++more
 |[],acc,_=>by simp[M0]
 |(k,v)::more,acc,a=>by
  have d:∀q∈acc,q.1≠k:=λq b z=>by rw[Gs,Bg] at a;exact(Ow.mp a).2.2 q.1 (List.mem_map_of_mem b) k (by simp) z
  have c:SE acc k=none:=by unfold SE;rw[List.find?_eq_none.mpr λq b=>by simpa using d q b];rfl
  show M0 (W7 acc k v) more=_;rw[dN v c,K7 (by simpa using a)];simp
end
theorem TW:∀(names:List (Ti×Tu)) (n:Nat) (acc:List (Ti×Tf)),Ts n names acc=Ts n names []++acc
 |[],_,_=>rfl
 | (x,k) :: r,n,acc => by
  unfold Ts;split
  ·rw[TW r (n+1) ((x,n)::acc),TW r (n+1) [(x,n)]]
   simp
  ·exact TW r n acc
theorem IU:∀{names:List (Ti×Tu)} {n:Nat} {x:Ti} {c:Tf},(x,c)∈Ts n names []->(x,Cj)∈names
 |[],_,_,_,h=>nomatch h
 | (y,k) :: r,n,x,c,h => by
  unfold Ts at h;split at h
  ·rename_i a
   rw[TW] at h;rcases Cp.mp h with h|h
   ·exact Ao _ (IU h)
   ·cases Bb.mp h
    rw[show k=Cj from beq_iff_eq.mp a];exact Ap
  ·exact Ao _ (IU h)
theorem IT:∀{names:List (Ti×Tu)} {n:Nat} {x:Ti},(x,Cj)∈names->∃c,(x,c)∈Ts n names []
 | (y,k) :: r,n,x,h => by
  unfold Ts;rcases Ai.mp h with e|h
  ·cases e
   rw[if_pos (by decide),TW];exact⟨n,Av _ (Bb.mpr rfl)⟩
  ·split
   ·rw[TW]
    obtain⟨c,hc⟩:=IT (n:=n+1) h;exact⟨c,Cg _ hc⟩
   ·exact IT h
theorem RN:∀{l:List (Ti×Tf)} {x:Ti} {c:Tf},(x,c)∈l->∃a,l.lookup x=some a
 | (y,d) :: r,x,c,h => by
  rw[Cs];cases hb:x==y with
  |true=>exact⟨d,rfl⟩
  |false=>
   rcases Ai.mp h with e|h
   ·cases e
    simp at hb
   ·exact RN h
theorem aD:∀{l m:List (Ti×Tf)} {x:Ti} {c:Tf},(l++m).lookup x=some c->l.lookup x=some c∨(l.lookup x=none/\m.lookup x=some c)
 |[],_,_,_,h=>.inr ⟨rfl,h⟩
 |(y,d)::r,m,x,c,h=>by
  rw[Er,Cs] at h;rw[Cs];cases hb:x==y with
  |true=>rw[hb] at h;exact .inl h
  |false=>rw[hb] at h;exact aD h
theorem WH:∀{l m:List (Ti×Tf)} {x:Ti},l.lookup x=none->(l++m).lookup x=m.lookup x
 |[],_,_,_=>rfl
 |(y,d)::r,m,x,h=>by
  rw[Cs] at h;rw[Er,Cs];cases hb:x==y with
  |true=>rw[hb] at h;cases h
  |false=>rw[hb] at h;exact WH h
theorem OO{M:Model}{A:Df}{E:Te->Ah->Prop}{s:Ah}{scope:Tr}{globals:Tf}{d:List (Ti×Tf)}{a:Ti}{outer:Env}{Q:Env->Ah->Prop}(e:Q (newEnv scope s.heap.objs.size globals (Ts (s.heap.objs.size+1) scope.names d) a none .none (some outer) builtinsNs) {s with heap:=Ky (s.heap.push {cls:=.type "dict",data:=.dict #[]}) scope.names}):Tg M A (Km scope globals d [] a none .none (some outer)) Q E s:=by simp only[Km,Nw,if_true];refine Ac (wpAny_alloc ?_);refine Ac (wpAny_layCells _ (λname kind c=>by cases b:kind==Cj<;>simp[b]) _ _ _ _ ?_);rw[show({s with heap:=s.heap.push {cls:=.type "dict",data:=.dict #[]}}:Ah).heap.objs.size=s.heap.objs.size+1 from De ..];rw[Nb];exact Ac (An (An e))
theorem XE:∀{l m:List (Ti×Tf)} {x:Ti} {c:Tf},l.lookup x=some c->(l++m).lookup x=some c
 |(y,d)::r,m,x,c,h=>by
  rw[Cs] at h;rw[Er,Cs];cases hb:x==y with
  |true=>rw[hb] at h;exact h
  |false=>rw[hb] at h;exact XE h
structure SG(X:Cx)(N':List Ti)(ix:List Nat)(scope:Tr):Prop where
 kind:scope.kind=.function
 cel:∀y∈scope.names,y.2=.cell->scope.names.lookup y.1=some .cell
 names:∀y∈scope.names,y.2=.local->scope.names.lookup y.1=some .local
 free:∀y∈scope.names,y.2=.free->X.env.kindOf y.1=some .cell∨X.env.kindOf y.1=some .free
 nd:N'.Nodup
 cap:∀j,j<ix.length->N'[j]?=(ix[j]?).bind λi=>X.N[i]?
 capf:∀x∈N'.take ix.length,scope.names.lookup x=some .free
noncomputable def bG(X:Cx)(N':List Ti)(scope:Tr)(cl:List (Ti×Tf))(s1:Ah)(H1:Hp)(fp:List Tf):Cx:=
 {X with N:=N',s₀:=s1,H₀:=H1,env:=Qa scope cl s1.heap.objs.size X.env,outer:=X.stack,stack:=X.stack,ex:=fp,fn:=λx=>scope.names.lookup x==some Cj,pn:=[],xe:=λ_ _=>False}
theorem W0{env:Env}{x:Ti}:∀{l:List (Ti×Tu)},((l.map λ(n,k)=>if(k==Bp&&env.scope.kind== .function&&env.kindOf n==some .cell) then(n,Cj) else(n,k)).lookup x=some .cell∨(l.map λ(n,k)=>if(k==Bp&&env.scope.kind== .function&&env.kindOf n==some .cell) then(n,Cj) else(n,k)).lookup x=some .free)->(x,Bp)∈l∨(x,Cj)∈l
 |[],h=>by rcases h with z|z<;>cases z
 | (n,k) :: r,h => by
  have h:Nf x ((if(k==Bp&&env.scope.kind== .function&&env.kindOf n==some .cell)=true then(n,Cj) else(n,k))::r.map λ(n,k)=>if(k==Bp&&env.scope.kind== .function&&env.kindOf n==some .cell) then(n,Cj) else(n,k))=some .cell∨
   Nf x ((if(k==Bp&&env.scope.kind== .function&&env.kindOf n==some .cell)=true then(n,Cj) else(n,k))::r.map λ(n,k)=>if(k==Bp&&env.scope.kind== .function&&env.kindOf n==some .cell) then(n,Cj) else(n,k))=some .free:=h
  by_cases hc:(k==Bp&&env.scope.kind== .function&&env.kindOf n==some .cell)=true
  ·rw[if_pos hc] at h
   by_cases a:x=n
   ·subst a
    have b:k=.free:=by simp only[Ag] at hc;exact beq_iff_eq.mp hc.1.1
    subst b;exact .inl Ap
   ·have hb:(x==n)=false:=beq_eq_false_iff_ne.mpr a
    simp only[Cs,hb] at h;rcases W0 (env:=env) h with z|z
    ·exact .inl (Ao _ z)
    ·exact .inr (Ao _ z)
  ·rw[if_neg hc] at h
   by_cases a:x=n
   ·subst a
    rw[Eh] at h;rcases h with z|z
    ·cases z;exact .inr Ap
    ·cases z;exact .inl Ap
   ·have hb:(x==n)=false:=beq_eq_false_iff_ne.mpr a
    simp only[Cs,hb] at h;rcases W0 (env:=env) h with z|z
    ·exact .inl (Ao _ z)
    ·exact .inr (Ao _ z)
theorem MJ{X:Cx}{aa:List (Tf×Tq)}{σ:St}{H2:Hp}{a:Ah}{E:Te->Ah->Prop}{tg iter elt:Tj}{ifs:List Tj}{scope:Tr}{pos:Pos}{N':List Ti}{ix:List Nat}{nl:Nat}{g:TG}{tt:TT}{te:TE}{cl:List (Ti×Tf)}{J:It}{fp:List Tf}{it:Tf}{tn:Nat->Tp->Prop}{Q:V->Hp->Prop}{RR:Te->Tf->Qj->Ah->Prop}(hc:X.calm=true)(S:SG X N' ix scope)(hnl:N'.length=ix.length+nl)(bz:∀x c,cl.lookup x=some c->X.env.cells.lookup x=some c)(ig:∀x,(x,Bp)∈scope.names->∃c,cl.lookup x=some c)(blk:∀(cl:List (Ti×Tf)) (s1:Ah) (H1:Hp) (fp:List Tf),Blk (bG X N' scope cl s1 H1 fp) tg ifs elt g tt te)(I2:cE X aa σ H2 a)(T:F4 X.prog X.w X.K tg J fp it tn)(st2:tn 0 a.heap)(f2:∀b∈fp,O8 X aa H2 b)(h:∀D,H2 D=none->Wu D ix nl J g tt te σ H2 λH'=>Q (.ref D) H')(fin:∀(D C:Tf) (s':Ah) (H':Hp),cE X aa σ H' s'->(∃m,s'.heap.Ns C m)->C≠X.env.locals->(∀x c,X.env.cells.lookup x=some c->c≠C)->(∀(k:St) (P:Ah) (h'':Tp),cE X aa k H' P->Fo C P.heap h''->cE X aa k H' {P with heap:=h''})->Q (.ref D) H'->RR (.ref D) C (.ok .next) s'):Tg (Th X.prog X.w) X.A (Ry []) (λacc t=>Tg (Th X.prog X.w) X.A (Km scope X.env.globals cl [] X.env.qual none .none (some X.env)) (λii s₄=>Gp (Th X.prog X.w) X.A (.compStart (.ListComp elt [⟨tg,iter,ifs,0⟩] scope pos) 0 (.ref it) acc {ii with scope:=relabel scope X.env}) (RR acc ii.locals) s₄) E t) E a:=by
 refine Dd (OO ?_);dsimp only;have f:cE X aa σ (aN H2 a.heap.objs.size (.lst [])) {a with heap:=a.heap.push {cls:=.type "list",dict:=none,data:=.seq ([]:List Te).toArray}}:=
  I2.lnew (t':=a.toks) (ys:=[]) (its:=[]) .nil (Cy _)
 have hDn:H2 a.heap.objs.size=none:=I2.hok.fresh (Ak _);obtain⟨W,⟨m0,w0⟩,turn⟩:=h _ hDn;generalize hs1:({a with heap:=a.heap.push {cls:=.type "list",dict:=none,data:=.seq ([]:List Te).toArray}}:Ah)=s1 at f;have cp:a.heap.push {cls:=.type "list",dict:=none,data:=.seq ([]:List Te).toArray}=s1.heap:=by rw[<-hs1]
 rw[cp];have H:∀b o,s1.heap.get? b=some o->(Ky (s1.heap.push {cls:=.type "dict",data:=.dict #[]}) scope.names).get? b=some o:=λb o e=>Js _ _ _ _ (Ae _ e);have G:(Ky (s1.heap.push {cls:=.type "dict",data:=.dict #[]}) scope.names).Ns s1.heap.objs.size (λ_=>none):=(Sy s1.heap (.type "dict")).keeps λb o e=>Js _ _ _ _ e;have L:=cellsFrom_ok scope.names (s1.heap.push {cls:=.type "dict",data:=.dict #[]}) (s1.heap.objs.size+1) [] ⟨λ_ _ hm=>(nomatch hm),Ku⟩ (by rw[De];exact Ak _);rw[De] at L;generalize hz1:Ky (s1.heap.push {cls:=.type "dict",data:=.dict #[]}) scope.names=B at H G L;rw[TW];generalize hnc:Ts (s1.heap.objs.size+1) scope.names []=s at L;have F:∀x c,s.lookup x=some c->(x,Cj)∈scope.names/\B.IsCell c none/\s1.heap.objs.size+1<=c:=λx c e=>by have hm:=By e;exact⟨IU (n:=s1.heap.objs.size+1) (by rw[hnc];exact hm),L.empty x c hm⟩
 have nch:∀x,(x,Cj)∈scope.names->∃c,s.lookup x=some c:=λx h=>by obtain⟨c,hc⟩:=IT (n:=s1.heap.objs.size+1) h;rw[hnc] at hc;exact RN hc
 have g0:∀b∈fp,b<a.heap.objs.size:=λb hb=>by obtain⟨o,e,_⟩:=T.obj _ _ st2 b hb;exact Aq e
 have i5:s1.heap.objs.size=a.heap.objs.size+1:=by rw[<-cp,De]
 have jy:∀b o,a.heap.get? b=some o->s1.heap.get? b=some o:=λb o e=>by rw[<-cp];exact Ae _ e
 have cq:∀x c,cl.lookup x=some c->c<s1.heap.objs.size:=λx c e=>by obtain⟨v,q⟩:=f.cell x c (bz x c e);exact q.lt
 have rl:∀b∈A7 X.stack,b<s1.heap.objs.size:=λb hb=>by obtain⟨_,o,ho,_⟩:=(f.stack).mem hb;exact Aq ho
 have R:(bG X N' scope (s++cl) s1 (aN H2 a.heap.objs.size (.lst [])) fp).Ok:=by
  refine⟨f.ok.mod,S.kind,f.ok.glob,f.ok.blt,Ak _,λx y c e1 O=>?_,λx hx=>?_,λx c hf e=>?_,f.ok.hd,f.ok.frames,.inl rfl,λb hb=>⟨?_,λx c e=>?_⟩,λb o e=>?_,Ce f.ok.bsz f.sz,λb o e hb=>?_,λb hb hb2=>?_,f.stack,f.stkFree⟩
  ·rcases aD e1 with Z|⟨_,o1⟩
   ·rcases aD O with n2|⟨_,o2⟩
    ·exact Ob L.apart (By Z) (By n2)
    ·exact absurd (Ba (cq y c o2) (Ew (F x c Z).2.2)) (Cm _)
   ·rcases aD O with n2|⟨_,o2⟩
    ·exact absurd (Ba (cq x c o1) (Ew (F y c n2).2.2)) (Cm _)
    ·exact f.ok.inj x y c (bz x c o1) (bz y c o2)
  ·cases q:s.lookup x with
   |some c=>exact⟨c,XE q⟩
   |none=>
    rcases W0 hx with h|h
    ·obtain⟨c,hc⟩:=ig x h
     exact⟨c,(WH q).trans hc⟩
    ·obtain⟨c,hc⟩:=nch x h
     rw[q] at hc;cases hc
  ·have hx:(x,Cj)∈scope.names:=By (beq_iff_eq.mp hf)
   obtain⟨c',M⟩:=nch x hx;have:=XE (m:=cl) M;have e:(s++cl).lookup x=some c:=e;rw[this] at e;cases e;exact Ew (F x c M).2.2
  ·exact Bk (Ba (g0 b hb) (by show a.heap.objs.size<=s1.heap.objs.size;rw[i5];exact Ge _))
  ·rcases aD e with Z|⟨_,o1⟩
   ·have h1:=g0 b hb
    have h2:=(F x c Z).2.2;rw[i5] at h2;exact λz=>absurd (z▸h2) (Ps (Ba h1 (Ce (Ge _) (Ge _))))
   ·exact(f2 b hb).2.2.2.2.1 x c (bz x c o1)
  ·exact f.bs b o e
  ·have:=(f2 b hb)
   obtain⟨o',e',_⟩:=T.obj _ _ st2 b hb;have hlt:=Ba (Aq e) f.ok.bsz;rcases this.2.2.2.1 with z|z
   ·exact f.ok.noex b o e z
   ·exact absurd (Ba hlt z) (Cm _)
  ·rcases Ai.mp (f.stkSub b hb2) with z|z
   ·exact(f2 b hb).2.1 z
   ·exact(f2 b hb).2.2.1 z
 have f7:(aJ ix σ++Bi nl none).length=N'.length:=by rw[Cf,Ir,hnl];simp[aJ]
 have IY:cE (bG X N' scope (s++cl) s1 (aN H2 a.heap.objs.size (.lst [])) fp) [] (aJ ix σ++Bi nl none) (aN H2 a.heap.objs.size (.lst [])) {a with heap:=B}:=by
  refine⟨R,?_,I2.bare,Un.kept H,⟨_,G,λj x v e1 O e3=>?_⟩,λx c e=>?_,f.hok.fresh (Ak _),λx c e=>?_,λp hp=>absurd (show p∈([]:List (Tf×Tq)) from hp) (by simp),f.hok.kept H,f7⟩
  ·show a.os=s1.os
   rw[<-hs1]
  ·have U:j<ix.length:=by
    by_cases U:j<ix.length
    ·exact U
    ·exfalso
     have hl:(aJ ix σ).length=ix.length:=by simp[aJ]
     rw[Bj (by rw[hl];lia),Db] at O;split at O<;>cases O
   have hl:(aJ ix σ).length=ix.length:=by simp[aJ]
   rw[Af (by rw[hl];exact U)] at O;have hci:=S.cap j U;obtain⟨i,hi⟩:∃i,ix[j]?=some i:=⟨ix[j],by simp[U]⟩;rw[hi] at hci;have hNi:X.N[i]?=some x:=by have:N'[j]?=X.N[i]? :=hci;rw[<-this];exact e1
   have hσ:σ[i]?=some (some v):=by
    unfold aJ at O;rw[Cb,hi] at O;have Y:(σ[i]?).join=some v:=by simpa using O
    cases q:σ[i]? with
    |none=>rw[q] at Y;cases Y
    |some o=>rw[q] at Y;rw[show o=some v from Y]
   have hfl:scope.names.lookup x=some .free:=S.capf x (by rw[Ez];exact⟨j,by rw[Cc U];exact e1⟩)
   have bq:(x,Bp)∈scope.names:=By hfl;have hpk:X.env.kindOf x=some .cell∨X.env.kindOf x=some .free:=by exact S.free (x,.free) bq rfl
   have k5:Vis X.env.scope x:=by
    rcases hpk with z|z
    ·exact .inr (.inl z)
    ·exact .inr (.inr z)
   obtain⟨m,hn,k7⟩:=f.loc;obtain⟨u,ru,l⟩:=k7 i x v hNi hσ k5;refine⟨u,ru,?_⟩;rcases l with⟨hk,_⟩|⟨hk,c,ec,z⟩
   ·rcases hpk with q|q<;>rw[hk] at q<;>cases q
   ·obtain⟨c',M⟩:=ig x bq
    have:c'=c:=by have:=bz x c' M;rw[ec] at this;exact(Bw this).symm
    subst this;have k6:s.lookup x=none:=by
     cases q:s.lookup x with
     |none=>rfl
     |some d=>
      have:=S.cel (x,.cell) (F x d q).1 rfl;rw[hfl] at this;cases this
    refine .inr ⟨U7 hfl,c',(WH k6).trans M,?_⟩
    ·obtain⟨o,ho,hd⟩:=z
     exact⟨o,H _ _ ho,hd⟩
  ·rcases aD e with Z|⟨_,o1⟩
   ·exact⟨none,(F x c Z).2.1⟩
   ·obtain⟨v,o,ho,hd⟩:=f.cell x c (bz x c o1)
    exact⟨v,o,H _ _ ho,hd⟩
  ·rcases aD e with Z|⟨_,o1⟩
   ·exact f.hok.fresh (Ew (F x c Z).2.2)
   ·exact f.freeC x c (bz x c o1)
 have kg:∀{pY:List (Tf×Tq)} {k:St} {H':Hp} {s':Ah},cE (bG X N' scope (s++cl) s1 (aN H2 a.heap.objs.size (.lst [])) fp) pY k H' s'->cE X aa σ H' s':=λ{pY k H' s'} J'=>
  f.call' J'.os J'.base J'.hok J'.bare λb hb=>⟨(f2 b hb).2.2.2.1,(f2 b hb).2.1,(f2 b hb).2.2.2.2.1,(f2 b hb).2.2.2.2.2⟩
 have stat:∀{H':Hp} {pY:List (Tf×Tq)},(∀b∈fp,H' b=none)->pY=[]->∀b∈fp,O8 (bG X N' scope (s++cl) s1 (aN H2 a.heap.objs.size (.lst [])) fp) pY H' b:=λ{H' pY} hn hp b hb=>by subst hp;refine⟨hn b hb,(R.exf b hb).1,R.exfs b hb,.inl hb,(R.exf b hb).2,λp hp=>absurd (show p∈([]:List (Tf×Tq)) from hp) (by simp)⟩
 have st1:tn 0 B:=T.keep 0 a.heap B st2 λb hb o e=>H b o (jy b o e);have fr1:∀b∈fp,(aN H2 a.heap.objs.size (.lst [])) b=none:=λb hb=>by rw[bF (Bk (g0 b hb))];exact(f2 b hb).1
 have loop:∀t:Ah,t={a with heap:=B}->
   Gp (Th X.prog X.w) X.A (.compLoop (.ListComp elt [⟨tg,iter,ifs,0⟩] scope pos) 0 (.ref it) (.ref a.heap.objs.size) (Qa scope (s++cl) s1.heap.objs.size X.env)) (RR (.ref a.heap.objs.size) s1.heap.objs.size) t:=by
  rintro t rfl;refine AW (λn s'=>∃i k H' acc,cE (bG X N' scope (s++cl) s1 (aN H2 a.heap.objs.size (.lst [])) fp) [] k H' s'/\k.take ix.length=aJ ix σ/\tn i s'.heap/\(∀b∈fp,H' b=none)/\W i n acc H') ?_ m0
   ⟨0,_,_,[],IY,by rw[Ct (by simp[aJ])];exact Co (by simp[aJ]),st1,fr1,w0⟩
  rintro n s' ⟨i,k,H',acc,J',hσ,st',fr',w'⟩;have Jc:cE (bG X N' scope (s++cl) s1 (aN H2 a.heap.objs.size (.lst [])) fp) [] (aJ ix σ++Bi nl none) H' s':=by
   refine J'.weak (by rw[f7];exact J'.len.symm) λj v e=>?_;have hl:(aJ ix σ).length=ix.length:=by simp[aJ]
   by_cases U:j<ix.length
   ·rw [Af (by rw [hl];exact U),<- hσ,Cc U] at e
    exact e
   ·rw [Bj (by rw [hl];lia),Db] at e
    split at e<;>cases e
  rcases turn i n acc H' w' with⟨stop,q⟩|⟨go,N,hN,step⟩
  ·refine Az (T.done (bG X N' scope (s ++ cl) s1 (aN H2 a.heap.objs.size (.lst [])) fp) rfl rfl rfl hc i [] s' _ H' (λ_ _ => False) Jc (stat fr' rfl) st' stop) (λr s4 ⟨hr,I4⟩ => ?_) λ_ _ z => z
   subst hr;have IX:=kg I4;obtain⟨m,hm,_⟩:=I4.loc;exact fin _ _ s4 H' IX ⟨m,hm⟩ (Go f.lt) (λx c e z=>by obtain⟨v,q⟩:=f.cell x c e;have:=q.lt;rw[z] at this;exact Cm _ this) (λσ'' P h'' I'' sb=>cE.offNew f I'' I4.free λb o hb e=>(sb.2 b hb).trans e) q
  ·refine Az (T.item (bG X N' scope (s ++ cl) s1 (aN H2 a.heap.objs.size (.lst [])) fp) rfl rfl rfl hc i [] s' _ H' (λ_ _ => False) Jc (stat fr' rfl) st' go) (λr s4 ⟨u,hr,h4⟩ => ?_) λ_ _ z => z
   subst hr;refine Az h4 (λ_ s5 ⟨x,H5,I5,r5,y5,st5,fr5⟩=>?_) λ_ _ z=>z;have I5':=I5.pinned (stat fr5 rfl) (T.obj _ _ st5);obtain⟨btg,bts,bel⟩:=blk (s++cl) s1 (aN H2 a.heap.objs.size (.lst [])) fp;refine Az (btg _ s5 _ H5 x u _ I5' r5 (step x H5 y5)) (λ_ s6 ⟨I,H6,I6,hσ6,q6⟩=>?_) λ_ _ z=>z;have again:∀{H7:Hp} {s7:Ah} {af:List V},cE (bG X N' scope (s++cl) s1 (aN H2 a.heap.objs.size (.lst [])) fp) ([]++RU fp s5.heap) I H7 s7->N af H7->
     ∃m,m<n/\∃i k H' acc,cE (bG X N' scope (s++cl) s1 (aN H2 a.heap.objs.size (.lst [])) fp) [] k H' s7/\k.take ix.length=aJ ix σ/\tn i s7.heap/\(∀b∈fp,H' b=none)/\W i m acc H':=λ{H7 s7 af} I7 n7=>by
    obtain⟨m',hm,w7⟩:=hN af H7 n7;refine⟨m',hm,i+1,I,H7,af,I7.unpinned,hσ6,T.keep _ _ _ st5 λb hb o e=>(I7.pin (b,o) (Av _ (Av _ (Y2 hb e)))).1,λb hb=>?_,w7⟩;obtain⟨o,e,d⟩:=T.obj _ _ st5 b hb;exact(I7.pin (b,o) (Av _ (Av _ (Y2 hb e)))).2.1
   refine Az (bts _ s6 I H6 _ I6 q6) (λokb s7 ⟨H7,I7,q7⟩=>?_) λ_ _ z=>z;cases okb with
   |false=>exact again I7 q7
   |true=>
    refine Az (bel _ s7 I H7 _ I7 q7) (λv s8 ⟨y,H8,I8,r8,hD8,hz8,n8⟩=>?_) λ_ _ z=>z;refine Az (aF (X:=bG X N' scope (s++cl) s1 (aN H2 a.heap.objs.size (.lst [])) fp) _ s8 I H8 (.ref a.heap.objs.size) [y] (.ref a.heap.objs.size) [v] (λ_ H9=>N (acc++[y]) H9) I8 rfl (.cons r8 .nil)
     ⟨a.heap.objs.size,acc,y,rfl,rfl,hD8,hz8,n8⟩) (λ_ s9 ⟨_,H9,I9,_,n9⟩=>again I9 n9) λ_ _ z=>z
 have he:({newEnv scope s1.heap.objs.size X.env.globals (s++cl) X.env.qual none .none (some X.env) builtinsNs with scope:=relabel scope X.env}:Env)=Qa scope (s++cl) s1.heap.objs.size X.env:=rfl;exact Lw (loop _ rfl) (T.self _ 0 _ _ _ st1 (loop _ rfl))
theorem gV{X:Cx}{tg iter d:Tj}{a:List Tj}{scope:Tr}{pos:Pos}{N':List Ti}{ix:List Nat}{nl:Nat}{l:TI}{g:TG}{n:TT}{te:TE}(hc:X.calm=true)(S:SG X N' ix scope)(i:N'.length=ix.length+nl)(hi:PI X tg iter l)(k:∀(cl:List (Ti×Tf)) (s1:Ah) (H1:Hp) (fp:List Tf),Blk (bG X N' scope cl s1 H1 fp) tg a d g n te)(hs:∀x,To iter X.env x=pure x:=by intro _;rfl):PE X (.ListComp d [⟨tg,iter,a,0⟩] scope pos) (D3 ix nl l g n te):=by intro aa s σ H Q I h;rw[eval_ListComp];obtain⟨cl,K,G,F⟩:=IW (env:=X.env) (scope:=scope) λy u z=>I.ok.has y.1 (S.free y u z);refine Hn (use:=none) (cl:=cl) rfl hs K S.kind S.names (Az (hi aa s σ H _ I h) (λN p c=>Az c (λt o b=>?_) λ_ _ e=>e) λ_ _ e=>e);obtain⟨it,fp,O,J,H2,e,L,T,f,f2,q⟩:=b;subst e;refine MJ (Q:=Q) (RR:=λacc C=>compPost (Th X.prog X.w) X.A X.xe none (EP X aa σ Q) acc C) hc S i G F k L T f f2 q ?_;intro D C s' H' M j E B hb v;obtain⟨m,j⟩:=j;exact⟨m,j,λh'' r=>⟨.ref D,H',hb σ s' h'' M r,rfl,v⟩⟩
section
variable{X:Cx}{K:As}{ml:List Nat}{pi pt pe pu:Bool}{pos:Pos}{ix:List Nat}{nl:Nat}{f:VF}
noncomputable def PC(N N':List Ti)(ix:List Nat)(names:List (Ti×Tu))(k:Ti->Option Tu):Bool:=
 names.all (λy=>y.2 != .cell || names.lookup y.1==some .cell)&&(names.all (λy=>y.2 != .local || names.lookup y.1==some .local)&&(names.all (λy=>y.2 != .free || (k y.1==some .cell || k y.1==some .free)) &&
  (decide N'.Nodup&&((Au ix.length).all (λj=>N'[j]? ==(ix[j]?).bind λi=>N[i]?)&&(N'.take ix.length).all λx=>names.lookup x==some .free))))
theorem XO{N':List Ti}{scope:Tr}(b:scope.kind=.function)(h:PC X.N N' ix scope.names X.env.kindOf=true):SG X N' ix scope:=by unfold PC at h;simp only[Ag,Ix,Hy,bne_iff_ne,beq_iff_eq,decide_eq_true_eq,Cr] at h;obtain⟨h1,h2,g,f,d,c⟩:=h;exact⟨b,λy a e=>(h1 y a).resolve_left λz=>z e,λy a e=>(h2 y a).resolve_left λz=>z e,λy a e=>(g y a).resolve_left λz=>z e,f,d,c⟩
abbrev BlkC(X:Cx)(K:As)(N':List Ti)(ix:List Nat)(scope:Tr)(tg:Tj)(a:List Tj)(b:Tj)(gg:VG)(pt:Bool)(tb:VB)(pe:Bool)(fe:VF):Prop:=N'.Nodup->∀(cl:List (Ti×Tf)) (s1:Ah) (H1:Hp) (fp:List Tf),Blk (bG X N' scope cl s1 H1 fp) tg a b (TGV K (Au ix.length) gg) (TB K (Au ix.length) pt tb) (TV K (Au ix.length) pe true true fe)
theorem ZQ{tg iter c:Tj}{a:List Tj}{scope:Tr}{i:VI}{gg:VG}{tb:VB}{fe:VF}(N':List Ti)(ix:List Nat)(nl:Nat)(hi:PI X tg iter (AN K ml pi i))(f:BlkC X K N' ix scope tg a c gg pt tb pe fe)(hc:X.calm=true:=by rfl)(g:scope.kind=.function:=by rfl)(b:PC X.N N' ix scope.names X.env.kindOf=true:=by rfl)(d:N'.length=ix.length+nl:=by rfl)(e:ix.Nodup:=by decide)(hs:∀x,To iter X.env x=pure x:=by intro _;rfl):PE X (.ListComp c [⟨tg,iter,a,0⟩] scope pos) (TN K ml (pi&&pt&&pe) (ZL ix nl i gg tb fe)):=
 (gV hc (XO g b) d hi (f (XO g b).nd) hs).imp λ_ _ _ h=>D4 e h
theorem HF{i:Nat}{y:Ti}{d U:Pos}{tg iter c:Tj}{b:List Tj}{scope:Tr}{N':List Ti}{M:TI}{g:TG}{O:TT}{te:TE}(hN:X.N.Nodup)(B:X.N[i]?=some y)(k:X.env.scope.names.lookup y=some .local)(hc:X.calm=true)(S:SG X N' ix scope)(t:N'.length=ix.length+nl)(hi:PI X tg iter M)(K:∀(cl:List (Ti×Tf)) (s1:Ah) (H1:Hp) (fp:List Tf),Blk (bG X N' scope cl s1 H1 fp) tg b c g O te)(o:Gm (.ListComp c [⟨tg,iter,b,0⟩] scope pos) (some (.Name y d)) U.line X.env=pure true:=by rfl)(hs:∀x,To iter X.env x=pure x:=by intro _;rfl):PS X (.Assign [.Name y d] (.ListComp c [⟨tg,iter,b,0⟩] scope pos) U) (tAsg (D3 ix nl M g O te) (GL i)):=by
 intro aa s σ H D I h;rw[Mo _ _ _ _ o];refine Ac (Ea (Ac ?_));show Tg _ X.A (do let _<-comprehension (.ListComp c [⟨tg,iter,b,0⟩] scope pos) scope X.env _ (Ry []) false (eval iter X.env) (some (assign (.Name y d) X.env))) _ _ s;obtain⟨cl,e1,e2,e3⟩:=IW (env:=X.env) (scope:=scope) λy k Z=>I.ok.has y.1 (S.free y k Z);refine Ac (Az (Hn (use:=some (assign (.Name y d) X.env)) (cl:=cl) (Q:=λ_ s'=>SP X aa D .next s') rfl hs e1 S.kind S.names
  (Az (hi aa s σ H _ I h) (λxv R j=>Az j (λY P f=>?_) λ_ _ e=>e) λ_ _ e=>e)) (λ_ s' r=>An (An r)) λ_ _ e=>e)
 obtain⟨it,fp,tn,J,H2,e,I2,T,l,f2,q⟩:=f;subst e;refine MJ (Q:=λv H'=>D.nx (σ.set i (some v)) H') (RR:=λacc C=>compPost (Th X.prog X.w) X.A X.xe (some (assign (.Name y d) X.env)) (λ_ s'=>SP X aa D .next s') acc C) hc S t e2 e3 K I2 T l f2 q ?_;intro V C s' H' I' u G F hb r;obtain⟨m,u⟩:=u;show Tg _ X.A (assign (.Name y d) X.env (.ref V)) _ _ _;refine Gx (P4 I' hN B (.inl k) (v:=.ref V) rfl (λn L ⟨a,p,ha⟩=>?_) (.inr k));have E:C≠a:=by
  rcases ha with z|z
  ·rw[z];exact G
  ·exact Dn (F y a z)
 exact⟨m,u.sameBut p E,λh'' W=>⟨_,H',hb _ n h'' L W,r⟩⟩
theorem gU{i:Nat}{y:Ti}{l n:Pos}{tg iter b:Tj}{a:List Tj}{scope:Tr}{j:VI}{gg:VG}{tb:VB}{fe:VF}(o:Bool)(r:X.N.Nodup)(N':List Ti)(ix:List Nat)(nl:Nat)(hi:PI X tg iter (AN K ml pi j))(k:BlkC X K N' ix scope tg a b gg pt tb pe fe)(g:X.N[i]?=some y:=by rfl)(p:X.env.scope.names.lookup y=some .local:=by rfl)(hc:X.calm=true:=by rfl)(m:scope.kind=.function:=by rfl)(c:PC X.N N' ix scope.names X.env.kindOf=true:=by rfl)(e:N'.length=ix.length+nl:=by rfl)(f:ix.Nodup:=by decide)(q:i∉ml:=by decide)(d:Gm (.ListComp b [⟨tg,iter,a,0⟩] scope pos) (some (.Name y l)) n.line X.env=pure true:=by rfl)(hs:∀x,To iter X.env x=pure x:=by intro _;rfl):PS X (.Assign [.Name y l] (.ListComp b [⟨tg,iter,a,0⟩] scope pos) n) (SK K ml (Z3 i (if o then xO (ZL ix nl j gg tb fe) else xV (ZL ix nl j gg tb fe)))):=
 (HF r g p hc (XO m c) e hi (k (XO m c).nd) d hs).imp λD σ H h=>FU (λσ H Q z=>D4 f (Ub (pu:=pi&&pt&&pe) z)) q h
end
section
variable{X:Cx}{K:As}{ml:List Nat}{e a b c:Tj}{es:List Tj}{pi pt pe pu bt bi ps bs:Bool}{f:VF}{B B':Bs}{O:Nat->Option Tf}{H H0 H1 H':Hp}{σ:St}{δ δ':Ev}{v:V}{d:cX}{p:Tf}{pos:Pos}{ix:List Nat}{nl:Nat}
def Zz(K:As)(N:Tf->Prop)(J:It)(H:Hp)(ds:List cX):Prop:=∃xs:List V,b7 K N H xs ds/\∀H2,aP H H2->(∀(i:Nat) (x:V),xs[i]?=some x->J.go i H2/\∀y a,J.yld i H2 y a->a=H2/\y=x)/\J.stop xs.length H2
def TIVp(K:As)(ml:List Nat)(f:VI):TI:=λσ H R=>∃B O δ ds δ',Z4 K ml B O H σ δ/\f δ=some (ds,δ')/\∀J H',Z4 K ml B O H' σ δ'->aP H H'->Zz K (Nn B O) J H' ds->R J H'
theorem nS{fi:VI}{gg:VG}{tb:VB}{fe:VF}(hnd:ix.Nodup){Q:VK}(h:TN K ml true (ZL ix nl fi gg tb fe) σ H Q):D3 ix nl (TIVp K ml fi) (TGV K (Au ix.length) gg) (TB K (Au ix.length) true tb) (TV K (Au ix.length) true true true fe) σ H Q:=by
 obtain⟨B,O,δ,d,δ2,S,q,k⟩:=h;unfold ZL at q;obtain⟨⟨ds,δ1⟩,h1,q⟩:=Aa.mp q;have q:((ZT ix.length nl gg tb fe ds [] (a9 ix δ1)).map λq=>(cX.lst q.1,ZC ix q.2 δ1))=some (d,δ2):=q;obtain⟨⟨res,g⟩,h2,q⟩:=Ar.mp q;cases q;refine⟨B,O,δ,ds,δ1,S,h1,λJ H0 E p0 wk D s=>?_⟩;obtain⟨els,M,wk⟩:=wk;have hDO:∀j,Oc ix O j≠some D:=λj e=>by unfold Oc at e;obtain⟨i,hi,e⟩:=Aa.mp e;obtain⟨o,q⟩:=E.nin (.inr ⟨i,e⟩);rw[s] at q;cases q
 have dw:∀kp j,ix.length<=j->(Bc ix B O H0 D kp).mu j=none:=λkp j R=>by show(ix[j]?).bind O=none;rw[Bq R];rfl
 refine⟨λi m acc H1=>m=ds.length - i/\i<=ds.length/\∃(f:List cX) (c:Ev),c.length=ix.length/\acc.length=f.length∧
   Z4 K (Au ix.length) (Bc ix B O H0 D (acc.zip f)) (Oc ix O) H1 (aJ ix σ++Bi nl none) (c++M4 nl)/\H1 D=some (.lst acc)/\aP H0 H1∧
   ZT ix.length nl gg tb fe (ds.drop i) f c=some (res,g),
  ⟨ds.length,rfl,Cy _,[],a9 ix δ1,by simp[a9],rfl,by rw[Kw];exact E.inner s hnd λp G=>(nomatch G),bZ,cN s,h2⟩,?_⟩
 rintro i m acc H1 ⟨rfl,hi,f,c,N,Y,Z,C,X,hc⟩;have w:=wk H1 X;have qt:b7 K (Nn (Bc ix B O H0 D (acc.zip f)) (Oc ix O)) H1 els ds:=(M.away s _ _ M3).same X;by_cases A:i<ds.length
 ·obtain ⟨ex,ex1,ex2⟩ := qt.get (i := i) (d := ds[i]) (by simp [A])
  obtain⟨go,yl⟩:=w.1 i ex ex1;rw[Cq A] at hc;simp only[ZT] at hc;obtain⟨L,g1,hc⟩:=Aa.mp hc;obtain⟨⟨kk,r⟩,g2,hc⟩:=Aa.mp hc;refine .inr ⟨go,λaf H'=>∃(f:List cX) (c:Ev),c.length=ix.length/\af.length=f.length∧
   Z4 K (Au ix.length) (Bc ix B O H0 D (af.zip f)) (Oc ix O) H' (aJ ix σ++Bi nl none) (c++M4 nl)/\H' D=some (.lst af)/\aP H0 H'∧
   ZT ix.length nl gg tb fe (ds.drop (i+1)) f c=some (res,g),λaf H' w'=>⟨ds.length - (i+1),by lia,rfl,A,w'⟩,λx H2 hy=>?_⟩
  obtain⟨rfl,rfl⟩:=yl x H2 hy;have rx:=ex2;have sm:=aP.refl H2;refine⟨_,_,_,ds[i],L,Z.same sm,rx,g1,λσ3 O3 S3 m3=>?_⟩;have y:=IS m3;have l:=P5 y m3;refine⟨l,_,_,L,kk,r,S3,g2,λH4 F=>?_⟩;have V:H4 D=some (.lst acc):=F.frm _ _ (sm _ _ C) λz=>by obtain⟨j,e⟩:=z;have:=(F.sta.old j D e).1;exact absurd (.inl (.inr rfl)) this
  have ln4:ix.length<=r.length:=by rw[<-F.sta.len];exact y
  cases kk with
  |false=>
   rw[if_neg Dj] at hc;refine OC ⟨f,r.take ix.length,by rw[Bt];lia,Y,F.sta.turn (dw _) (YH ix σ) l ln4,V,?_,hc⟩;exact(X.trans sm).trans (F.pur rfl)
  |true=>
   rw[if_pos rfl] at hc;obtain⟨⟨W,u⟩,g3,hc⟩:=Aa.mp hc;split at hc
   ·rename_i hz
    refine OD ⟨_,_,r,W,u,F.sta,g3,λv H5 t=>?_⟩;have U:H5 D=some (.lst acc):=t.frm _ _ V λz=>by obtain⟨j,e⟩:=z;have:=(t.sta.old j D e).1;exact absurd (.inl (.inr rfl)) this
    have ln5:ix.length<=u.length:=by rw[<-t.sta.len];exact y
    have S6:=t.sta.turn (nl:=nl) (dw _) (YH ix σ) l ln5;have hv:aX K (Nn (Bc ix B O H0 D (acc.zip f)) (Oc ix O)) H5 (Nn (Bc ix B O H0 D (acc.zip f)) (Oc ix O)) v W:=by
     have hN:∀a,Nn (Bc ix B O H0 D (acc.zip f)) (Oc ix O) a->av (Bc ix B O H0 D (acc.zip f)) O3 true a:=λa h=>by
      rcases h with h|⟨j,h⟩
      ·exact .inl h
      ·refine .inr ⟨j,?_⟩
       have R:j∈Au ix.length:=t.sta.par.1 j a h;rw[t.sta.par.2 j R];exact h
     exact t.rep.mono hN hN
    have S7:=S6.withKp (kp:=(acc++[v]).zip (f++[W])) λp G=>by
     rw[Mm Y] at G;rcases Cp.mp G with z|z
     ·exact S6.kep p z
     ·rw[Bb.mp (show p∈[(v,W)] from z)]
      exact hv
    refine⟨U,by rw[Y,Di];exact hz,f++[W],u.take ix.length,by rw[Bt];lia,by simp[Y],?_,bZ,?_,hc⟩
    ·exact S7.writeZ (.inl (.inr rfl)) U s
    ·intro b o e
     have hb:b≠D:=λz=>by rw[z,s] at e;cases e
     rw[bF hb];exact((X.trans sm).trans ((F.pur rfl).trans (t.pur rfl))) b o e
   ·cases hc
 ·have e : i = ds.length := by lia
  subst e;rw[Ds] at hc;cases hc;refine .inl ⟨by rw[<-M.length];exact w.2,k D H1 ?_⟩;have fP:Fr (OA (Oc ix O)) H0 H1:=Z.frm;have T:∀a,OA (Oc ix O) a->OA O a:=λa q0=>by
   obtain⟨j,e⟩:=q0;unfold Oc at e;cases hi:ix[j]? with
   |none=>rw[hi] at e;cases e
   |some i=>rw[hi] at e;exact⟨i,e⟩
  have SL:=E.laid (o:=.lst acc) s;have fL:Fr (OA (Oc ix O)) (aN H0 D (.lst acc)) H1:=λb o e n=>by
   by_cases hb:b=D
   ·subst hb
    rw[bZ] at e;cases e;exact C
   ·rw[bF hb] at e
    exact fP b o e n
  refine⟨SL.call (XN) (λi=>?_) fL T,(p0.fr (P:=OA O)).trans (fP.mono T),λz=>?_,.lst C (U8 Y λp G=>(Z.kep p G).mono U4 U4),E.new s,E.fresh s⟩
  ·by_cases eg:i<δ1.length
   ·rcases WQ (ix:=ix) (ss:=g) (δ:=δ1) i eg N.symm with⟨j,x,e1,e2,e3⟩|⟨e1,e2⟩
    ·have e4:(g++M4 nl)[j]? =some (.ow x):=by rw[Af (Ad.mp e2).1];exact e2
     obtain⟨a,e5,_,w⟩:=Z.ow j x e4;refine .inr ⟨a,x,?_,e3,w.mono U4⟩;unfold Oc at e5;rw[e1] at e5;exact e5
    ·refine .inl ⟨e2,λa ea ⟨j,I⟩ => ?_⟩
     obtain⟨x,ex⟩:=Z.dom j a I;unfold Oc at I;cases hi:ix[j]? with
     |none=>rw[hi] at I;cases I
     |some i'=>
      rw[hi] at I;have:i=i':=E.inj i i' a ea I;subst this;have R:j<g.length:=by rw[N];exact(Ad.mp hi).1
      rw[Af R] at ex;exact e1 j x hi ex
   ·refine .inl ⟨?_,λa ea => ?_⟩
    ·rw[Bq (by rw[XN];lia),Bq (by lia)]
    ·obtain⟨x,ex⟩:=E.dom i a ea
     exact absurd (Ad.mp ex).1 eg
  ·exact p0.trans X
theorem aP.sqT{a:Tf}{xs:List V}(s:aP H H')(h:V0 K H a xs):V0 K H' a xs:=Fr.tup (P:=λ_=>False) s.fr h
theorem fF{tg:Tj}(n:X.K=K)(h:PE X e (TV K ml true bt bi f))(hb:bi=true:=by rfl):PI X tg e (TIVp K ml (U1 f)):=by
 subst hb;refine((Vw (K:=K) n h).or (Xb (K:=K) n h)).imp λσ H R g=>?_;obtain⟨B,O,δ,ds,δ',S,q,k⟩:=g;unfold U1 at q;obtain⟨⟨x,δ1⟩,h1,q⟩:=Aa.mp q;cases x with
 |lst m=>
  cases q;refine .inl ⟨B,O,δ,_,δ1,S,h1,λv H1 c=>?_⟩;obtain⟨a,xs,rfl,sq,r⟩:=c.rep.lstE;refine⟨a,rfl,⟨xs,sq⟩,k _ H1 c.sta (c.pur rfl) ⟨xs,r,λH2 b=>⟨λi x ex=>⟨⟨xs,x,b.seq sq,ex⟩,λy o d=>?_⟩,xs,b.seq sq,Ak _⟩⟩⟩;obtain⟨l,j⟩:=d;have:=j xs (b.seq sq);rw[ex] at this;cases this;exact⟨l,rfl⟩
 |tup m=>
  cases q;refine .inr ⟨B,O,δ,_,δ1,S,h1,λv H1 c=>?_⟩;obtain⟨a,xs,rfl,sq,r⟩:=c.rep.tupE;refine⟨a,rfl,⟨xs,sq⟩,k _ H1 c.sta (c.pur rfl) ⟨xs,r,λH2 b=>⟨λi x ex=>⟨⟨xs,x,b.sqT sq,ex⟩,λy o d=>?_⟩,xs,b.sqT sq,Ak _⟩⟩⟩;obtain⟨l,j⟩:=d;have:=j xs (b.sqT sq);rw[ex] at this;cases this;exact⟨l,rfl⟩
 |_=>cases q
theorem lJ{i:Nat}{y:Ti}{l n:Pos}{tg iter b:Tj}{a:List Tj}{scope:Tr}{j:VI}{gg:VG}{tb:VB}{fe:VF}(o:Bool)(s:X.N.Nodup)(N':List Ti)(ix:List Nat)(nl:Nat)(hi:PI X tg iter (TIVp K ml j))(k:BlkC X K N' ix scope tg a b gg pt tb pe fe)(g:X.N[i]?=some y:=by rfl)(p:X.env.scope.names.lookup y=some .local:=by rfl)(hc:X.calm=true:=by rfl)(m:scope.kind=.function:=by rfl)(c:PC X.N N' ix scope.names X.env.kindOf=true:=by rfl)(e:N'.length=ix.length+nl:=by rfl)(f:ix.Nodup:=by decide)(q:(pt&&pe)=true:=by rfl)(r:i∉ml:=by decide)(d:Gm (.ListComp b [⟨tg,iter,a,0⟩] scope pos) (some (.Name y l)) n.line X.env=pure true:=by rfl)(hs:∀x,To iter X.env x=pure x:=by intro _;rfl):PS X (.Assign [.Name y l] (.ListComp b [⟨tg,iter,a,0⟩] scope pos) n) (SK K ml (Z3 i (if o then xO (ZL ix nl j gg tb fe) else xV (ZL ix nl j gg tb fe)))):=by obtain⟨h1,h2⟩:=(Ag _ _).mp q;subst h1 h2;exact(HF s g p hc (XO m c) e hi (k (XO m c).nd) d hs).imp λD σ H h=>FU (λσ H Q z=>nS f (Ub (pu:=true) z)) r h
end
section
variable{X:Cx}{K:As}{ml:List Nat}{e a b c:Tj}{es:List Tj}{pa ta ia pb tb ib pc tc ic pu bt bi ps bs:Bool}{fa fb fc f:VF}{B B':Bs}{O:Nat->Option Tf}{H H1 H':Hp}{σ:St}{δ δ':Ev}{v:V}{d:cX}{p:Tf}{pos:Pos}
structure EB(K:As)(x qual:Ti)(st:Tt)(dV:Te)(f:Tf)(fd:Fk):Prop where
 ex:∃(oc:Te) (od:Option Tf) (kV doc pm:Te) (an:Option Tf) (cdv ct:Te) (osl:Array (Option Te)),
  fd=Jl x qual (ZG st) (ZY st) (cQ st) dV kV doc pm an cdv ct/\K.lookup f=some ⟨oc,od,.func fd,osl⟩/\Kh K cdv qual=true
 kp:Ht K (.ref f)=true
theorem Zb{x a:Ti}{st:Tt}{g:Te}{f:Tf}{i:Te}{od h:Option Tf}{d:Array (Option Te)}{kV doc e b ct:Te}(l:K.lookup f=some ⟨i,od,.func (Jl x a (ZG st) (ZY st) (cQ st) g kV doc e h b ct),d⟩)(c:Kh K b a=true)(k:Ht K (.ref f)=true):EB K x a st g f (Jl x a (ZG st) (ZY st) (cQ st) g kV doc e h b ct):=⟨⟨i,od,kV,doc,e,h,b,ct,d,rfl,l,c⟩,k⟩
theorem EB.okV{P:Br}{w:Tl}{mg:Ti->Option Te}{base:Tp}{x a:Ti}{st:Tt}{m:Te}{f:Tf}{fd:Fk}{N ps:List Ti}{k:Nat}{g:VS}(F:EB K x a st m f fd)(S:cI N ps (cQ st))(d:ps.length<=N.length)(n:∀(b:Te) (A:Df) (outer:List Env) (s:Ah) (H:Hp) (E:XK),XX k (A.deeper (Ks a (cQ st) s.heap.objs.size f b))->OK (IZ CX0 P w K mg base N a (cQ st) f b A outer s H E).nox (ZY st) (SK K ml g)):aU P w K mg base CX0 (k+1) f fd ps (spV K ml ps.length (aH N.length ml g)):=by obtain⟨p,od,kV,doc,o,q,b,ct,i,rfl,lk,e⟩:=F.ex;refine Wj lk e S (λvs H Q E h=>?_) λA outer s H vs Q E j c=>⟨_,(n b A outer s H E j).nox,Vo d c⟩;obtain⟨Z,ds,r,os,l,AV,_⟩:=h;rw[AV.len,l]
theorem EB.binds{x a:Ti}{st:Tt}{T f:Tf}{fd:Fk}{ps:List Ti}{o:Tq}{its:Array Te}{n m:Nat}{ds:List Te}(F:EB K x a st (.ref T) f fd)(i:K.lookup T=some o)(hs:o.data=.seq its n)(h:∀(kV doc d:Te) (e:Option Tf) (b ct:Te) (c:List Te),c.length=m->∃k,bindArgs (Jl x a (ZG st) (ZY st) (cQ st) (.ref T) kV doc d e b ct) ⟨c,[]⟩=seqItems? (.ref T)>>=k/\k (some its)=pure (ps.zip (c++ds)))(q:m+ds.length=ps.length:=by rfl):P9 K fd ps ds:=by obtain⟨p,od,kV,doc,d,e,b,ct,g,rfl,lk,j⟩:=F.ex;intro s c l hl;obtain⟨k,h1,h2⟩:=h kV doc d e b ct c (by rw[Cf] at hl;lia);exact BindsTo.of_defaults rfl (l _ _ i) hs h1 h2
structure DefD(P:Br)(w:Tl)(K:As)(mg:Ti->Option Te)(base:Tp)(x:Ti)(k:Nat)(ps:List Ti)(sp:Sp)(f:Tf)(v0:V):Prop where
 at_:mg x=some (.ref f)
 ok:∃fd u0,aU P w K mg base CX0 k f fd ps sp/\P9 K fd ps [u0]/\bO v0 u0
 kp:Ht K (.ref f)=true
noncomputable def dflt(F:bQ)(d:cX):bQ:=λds=>F (ds++[d])
theorem jW{mF:List Nat}{m:Nat}{F:bQ}{vs:List V}{Q:VK}{E:XK}(I:∀N H M,aX K N H M v d)(J:∀a,v≠ .ref a)(h:spV K mF m (dflt F d) vs H Q E):spV K mF (m+1) F (vs++[v]) H Q E:=by
 obtain⟨Z,ds,r,os,hl,A,L,k⟩:=h;have s:∀(i:Nat) (a:Tf),(vs++[v])[i]?=some (.ref a)->vs[i]?=some (.ref a):=λi a h=>by
  by_cases hi:i<vs.length
  ·rwa[Af hi] at h
  ·rw [Bj (by lia)] at h
   cases b:i - vs.length with
   |zero=>rw[b] at h;cases h;exact absurd rfl (J a)
   |succ j=>rw[b] at h;simp at h
 have n:∀(i:Nat) (u:V),vs[i]?=some u->(vs++[v])[i]?=some u:=λi u h=>by rw[Af (Ad.mp h).1];exact h
 have y:∀a,QC mF (vs++[v]) a->QC mF vs a:=λa ⟨i,hi,e⟩=>⟨i,hi,s i a e⟩;have q:∀a,QC mF vs a->QC mF (vs++[v]) a:=λa ⟨i,hi,e⟩=>⟨i,hi,n i _ e⟩;have p:∀a,Zp Z mF (vs++[v]) a->Zp Z mF vs a:=λa h=>h.imp id (y a);have g:∀a,Zp Z mF vs a->Zp Z mF (vs++[v]) a:=λa h=>h.imp id (q a);refine⟨Z,ds++[d],r,os,by simp[hl],⟨by simp[A.len],λi hi=>?_,λi x hi e=>?_,λi x hi e=>?_,λi j a hi b l t=>A.inj i j a hi b (s i a l) (s j a t),A.zin⟩,L,λu H' f w C=>k u H' (f.mono y) (λG i a o l t O=>(w G i a o l (n i _ t) O).mono g) (C.mono g g)⟩
 ·have:=A.mem i hi
  simp;lia
 ·by_cases c:i<ds.length
  ·rw[Af c] at e
   obtain⟨u,l,D⟩:=A.va i x hi e;exact⟨u,n i u l,D.mono p p⟩
  ·rw [Bj (by lia)] at e
   cases b:i - ds.length with
   |zero=>
    rw[b] at e;cases e;have:i=vs.length:=by have:=A.len;lia
    subst this;exact⟨v,by rw[Bj (by lia)];simp,I _ _ _⟩
   |succ j=>rw[b] at e;simp at e
 ·have c:=A.mem i hi
  rw[Af c] at e;obtain⟨u,l,B,z⟩:=A.ow i x hi e;exact⟨u,n i _ l,B.mono p,z⟩
theorem kX{x:Ti}{f j m:Nat}{g:List Ti}{mF:List Nat}{F:bQ}{y:Tf}{p':Pos}{fs:IJ}(u:X.K=K)(D:DefD X.prog X.w K X.mg X.base x f g (spV K mF (m+1) F) y v)(i:∀N H M,aX K N H M v d)(n:∀a,v≠ .ref a)(l:XX j X.A)(o:f<=j)(p:Gl X x)(t:PA X (e::es) (TAG K ml ps fs))(c:(x==("__debug__":Ti))=false:=by decide)(r:Aj (e::es) X.env=(false,eval e X.env)::Aj es X.env:=by rfl)(b:(Fx pos (Aj es X.env)).any (·.1)=false:=by rfl):PE X (.Call (.Name x p') (e::es) [] pos) (TV K ml (ps&&mF.isEmpty) true true (cL m mF (dflt F d) fs)):=by subst u;obtain⟨fd,G,C,E,s⟩:=D.ok;refine(C9 C (l.mono o) p D.at_ D.kp E (.cons s .nil) Ud t c r b).imp λσ H Q h=>?_;obtain⟨B,O,δ,as,δ',S,q,k⟩:=J4 h;exact⟨B,O,δ,as,δ',S,q,λvs H' R=>jW i n (by have z:spV X.K mF m (dflt F d) (vs++[]) H' Q E0:=k vs H' R;rwa[Cv] at z)⟩
noncomputable def WB:List (Ti×bQ)->Ti->Option bQ
 |[],_=>none
 |(y,F)::r,x=>if y=x then some F else WB r x
def CG(X:Cx)(K:As)(mF:List Nat)(n:Nat)(tb:List (Ti×bQ)):Prop:=∀x F a,WB tb x=some F->Lp K Tn x=some (some (.ref a))->FnAt X a (spV K mF n F)
theorem eX{mF:List Nat}{n:Nat}:CG X K mF n []:=λ_ _ _ h=>nomatch h
theorem WL{x:Ti}{c j n:Nat}{d:List Ti}{mF:List Nat}{F:bQ}{k:Tf}{tb:List (Ti×bQ)}(i:X.K=K)(g:∀x a,Lp K Tn x=some (some (.ref a))->X.mg x=some (.ref a))(f:XX j X.A)
  (D:Def X.prog X.w K X.mg X.base x c d (spV K mF n F) k) (h:c<=j) (t:CG X K mF n tb):CG X K mF n ((x,F)::tb):=λy G a h1 h2=>by
 unfold WB at h1;split at h1
 ·rename_i b
  subst b;cases h1;have e:=(g x a h2).symm.trans D.at_;cases e;subst i;exact D.fnAt f h
 ·exact t y G a h1 h2
noncomputable def MM(n:Nat)(mF:List Nat)(tb:List (Ti×bQ))(i:Nat)(fs:IJ):VF:=λδ=>match δ[i]? with
 |some (.va (.fn x))=>(WB tb x).bind λF=>cL n mF F fs δ
 |_=>none
theorem Zj{y:Ti}{i n:Nat}{mF:List Nat}{tb:List (Ti×bQ)}{p':Pos}{fs:IJ}(c:CG X K mF n tb)(f:PE X (.Name y p') (OI i))(j:PA X (e::es) (TAG K ml ps fs))(g:Aj (e::es) X.env=(false,eval e X.env)::Aj es X.env:=by rfl)(a:(Fx pos (Aj es X.env)).any (·.1)=false:=by rfl):
  PE X (.Call (.Name y p') (e::es) [] pos) (TV K ml (ps&&mF.isEmpty) true true (MM n mF tb i fs)):=(lM f j g a).imp λσ H Q h=>by
 obtain⟨B,O,δ,d,δ',S,q,k⟩:=h;unfold MM at q;split at q
 ·rename_i x b
  obtain⟨F,l,q⟩:=Aa.mp q;obtain⟨v,m,r⟩:=S.va i _ b;cases r with
  |fn h=>
   refine⟨_,m,_,_,rfl,c x F _ l h,?_⟩;obtain⟨B,O,δ,as,δ',S,q,k⟩:=J4 (F:=F) (fs:=fs) (K:=K) (ml:=ml) (ps:=ps) (n:=n) (mF:=mF) (σ:=σ) (H:=H) (Q:=Q) ⟨B,O,δ,d,δ',S,q,k⟩;exact⟨B,O,δ,as,δ',S,q,λvs H' R=>by have z:spV K mF n F (vs++[]) H' Q E0:=k vs H' R;rwa[Cv] at z⟩
 ·cases q
end
section
variable{X:Cx}{K:As}{ml:List Nat}{e a b c:Tj}{es:List Tj}{pa ta ia pb tb ib pc tc ic pu bt bi ps bs:Bool}{fa fb fc f:VF}{pos p':Pos}{d:cX}{x:Ti}
theorem vv(i:Nat)(d:X.N[i]?=some x:=by rfl)(b:Vis X.env.scope x:=by first|exact Mx rfl|exact My (Mx rfl)|exact My (My rfl))(c:(x==("__debug__":Ti))=false:=by decide)(a:(x==("__classdict__":Ti))=false:=by decide):PE X (.Name x pos) (TV K ml true true true (fV i)):=Zf (E9 d b c a)
theorem vo(i:Nat)(d:X.N[i]?=some x:=by rfl)(b:Vis X.env.scope x:=by first|exact Mx rfl|exact My (Mx rfl)|exact My (My rfl))(c:(x==("__debug__":Ti))=false:=by decide)(a:(x==("__classdict__":Ti))=false:=by decide):PE X (.Name x pos) (TV K ml true false true (fO i)):=dI (E9 d b c a)
theorem ZU(d:X.A.units+1<cLine)(e:PE X a (TV K ml pa ta ia fa))(hb:PE X b (TV K ml pb tb ib fb))(f:X.K=K:=by rfl)(c:IF b:=by exact λ_ _=>rfl)(hs:(pb || (ta&&ia))=true:=by rfl):PE X (.Subscript a b pos) (TV K ml (pa&&pb) ia ia (f2 cB fa fb)):=
 jP (kIxA f d) Yx e hb c hs
theorem veq(c:X.A.units+64<cLine)(d:PE X a (TV K ml pa ta ia fa))(hb:PE X b (TV K ml pb tb ib fb))(e:X.K=K:=by rfl)(hs:(pb || (ta&&ia))=true:=by rfl):PE X (.Compare a [.Eq] [b] pos) (TV K ml (pa&&pb) true true (f2 WR fa fb)):=
 YL (kEqD e c) s_eq d hb (aV _) hs
theorem WN(c:X.A.units+64<cLine)(d:PE X a (TV K ml pa ta ia fa))(hb:PE X b (TV K ml pb tb ib fb))(e:X.K=K:=by rfl)(hs:(pb || (ta&&ia))=true:=by rfl):PT X (.Compare a [.Eq] [b] pos) (TB K ml (pa&&pb) (fB (f2 WR fa fb))):=
 bL (kEqD e c) s_eq d hb (aV _) hs
theorem bS{c j n:Nat}{d:List Ti}{mF:List Nat}{F:bQ}{m:Tf}{fs:IJ}(D:Def X.prog X.w K X.mg X.base x c d (spV K mF n F) m)(f:XX j X.A)(k:PA X (e::es) (TAG K ml ps fs))(l:X.K=K:=by rfl)(g:c<=j:=by decide)(h:Gl X x:=by rfl)(b:(x==("__debug__":Ti))=false:=by decide)(i:Aj (e::es) X.env=(false,eval e X.env)::Aj es X.env:=by rfl)(a:(Fx pos (Aj es X.env)).any (·.1)=false:=by rfl):PE X (.Call (.Name x p') (e::es) [] pos) (TV K ml (ps&&mF.isEmpty) true true (cL n mF F fs)):=eQ l D f g h k b i a
theorem W9(b:X.mg "len"=none)(e:PE X a (TV K ml pa ta ia fa))(f:X.K=K:=by rfl)(c:Gl X "len":=by rfl)(d:Aj (a::[]) X.env=(false,eval a X.env)::Aj [] X.env:=by rfl):PE X (.Call (.Name "len" p') [a] [] pos) (TV K ml pa true true (f1 YJ fa)):=
 Ue (oW f) Yn c b oB e (by decide) (by decide) d
theorem vty{n:String}(c:X.mg x=none)(a:Bo x=some (.type n))(d:Gl X x:=by rfl)(b:x≠ "__name__":=by decide)(e:(x==("__debug__":Ti))=false:=by decide):PE X (.Name x pos) (TV K ml true true true (fC (.ty n))):=
 CA (dY (v:=.ty n) d c a rfl b e) λ_ _ _=>.ty _
theorem FZ(e:X.mg "isinstance"=none)(h:PE X a (TV K ml pa ta ia fa))(hb:PE X b (TV K ml pb tb ib fb))(i:X.K=K:=by rfl)(f:Gl X "isinstance":=by rfl)(g:Aj (a::[b]) X.env=(false,eval a X.env)::Aj [b] X.env:=by rfl)(d:Aj (b::[]) X.env=(false,eval b X.env)::Aj [] X.env:=by rfl)(c:(Fx pos (Aj [b] X.env)).any (·.1)=false:=by rfl)(hs:(pb || (ta&&ia))=true:=by rfl):PE X (.Call (.Name "isinstance" p') [a,b] [] pos) (TV K ml (pa&&pb) true true (f2 QV fa fb)):=LW (kIsi i) eL f e L3 h hb (by decide) (by decide) g d c hs
end
def A4(K:As)(x:Ti)(st:Tt)(f:Tf):Prop:=∃(d:Te) (od:Option Tf) (kV doc c:Te) (e:Option Tf) (a ct:Te) (b:Array (Option Te)),Lp K Tn x=some (some (.ref f))∧
 K.lookup f=some ⟨d,od,.func (Jl x x (ZG st) (ZY st) (cQ st) .none kV doc c e a ct),b⟩/\Kh K a x=true/\Ht K (.ref f)=true
theorem a4{K:As}{x:Ti}{st:Tt}{f:Tf}{i:Te}{od:Option Tf}{kV doc h:Te}{j:Option Tf}{e ct:Te}{g:Array (Option Te)}(a:Lp K Tn x=some (some (.ref f)))(b:K.lookup f=some ⟨i,od,.func (Jl x x (ZG st) (ZY st) (cQ st) .none kV doc h j e ct),g⟩)(c:Kh K e x=true)(d:Ht K (.ref f)=true):A4 K x st f:=⟨i,od,kV,doc,h,j,e,ct,g,a,b,c,d⟩
theorem A4.ns{K:As}{x:Ti}{st:Tt}{f:Tf}(p:A4 K x st f):Lp K Tn x=some (some (.ref f)):=by obtain⟨_,_,_,_,_,_,_,_,_,a,_⟩:=p;exact a
theorem ZS{P:Br}{w:Tl}{K:As}{mg:Ti->Option Te}{base h:Tp}{x:Ti}{st:Tt}{f:Tf}{ps:List Ti}{sp:Sp}{k:Nat}(X:K.In h)(G:h.Ns Tn mg)(p:A4 K x st f)(ok:∀{fd:Fk},XW K x x st f fd->aU P w K mg base CX0 k f fd ps sp)(hb:∀{kV doc i:Te} {j:Option Tf} {e ct:Te} (g:List Te),g.length=ps.length->bindArgs (Jl x x (ZG st) (ZY st) (cQ st) .none kV doc i j e ct) ⟨g,[]⟩=pure (ps.zip g)):Def P w K mg base x k ps sp f:=by obtain⟨m,od,kV,doc,i,j,e,ct,l,a,b,c,d⟩:=p;have U:=Va (st:=st) b c d;exact⟨Hi X G a,⟨_,ok U,U.binds λ_ _ _ _ _ _=>hb⟩,d⟩
theorem WI(P:Br)(w:Tl)(K:As)(mg:Ti->Option Te)(base:Tp){x a:Ti}{st:Tt}{f:Tf}{fd:Fk}(N ps:List Ti)(k:Nat)(g:VS)(ml:List Nat)(F:XW K x a st f fd)(S:cI N ps (cQ st))(e:∀(b:Te) (A:Df) (outer:List Env) (s:Ah) (H:Hp) (E:XK) (c:XX k (A.deeper (Ks a (cQ st) s.heap.objs.size f b))) (_:(A.deeper (Ks a (cQ st) s.heap.objs.size f b)).units+64<cLine) (_:(A.deeper (Ks a (cQ st) s.heap.objs.size f b)).units+1<cLine),OK (IZ CX0 P w K mg base N a (cQ st) f b A outer s H E).nox (ZY st) (SK K ml g))(d:ps.length<=N.length:=by decide):aU P w K mg base CX0 (k+1) f fd ps (spV K ml ps.length (aH N.length ml g)):=
 XW.okV F S d λb A outer s H E c=>e b A outer s H E c c.units (Wv c)
theorem ZW{N P:List Ti}{h:Tr}(a:h.kind=.function:=by rfl)(b:h.isCoroutine=false:=by rfl)(c:h.isGenerator=false:=by rfl)(d:N.Nodup:=by decide+kernel)(e:N.take P.length=P:=by rfl)(f:∀x∈P,h.names.lookup x=some .local∨h.names.lookup x=some .cell:=by decide+kernel)(g:∀y∈h.names,y.2≠Bp:=by decide+kernel):cI N P h:=⟨a,b,c,d,e,f,g⟩
theorem L6(f b d e a:Tj)(g h:List Tj)(scope:Tr)(pos:Pos)(it acc:Te)(env:Env):Pz (.ListComp f [⟨b,d,g,0⟩,⟨e,a,h,0⟩] scope pos) 0 it acc env=(do
   Mb d.pos
   match<-pyNext it with
   |none=>pure (.done .next)
   |some v=>
    Fi b it v
    assign b env v
    let mut ok:=true
    for c in g do
     if ok then ok<-isTrue c env (eval c env)
    if ok then
     let x<-eval a env
     Mb a.pos
     let x<-To a env x
     let _<-runOwn (.compStart (.ListComp f [⟨b,d,g,0⟩,⟨e,a,h,0⟩] scope pos) 1 (<-Mc [x] (Qh x)) acc env) env
    Sz (.compLoop (.ListComp f [⟨b,d,g,0⟩,⟨e,a,h,0⟩] scope pos) 0 it acc env)):=by rfl
theorem L7(d e f a b:Tj)(h g:List Tj)(scope:Tr)(pos:Pos)(it acc:Te)(env:Env):Pz (.ListComp d [⟨e,f,h,0⟩,⟨a,b,g,0⟩] scope pos) 1 it acc env=(do
   Mb b.pos
   match<-pyNext it with
   |none=>pure (.done .next)
   |some v=>
    Fi a it v
    assign a env v
    let mut ok:=true
    for c in g do
     if ok then ok<-isTrue c env (eval c env)
    if ok then
     (do let _<-call (.builtin "list.append") [acc,<-eval d env])
    Sz (.compLoop (.ListComp d [⟨e,f,h,0⟩,⟨a,b,g,0⟩] scope pos) 1 it acc env)):=by rfl
theorem ER{prog:Br}{w:Tl}{A:Df}{s:Ah}{l o q d p:Tj}{C B:List Tj}{scope:Tr}{pos:Pos}{it acc:Te}{env:Env}{R:Qj->Ah->Prop}(I:Nat->Ah->Prop)(turn:∀n s,I n s->Tg (Th prog w) A (pyNext it) (λr b=>match r with
   |none=>R (.ok .next) b
   | some v => Tg (Th prog w) A (Fi d it v) (λ_ s₀ => Tg (Th prog w) A (assign d env v) (λ_ g =>
     Tg (Th prog w) A (forIn B true λc r=>if r=true then do let ok<-isTrue c env (eval c env);pure (Cu ok) else pure (Cu r)) (λok a=>if ok=true then Tg (Th prog w) A (eval l env) (λx f=>
      Tg (Th prog w) A (call (.builtin "list.append") [acc,x]) (λ_ e=>∃m,m<n/\I m e) (λ_ _=>False) f) (λ_ _=>False) a
      else∃m,m<n/\I m a) (λ_ _=>False) g)
     (λ_ _=>False) s₀) (λ_ _=>False) b) (λ_ _=>False) s)
  (n:Nat) (h:I n s):Gp (Th prog w) A (.compLoop (.ListComp l [⟨o,q,C,0⟩,⟨d,p,B,0⟩] scope pos) 1 it acc env) R s:=by
 refine Pf rfl I (λn s D=>?_) n h;show Tg _ A ((Pz (.ListComp l [⟨o,q,C,0⟩,⟨d,p,B,0⟩] scope pos) 1 it acc env).onRaise (λx=>do Qn x env;Mk x)) _ _ s;refine Qo ?_;rw[L7];refine Ac (Ea (Ac (Az (turn n s D) (λr b j=>?_) λ_ _ h'=>h'.elim)));cases r with
 |none=>exact An j
 |some v=>
  refine Ac (Az j (λ_ s₀ k=>?_) λ_ _ h'=>h'.elim);refine Ac (Az k (λ_ g y=>?_) λ_ _ h'=>h'.elim);refine Ac (Az y (λz a i=>?_) λ_ _ h'=>h'.elim);cases z with
  |false=>exact An ⟨rfl,i⟩
  |true=>exact Ac (Ac (Az i (λx f u=>Ac (Az u (λ_ e t=>An (An ⟨rfl,t⟩)) λ_ _ h'=>h'.elim)) λ_ _ h'=>h'.elim))
theorem EQ{prog:Br}{w:Tl}{A:Df}{s:Ah}{z a u t g:Tj}{E G:List Tj}{scope:Tr}{pos:Pos}{it acc:Te}{env:Env}{R:Qj->Ah->Prop}(I:Nat->Ah->Prop)(turn:∀n s,I n s->Tg (Th prog w) A (pyNext it) (λr d=>match r with
   |none=>R (.ok .next) d
   | some v => Tg (Th prog w) A (Fi a it v) (λ_ s₀ => Tg (Th prog w) A (assign a env v) (λ_ l =>
     Tg (Th prog w) A (forIn E true λc r=>if r=true then do let ok<-isTrue c env (eval c env);pure (Cu ok) else pure (Cu r)) (λok b=>if ok=true then
      Tg (Th prog w) A (eval g env) (λx k=>Tg (Th prog w) A (Qh x) (λH j=>
       Gp (Th prog w) A (.compStart (.ListComp z [⟨a,u,E,0⟩,⟨t,g,G,0⟩] scope pos) 1 H acc env) (λr i=>match r with|.ok _=>∃m,m<n/\I m i|.error _=>False) j) (λ_ _=>False) k) (λ_ _=>False) b
      else∃m,m<n/\I m b) (λ_ _=>False) l)
     (λ_ _=>False) s₀) (λ_ _=>False) d) (λ_ _=>False) s)
  (n:Nat) (h:I n s) (hs:∀x,To g env x=pure x:=by intro _;rfl):Gp (Th prog w) A (.compLoop (.ListComp z [⟨a,u,E,0⟩,⟨t,g,G,0⟩] scope pos) 0 it acc env) R s:=by
 refine Pf rfl I (λn s J=>?_) n h;show Tg _ A ((Pz (.ListComp z [⟨a,u,E,0⟩,⟨t,g,G,0⟩] scope pos) 0 it acc env).onRaise (λx=>do Qn x env;Mk x)) _ _ s;refine Qo ?_;rw[L6];refine Ac (Ea (Ac (Az (turn n s J) (λr d q=>?_) λ_ _ h'=>h'.elim)));cases r with
 |none=>exact An q
 |some v=>
  refine Ac (Az q (λ_ s₀ y=>?_) λ_ _ h'=>h'.elim);refine Ac (Az y (λ_ l D=>?_) λ_ _ h'=>h'.elim);refine Ac (Az D (λF b p=>?_) λ_ _ h'=>h'.elim);cases F with
  |false=>exact An ⟨rfl,p⟩
  |true=>
   refine Ac (Az p (λx k C=>?_) λ_ _ h'=>h'.elim);refine Ac (Ea (Ac (wpAny_of_eq (hs x) (Ac (Cn (Az C (λH j B=>?_) λ_ _ h'=>h'.elim))))));refine Ac (wpAny_runOwn (Kg B λr i o=>?_));cases r with
   |ok f=>exact An ⟨rfl,o⟩
   |error e=>exact o.elim
theorem UW{prog:Br}{w:Tl}{A:Df}{s:Ah}{e c d b a:Tj}{g i:List Tj}{scope:Tr}{pos:Pos}{it acc:Te}{env:Env}{R:Qj->Ah->Prop}(j:Gp (Th prog w) A (.compLoop (.ListComp e [⟨c,d,g,0⟩,⟨b,a,i,0⟩] scope pos) 1 it acc env) R s)(h:Tg (Th prog w) A (Qh it) (λf s'=>Gp (Th prog w) A (.compLoop (.ListComp e [⟨c,d,g,0⟩,⟨b,a,i,0⟩] scope pos) 1 f acc env) R s') (notedBy (Th prog w) A env λx s'=>R (.error x) s') s):Gp (Th prog w) A (.compStart (.ListComp e [⟨c,d,g,0⟩,⟨b,a,i,0⟩] scope pos) 1 it acc env) R s:=by
 refine codeAny_of_tree ?_;show Tg _ _ ((compStart (.ListComp e [⟨c,d,g,0⟩,⟨b,a,i,0⟩] scope pos) 1 it acc env).onRaise (λx=>do Qn x env;Mb theWindowsPlace)) _ _ s;refine wpAny_notedAt ?_;unfold compStart;show Tg _ _ (ask>>=_) _ _ s;refine Ac (wpAny_askSetting (wpAny_ite ?_));split
 ·first
   |exact Ac (An (An (And.intro rfl j)))
   |exact An (And.intro rfl j)
 ·first
   |exact Ac (Gy (Ac (Ea (Ac (Az h (λf s' h'=>An (And.intro rfl h')) λ_ _ x=>x)))))
   |(refine Ac (Gy ?_);show Tg _ _ (Mb a.pos>>=_) _ _ s;exact Ac (Ea (Ac (Az h (λf s' h'=>An (And.intro rfl h')) λ_ _ x=>x))))
def EmW(D:Tf)(l:TI)(g:TG)(n:TT)(te:TE)(o:List V)(σ:St)(H:Hp)(N:List V->St->Hp->Prop):Prop:=
 l σ H λJ H0=>∃W:Nat->Nat->List V->St->Hp->Prop,(∃m,W 0 m o σ H0)/\∀i m acc c H1,W i m acc c H1->
  (J.stop i H1/\N acc c H1)∨
  (J.go i H1/\ ∃e:List V->St->Hp->Prop,(∀h d H',e h d H'-> ∃f,f<m/\W (i+1) f h d H')∧
   ∀x H2,J.yld i H1 x H2->g x c H2 λa p=>n a p λb k=>if b=true then te a k λv j=>j D=some (.lst acc)/\acc.length<sizeLine/\e (acc++[v]) a (aN j D (.lst (acc++[v]))) else e acc a k)
theorem Yr{Y:Cx}{B F P l p:Tj}{bm aq:List Tj}{scope:Tr}{pos:Pos}{wi:TI}{g:TG}{tt:TT}{te:TE}{aa:List (Tf×Tq)}{s:Ah}{σ:St}{H:Hp}{D:Tf}{jl:List V}{N:List V->St->Hp->Prop}(hc:Y.calm=true)(Z:Y.xe=λ_ _=>False)(hi:PI Y l p wi)(hg:PG Y l g)(ht:PTs Y aq tt)(he:PE Y B te)(I:cE Y aa σ H s)(h:EmW D wi g tt te jl σ H N):Tg (Th Y.prog Y.w) Y.A (eval p Y.env) (λx K=>Tg (Th Y.prog Y.w) Y.A (Qh x) (λi2 G=>Gp (Th Y.prog Y.w) Y.A (.compStart (.ListComp B [⟨F,P,bm,0⟩,⟨l,p,aq,0⟩] scope pos) 1 i2 (.ref D) Y.env) (λr j=>match r with|.ok _=>∃q a H',cE Y aa a H' j/\N q a H'|.error _=>False) G) (λ_ _=>False) K) (λ_ _=>False) s:=by
 have nx:∀{α:Sort _} {x:Te} {s:Ah},Y.xe x s->α:=λz=>by rw[Z] at z;exact z.elim
 refine Az (hi aa s σ H _ I h) (λv s1 h1=>Az h1 (λitv s2 h2=>?_) λ_ _ z=>nx z) λ_ _ z=>nx z;obtain⟨it,fp,tn,J,H2,e,I2,T,O,f2,W,⟨m0,w0⟩,turn⟩:=h2;subst e;have stat:∀{H':Hp},(∀b∈fp,H' b=none)->∀b∈fp,O8 Y aa H' b:=λhn b hb=>⟨hn b hb,(f2 b hb).2⟩;have loop:∀k:Ah,k=s2->Gp (Th Y.prog Y.w) Y.A (.compLoop (.ListComp B [⟨F,P,bm,0⟩,⟨l,p,aq,0⟩] scope pos) 1 (.ref it) (.ref D) Y.env) (λr j=>match r with|.ok _=>∃q a H',cE Y aa a H' j/\N q a H'|.error _=>False) k:=by
  rintro k rfl;refine ER (λn s'=>∃i a H' acc,cE Y aa a H' s'/\tn i s'.heap/\(∀b∈fp,H' b=none)/\W i n acc a H') ?_ m0 ⟨0,σ,H2,jl,I2,O,λb hb=>(f2 b hb).1,w0⟩;rintro n s3 ⟨i,f,R,acc,I3,M,Q,w3⟩;rcases turn i n acc f R w3 with⟨L,qn⟩|⟨go,N2,hN,step⟩
  ·refine Az (T.done Y rfl rfl rfl hc i aa s3 f R (λ_ _ => False) I3 (stat Q) M L) (λr s4 ⟨hr,I4⟩ => ?_) λ_ _ z => z
   subst hr;exact⟨acc,f,R,I4,qn⟩
  ·refine Az (T.item Y rfl rfl rfl hc i aa s3 f R (λ_ _ => False) I3 (stat Q) M go) (λr s4 ⟨u,hr,h4⟩ => ?_) λ_ _ z => z
   subst hr;refine Az h4 (λ_ s5 ⟨x,H5,I5,r5,y5,t,fr5⟩=>?_) λ_ _ z=>z;have I5':=I5.pinned (stat fr5) (T.obj _ _ t);refine Az (hg _ s5 f H5 x u _ I5' r5 (step x H5 y5)) (λ_ s6 ⟨c,H6,I6,q6⟩=>?_) λ_ _ z=>nx z;have again:∀{C:Hp} {s7:Ah} {q:List V},cE Y (aa++RU fp s5.heap) c C s7->N2 q c C->∃m,m<n/\∃i a H' acc,cE Y aa a H' s7/\tn i s7.heap/\(∀b∈fp,H' b=none)/\W i m acc a H':=λ{C s7 q} E n7=>by obtain⟨m',hm,w7⟩:=hN q c C n7;refine⟨m',hm,i+1,c,C,q,E.unpinned,T.keep _ _ _ t λb hb o e=>(E.pin (b,o) (Av _ (Av _ (Y2 hb e)))).1,λb hb=>?_,w7⟩;obtain⟨o,e,d⟩:=T.obj _ _ t b hb;exact(E.pin (b,o) (Av _ (Av _ (Y2 hb e)))).2.1
   refine Az (ht _ s6 c H6 _ I6 q6) (λS s7 ⟨C,E,q7⟩=>?_) λ_ _ z=>nx z;cases S with
   |false=>exact again E q7
   |true=>
    refine Az (he _ s7 c C _ E q7) (λv s8 ⟨y,H8,I8,r8,hD8,U,n8⟩=>?_) λ_ _ z=>nx z;refine Az (aF (X:=Y) _ s8 c H8 (.ref D) [y] (.ref D) [v] (λ_ H9=>N2 (acc++[y]) c H9) I8 rfl (.cons r8 .nil)
     ⟨D,acc,y,rfl,rfl,hD8,U,n8⟩) (λ_ s9 ⟨_,H9,I9,_,n9⟩=>again I9 n9) λ_ _ z=>nx z
 exact UW (loop _ rfl) (T.self _ 0 _ _ _ O (loop _ rfl))
structure Blk2(Y:Cx)(tg:Tj)(ifs:List Tj)(tg2 it2:Tj)(aq:List Tj)(elt:Tj)(g:TG)(tt:TT)(wi2:TI)(g2:TG)(tt2:TT)(te:TE):Prop where
 tg:PG Y tg g
 ts:PTs Y ifs tt
 it:PI Y tg2 it2 wi2
 tg2:PG Y tg2 g2
 ts2:PTs Y aq tt2
 el:PE Y elt te
def Xg(D:Tf)(ix:List Nat)(nl:Nat)(J:It)(g:TG)(k:TT)(e:TI)(l:TG)(f:TT)(te:TE)(σ:St)(H0:Hp)(Q:Hp->Prop):Prop:=
 ∃W:Nat->Nat->List V->Hp->Prop,(∃m,W 0 m [] (aN H0 D (.lst [])))/\∀i m acc H1,W i m acc H1->
  (J.stop i H1/\Q H1)∨
  (J.go i H1/\ ∃N:List V->Hp->Prop,(∀c H',N c H'-> ∃h,h<m/\W (i+1) h c H')∧
   ∀x H2,J.yld i H1 x H2->g x (aJ ix σ++Bi nl none) H2 λa n=>a.take ix.length=aJ ix σ∧
    k a n λb j=>if b=true then EmW D e l f te acc a j (λc d H'=>d.take ix.length=aJ ix σ/\N c H') else N acc j)
def Xd(ix:List Nat)(nl:Nat)(c:TI)(g:TG)(d:TT)(a:TI)(e:TG)(b:TT)(te:TE):TE:=λσ H Q=>c σ H λJ H0=>∀D,H0 D=none->Xg D ix nl J g d a e b te σ H0 λH'=>Q (.ref D) H'
theorem EO{X:Cx}{aa:List (Tf×Tq)}{σ:St}{H2:Hp}{a:Ah}{E:Te->Ah->Prop}{tg iter tg2 Z elt:Tj}{ifs aq:List Tj}{scope:Tr}{pos:Pos}{N':List Ti}{ix:List Nat}{nl:Nat}{g g2:TG}{tt tt2:TT}{wi2:TI}{te:TE}{cl:List (Ti×Tf)}{J:It}{fp:List Tf}{it:Tf}{tn:Nat->Tp->Prop}{Q:V->Hp->Prop}{RR:Te->Tf->Qj->Ah->Prop}(hs2:∀(env:Env) (x:Te),To Z env x=pure x)(hc:X.calm=true)(S:SG X N' ix scope)(hnl:N'.length=ix.length+nl)(bz:∀x c,cl.lookup x=some c->X.env.cells.lookup x=some c)(ig:∀x,(x,Bp)∈scope.names->∃c,cl.lookup x=some c)(blk:∀(cl:List (Ti×Tf)) (s1:Ah) (H1:Hp) (fp:List Tf),Blk2 (bG X N' scope cl s1 H1 fp) tg ifs tg2 Z aq elt g tt wi2 g2 tt2 te)(I2:cE X aa σ H2 a)(T:F4 X.prog X.w X.K tg J fp it tn)(st2:tn 0 a.heap)(f2:∀b∈fp,O8 X aa H2 b)(h:∀D,H2 D=none->Xg D ix nl J g tt wi2 g2 tt2 te σ H2 λH'=>Q (.ref D) H')(fin:∀(D C:Tf) (s':Ah) (H':Hp),cE X aa σ H' s'->(∃m,s'.heap.Ns C m)->C≠X.env.locals->(∀x c,X.env.cells.lookup x=some c->c≠C)->(∀(k:St) (R:Ah) (h'':Tp),cE X aa k H' R->Fo C R.heap h''->cE X aa k H' {R with heap:=h''})->Q (.ref D) H'->RR (.ref D) C (.ok .next) s'):Tg (Th X.prog X.w) X.A (Ry []) (λacc B=>Tg (Th X.prog X.w) X.A (Km scope X.env.globals cl [] X.env.qual none .none (some X.env)) (λii s₄=>Gp (Th X.prog X.w) X.A (.compStart (.ListComp elt [⟨tg,iter,ifs,0⟩,⟨tg2,Z,aq,0⟩] scope pos) 0 (.ref it) acc {ii with scope:=relabel scope X.env}) (RR acc ii.locals) s₄) E B) E a:=by
 refine Dd (OO ?_);dsimp only;have s:cE X aa σ (aN H2 a.heap.objs.size (.lst [])) {a with heap:=a.heap.push {cls:=.type "list",dict:=none,data:=.seq ([]:List Te).toArray}}:=
  I2.lnew (t':=a.toks) (ys:=[]) (its:=[]) .nil (Cy _)
 have hDn:H2 a.heap.objs.size=none:=I2.hok.fresh (Ak _);obtain⟨W,⟨m0,w0⟩,turn⟩:=h _ hDn;generalize hs1:({a with heap:=a.heap.push {cls:=.type "list",dict:=none,data:=.seq ([]:List Te).toArray}}:Ah)=s1 at s;have cp:a.heap.push {cls:=.type "list",dict:=none,data:=.seq ([]:List Te).toArray}=s1.heap:=by rw[<-hs1]
 rw[cp];have I:∀b o,s1.heap.get? b=some o->(Ky (s1.heap.push {cls:=.type "dict",data:=.dict #[]}) scope.names).get? b=some o:=λb o e=>Js _ _ _ _ (Ae _ e);have H:(Ky (s1.heap.push {cls:=.type "dict",data:=.dict #[]}) scope.names).Ns s1.heap.objs.size (λ_=>none):=(Sy s1.heap (.type "dict")).keeps λb o e=>Js _ _ _ _ e;have L:=cellsFrom_ok scope.names (s1.heap.push {cls:=.type "dict",data:=.dict #[]}) (s1.heap.objs.size+1) [] ⟨λ_ _ hm=>(nomatch hm),Ku⟩ (by rw[De];exact Ak _);rw[De] at L;generalize hz1:Ky (s1.heap.push {cls:=.type "dict",data:=.dict #[]}) scope.names=F at I H L;rw[TW];generalize hnc:Ts (s1.heap.objs.size+1) scope.names []=t at L;have G:∀x c,t.lookup x=some c->(x,Cj)∈scope.names/\F.IsCell c none/\s1.heap.objs.size+1<=c:=λx c e=>by have hm:=By e;exact⟨IU (n:=s1.heap.objs.size+1) (by rw[hnc];exact hm),L.empty x c hm⟩
 have nch:∀x,(x,Cj)∈scope.names->∃c,t.lookup x=some c:=λx h=>by obtain⟨c,hc⟩:=IT (n:=s1.heap.objs.size+1) h;rw[hnc] at hc;exact RN hc
 have g0:∀b∈fp,b<a.heap.objs.size:=λb hb=>by obtain⟨o,e,_⟩:=T.obj _ _ st2 b hb;exact Aq e
 have i5:s1.heap.objs.size=a.heap.objs.size+1:=by rw[<-cp,De]
 have jy:∀b o,a.heap.get? b=some o->s1.heap.get? b=some o:=λb o e=>by rw[<-cp];exact Ae _ e
 have cq:∀x c,cl.lookup x=some c->c<s1.heap.objs.size:=λx c e=>by obtain⟨v,q⟩:=s.cell x c (bz x c e);exact q.lt
 have rl:∀b∈A7 X.stack,b<s1.heap.objs.size:=λb hb=>by obtain⟨_,o,ho,_⟩:=(s.stack).mem hb;exact Aq ho
 have U:(bG X N' scope (t++cl) s1 (aN H2 a.heap.objs.size (.lst [])) fp).Ok:=by
  refine⟨s.ok.mod,S.kind,s.ok.glob,s.ok.blt,Ak _,λx y c e1 O=>?_,λx hx=>?_,λx c hf e=>?_,s.ok.hd,s.ok.frames,.inl rfl,λb hb=>⟨?_,λx c e=>?_⟩,λb o e=>?_,Ce s.ok.bsz s.sz,λb o e hb=>?_,λb hb hb2=>?_,s.stack,s.stkFree⟩
  ·rcases aD e1 with n1|⟨_,o1⟩
   ·rcases aD O with n2|⟨_,o2⟩
    ·exact Ob L.apart (By n1) (By n2)
    ·exact absurd (Ba (cq y c o2) (Ew (G x c n1).2.2)) (Cm _)
   ·rcases aD O with n2|⟨_,o2⟩
    ·exact absurd (Ba (cq x c o1) (Ew (G y c n2).2.2)) (Cm _)
    ·exact s.ok.inj x y c (bz x c o1) (bz y c o2)
  ·cases q:t.lookup x with
   |some c=>exact⟨c,XE q⟩
   |none=>
    rcases W0 hx with h|h
    ·obtain⟨c,hc⟩:=ig x h
     exact⟨c,(WH q).trans hc⟩
    ·obtain⟨c,hc⟩:=nch x h
     rw[q] at hc;cases hc
  ·have hx:(x,Cj)∈scope.names:=By (beq_iff_eq.mp hf)
   obtain⟨c',M⟩:=nch x hx;have:=XE (m:=cl) M;have e:(t++cl).lookup x=some c:=e;rw[this] at e;cases e;exact Ew (G x c M).2.2
  ·exact Bk (Ba (g0 b hb) (by show a.heap.objs.size<=s1.heap.objs.size;rw[i5];exact Ge _))
  ·rcases aD e with n1|⟨_,o1⟩
   ·have h1:=g0 b hb
    have h2:=(G x c n1).2.2;rw[i5] at h2;exact λz=>absurd (z▸h2) (Ps (Ba h1 (Ce (Ge _) (Ge _))))
   ·exact(f2 b hb).2.2.2.2.1 x c (bz x c o1)
  ·exact s.bs b o e
  ·have:=(f2 b hb)
   obtain⟨o',e',_⟩:=T.obj _ _ st2 b hb;have hlt:=Ba (Aq e) s.ok.bsz;rcases this.2.2.2.1 with z|z
   ·exact s.ok.noex b o e z
   ·exact absurd (Ba hlt z) (Cm _)
  ·rcases Ai.mp (s.stkSub b hb2) with z|z
   ·exact(f2 b hb).2.1 z
   ·exact(f2 b hb).2.2.1 z
 have f7:(aJ ix σ++Bi nl none).length=N'.length:=by rw[Cf,Ir,hnl];simp[aJ]
 have IY:cE (bG X N' scope (t++cl) s1 (aN H2 a.heap.objs.size (.lst [])) fp) [] (aJ ix σ++Bi nl none) (aN H2 a.heap.objs.size (.lst [])) {a with heap:=F}:=by
  refine⟨U,?_,I2.bare,Un.kept I,⟨_,H,λj x v e1 O e3=>?_⟩,λx c e=>?_,s.hok.fresh (Ak _),λx c e=>?_,λp hp=>absurd (show p∈([]:List (Tf×Tq)) from hp) (by simp),s.hok.kept I,f7⟩
  ·show a.os=s1.os
   rw[<-hs1]
  ·have hj:j<ix.length:=by
    by_cases hj:j<ix.length
    ·exact hj
    ·exfalso
     have hl:(aJ ix σ).length=ix.length:=by simp[aJ]
     rw[Bj (by rw[hl];lia),Db] at O;split at O<;>cases O
   have hl:(aJ ix σ).length=ix.length:=by simp[aJ]
   rw[Af (by rw[hl];exact hj)] at O;have hci:=S.cap j hj;obtain⟨i,hi⟩:∃i,ix[j]?=some i:=⟨ix[j],by simp[hj]⟩;rw[hi] at hci;have hNi:X.N[i]?=some x:=by have:N'[j]?=X.N[i]? :=hci;rw[<-this];exact e1
   have hσ:σ[i]?=some (some v):=by
    unfold aJ at O;rw[Cb,hi] at O;have e2':(σ[i]?).join=some v:=by simpa using O
    cases q:σ[i]? with
    |none=>rw[q] at e2';cases e2'
    |some o=>rw[q] at e2';rw[show o=some v from e2']
   have hfl:scope.names.lookup x=some .free:=S.capf x (by rw[Ez];exact⟨j,by rw[Cc hj];exact e1⟩)
   have bq:(x,Bp)∈scope.names:=By hfl;have hpk:X.env.kindOf x=some .cell∨X.env.kindOf x=some .free:=by exact S.free (x,.free) bq rfl
   have k5:Vis X.env.scope x:=by
    rcases hpk with z|z
    ·exact .inr (.inl z)
    ·exact .inr (.inr z)
   obtain⟨m,hn,k7⟩:=s.loc;obtain⟨u,ru,l⟩:=k7 i x v hNi hσ k5;refine⟨u,ru,?_⟩;rcases l with⟨hk,_⟩|⟨hk,c,ec,z⟩
   ·rcases hpk with q|q<;>rw[hk] at q<;>cases q
   ·obtain⟨c',M⟩:=ig x bq
    have:c'=c:=by have:=bz x c' M;rw[ec] at this;exact(Bw this).symm
    subst this;have k6:t.lookup x=none:=by
     cases q:t.lookup x with
     |none=>rfl
     |some d=>
      have:=S.cel (x,.cell) (G x d q).1 rfl;rw[hfl] at this;cases this
    refine .inr ⟨U7 hfl,c',(WH k6).trans M,?_⟩
    ·obtain⟨o,ho,hd⟩:=z
     exact⟨o,I _ _ ho,hd⟩
  ·rcases aD e with n1|⟨_,o1⟩
   ·exact⟨none,(G x c n1).2.1⟩
   ·obtain⟨v,o,ho,hd⟩:=s.cell x c (bz x c o1)
    exact⟨v,o,I _ _ ho,hd⟩
  ·rcases aD e with n1|⟨_,o1⟩
   ·exact s.hok.fresh (Ew (G x c n1).2.2)
   ·exact s.freeC x c (bz x c o1)
 have kg:∀{pY:List (Tf×Tq)} {k:St} {H':Hp} {s':Ah},cE (bG X N' scope (t++cl) s1 (aN H2 a.heap.objs.size (.lst [])) fp) pY k H' s'->cE X aa σ H' s':=λ{pY k H' s'} J'=>
  s.call' J'.os J'.base J'.hok J'.bare λb hb=>⟨(f2 b hb).2.2.2.1,(f2 b hb).2.1,(f2 b hb).2.2.2.2.1,(f2 b hb).2.2.2.2.2⟩
 have stat:∀{H':Hp} {pY:List (Tf×Tq)},(∀b∈fp,H' b=none)->pY=[]->∀b∈fp,O8 (bG X N' scope (t++cl) s1 (aN H2 a.heap.objs.size (.lst [])) fp) pY H' b:=λ{H' pY} hn hp b hb=>by subst hp;refine⟨hn b hb,(U.exf b hb).1,U.exfs b hb,.inl hb,(U.exf b hb).2,λp hp=>absurd (show p∈([]:List (Tf×Tq)) from hp) (by simp)⟩
 have st1:tn 0 F:=T.keep 0 a.heap F st2 λb hb o e=>I b o (jy b o e);have fr1:∀b∈fp,(aN H2 a.heap.objs.size (.lst [])) b=none:=λb hb=>by rw[bF (Bk (g0 b hb))];exact(f2 b hb).1
 have loop:∀B:Ah,B={a with heap:=F}->
   Gp (Th X.prog X.w) X.A (.compLoop (.ListComp elt [⟨tg,iter,ifs,0⟩,⟨tg2,Z,aq,0⟩] scope pos) 0 (.ref it) (.ref a.heap.objs.size) (Qa scope (t++cl) s1.heap.objs.size X.env)) (RR (.ref a.heap.objs.size) s1.heap.objs.size) B:=by
  rintro B rfl;refine EQ (hs:=hs2 _) (λn s'=>∃i k H' acc,cE (bG X N' scope (t++cl) s1 (aN H2 a.heap.objs.size (.lst [])) fp) [] k H' s'/\k.take ix.length=aJ ix σ/\tn i s'.heap/\(∀b∈fp,H' b=none)/\W i n acc H') ?_ m0
   ⟨0,_,_,[],IY,by rw[Ct (by simp[aJ])];exact Co (by simp[aJ]),st1,fr1,w0⟩
  rintro n s' ⟨i,k,H',acc,J',hσ,st',fr',w'⟩;have Jc:cE (bG X N' scope (t++cl) s1 (aN H2 a.heap.objs.size (.lst [])) fp) [] (aJ ix σ++Bi nl none) H' s':=by
   refine J'.weak (by rw[f7];exact J'.len.symm) λj v e=>?_;have hl:(aJ ix σ).length=ix.length:=by simp[aJ]
   by_cases hj:j<ix.length
   ·rw [Af (by rw [hl];exact hj),<- hσ,Cc hj] at e
    exact e
   ·rw [Bj (by rw [hl];lia),Db] at e
    split at e<;>cases e
  rcases turn i n acc H' w' with⟨stop,q⟩|⟨go,N,hN,step⟩
  ·refine Az (T.done (bG X N' scope (t ++ cl) s1 (aN H2 a.heap.objs.size (.lst [])) fp) rfl rfl rfl hc i [] s' _ H' (λ_ _ => False) Jc (stat fr' rfl) st' stop) (λr s4 ⟨hr,I4⟩ => ?_) λ_ _ z => z
   subst hr;have IX:=kg I4;obtain⟨m,hm,_⟩:=I4.loc;exact fin _ _ s4 H' IX ⟨m,hm⟩ (Go s.lt) (λx c e z=>by obtain⟨v,q⟩:=s.cell x c e;have:=q.lt;rw[z] at this;exact Cm _ this) (λσ'' R h'' I'' sb=>cE.offNew s I'' I4.free λb o hb e=>(sb.2 b hb).trans e) q
  ·refine Az (T.item (bG X N' scope (t ++ cl) s1 (aN H2 a.heap.objs.size (.lst [])) fp) rfl rfl rfl hc i [] s' _ H' (λ_ _ => False) Jc (stat fr' rfl) st' go) (λr s4 ⟨u,hr,h4⟩ => ?_) λ_ _ z => z
   subst hr;refine Az h4 (λ_ s5 ⟨x,H5,I5,r5,y5,st5,fr5⟩=>?_) λ_ _ z=>z;have I5':=I5.pinned (stat fr5 rfl) (T.obj _ _ st5);obtain⟨btg,bts,bit,bt2,bs2,bel⟩:=blk (t++cl) s1 (aN H2 a.heap.objs.size (.lst [])) fp;refine Az (btg _ s5 _ H5 x u _ I5' r5 (step x H5 y5)) (λ_ s6 ⟨σ6,H6,I6,hσ6,q6⟩=>?_) λ_ _ z=>z;have again:∀{P:St} {H7:Hp} {s7:Ah} {af:List V},P.take ix.length=aJ ix σ->cE (bG X N' scope (t++cl) s1 (aN H2 a.heap.objs.size (.lst [])) fp) ([]++RU fp s5.heap) P H7 s7->N af H7->
     ∃m,m<n/\∃i k H' acc,cE (bG X N' scope (t++cl) s1 (aN H2 a.heap.objs.size (.lst [])) fp) [] k H' s7/\k.take ix.length=aJ ix σ/\tn i s7.heap/\(∀b∈fp,H' b=none)/\W i m acc H':=λ{P H7 s7 af} hσ7 I7 n7=>by
    obtain⟨m',hm,w7⟩:=hN af H7 n7;refine⟨m',hm,i+1,P,H7,af,I7.unpinned,hσ7,T.keep _ _ _ st5 λb hb o e=>(I7.pin (b,o) (Av _ (Av _ (Y2 hb e)))).1,λb hb=>?_,w7⟩;obtain⟨o,e,d⟩:=T.obj _ _ st5 b hb;exact(I7.pin (b,o) (Av _ (Av _ (Y2 hb e)))).2.1
   refine Az (bts _ s6 σ6 H6 _ I6 q6) (λokb s7 ⟨H7,I7,q7⟩=>?_) λ_ _ z=>z;cases okb with
   |false=>exact again hσ6 I7 q7
   |true=>
    refine Az (Yr (Y:=bG X N' scope (t++cl) s1 (aN H2 a.heap.objs.size (.lst [])) fp) hc rfl bit bt2 bs2 bel I7 q7) (λx s8 h8=>Az h8 (λi2 s9 h9=>Kg h9 λr s10 h10=>?_) λ_ _ z=>z) λ_ _ z=>z;cases r with
    |ok f=>
     obtain⟨af,k,H',I9,hσ9,n9⟩:=h10;exact again hσ9 I9 n9
    |error e=>exact h10.elim
 have he:({newEnv scope s1.heap.objs.size X.env.globals (t++cl) X.env.qual none .none (some X.env) builtinsNs with scope:=relabel scope X.env}:Env)=Qa scope (t++cl) s1.heap.objs.size X.env:=rfl;exact Lw (loop _ rfl) (T.self _ 0 _ _ _ st1 (loop _ rfl))
noncomputable def JL(gg:VG)(tb:VB)(fe:VF):List cX->List cX->Ev->Option (List cX×Ev)
 |[],acc,δ=>some (acc,δ)
 |d::r,acc,δ=>(gg d δ).bind λδ1=>(tb δ1).bind λp=>if p.1=true then(fe p.2).bind λq=>if acc.length<16777216 then JL gg tb fe r (acc++[q.1]) q.2 else none else JL gg tb fe r acc p.2
noncomputable def W3(n nl:Nat)(gg:VG)(tb:VB)(c:VI)(b:VG)(a:VB)(fe:VF):List cX->List cX->Ev->Option (List cX×Ev)
 |[],acc,δ=>some (acc,δ)
 |d::r,acc,δ=>(gg d (δ++M4 nl)).bind λδ1=>(tb δ1).bind λp=>if p.1=true then(c p.2).bind λu=>(JL b a fe u.1 acc u.2).bind λq=>W3 n nl gg tb c b a fe r q.1 (q.2.take n) else W3 n nl gg tb c b a fe r acc (p.2.take n)
noncomputable def PJ(ix:List Nat)(nl:Nat)(d:VI)(gg:VG)(tb:VB)(c:VI)(b:VG)(a:VB)(fe:VF):VF:=λδ=>(d δ).bind λp=>(W3 ix.length nl gg tb c b a fe p.1 [] (a9 ix p.2)).map λq=>(.lst q.1,ZC ix q.2 p.2)
section
variable{X:Cx}{K:As}{ml:List Nat}{e a b c:Tj}{es:List Tj}{pi pt pe pi2 pt2 pu bt bi ps bs:Bool}{f:VF}{B B':Bs}{O:Nat->Option Tf}{H H0 H1 H':Hp}{σ:St}{δ δ':Ev}{v:V}{d:cX}{p:Tf}{pos:Pos}{ix:List Nat}{nl:Nat}
theorem nZ{fi L:VI}{gg t:VG}{tb s:VB}{fe:VF}(hnd:ix.Nodup){Q:VK}(h:TN K ml (pi && (pt && pi2 && pt2 && pe)) (PJ ix nl fi gg tb L t s fe) σ H Q):Xd ix nl (AN K ml pi fi) (TGV K (Au ix.length) gg) (TB K (Au ix.length) pt tb) (AN K (Au ix.length) pi2 L) (TGV K (Au ix.length) t) (TB K (Au ix.length) pt2 s) (TV K (Au ix.length) pe true true fe) σ H Q:=by
 obtain⟨B,O,δ,d,δ2,S,q,k⟩:=h;unfold PJ at q;obtain⟨⟨ds,δ1⟩,h1,q⟩:=Aa.mp q;have q:((W3 ix.length nl gg tb L t s fe ds [] (a9 ix δ1)).map λq=>(cX.lst q.1,ZC ix q.2 δ1))=some (d,δ2):=q;obtain⟨⟨res,A⟩,h2,q⟩:=Ar.mp q;cases q;refine⟨B,O,δ,ds,δ1,S,h1,λJ g H0 X f0 p0 wk D W=>?_⟩;have hDO:∀j,Oc ix O j≠some D:=λj e=>by unfold Oc at e;obtain⟨i,hi,e⟩:=Aa.mp e;obtain⟨o,q⟩:=X.nin (.inr ⟨i,e⟩);rw[W] at q;cases q
 have dw:∀kp j,ix.length<=j->(Bc ix B O H0 D kp).mu j=none:=λkp j hj=>by show(ix[j]?).bind O=none;rw[Bq hj];rfl
 refine⟨λi m acc H1=>m=ds.length - i/\i<=ds.length/\∃(N:List cX) (r:Ev),r.length=ix.length/\acc.length=N.length∧
   Z4 K (Au ix.length) (Bc ix B O H0 D (g++acc.zip N)) (Oc ix O) H1 (aJ ix σ++Bi nl none) (r++M4 nl)/\H1 D=some (.lst acc)/\((pt&&pi2&&pt2&&pe)=true->aP H0 H1)∧
   W3 ix.length nl gg tb L t s fe (ds.drop i) N r=some (res,A),
  ⟨ds.length,rfl,Cy _,[],a9 ix δ1,by simp[a9],rfl,by rw[Kw,Cv];exact X.unkeep.inner W hnd λp y=>X.kep p (Cg _ y),bZ,λ_=>cN W,h2⟩,?_⟩
 rintro i m acc H1 ⟨rfl,hi,N,r,hlc,az,S1,hD1,cb,hc⟩;have w:=wk (Nn (Bc ix B O H0 D (g++acc.zip N)) (Oc ix O)) H1 λp y=>S1.kep p (Cg _ y);by_cases hlt:i<ds.length
 ·obtain ⟨go,yl⟩ := w.1 i ds[i] (by simp [hlt])
  rw[Cq hlt] at hc;simp only[W3] at hc;obtain⟨δ3,g1,hc⟩:=Aa.mp hc;obtain⟨⟨kk,T⟩,g2,hc⟩:=Aa.mp hc;refine .inr ⟨go,λV H'=>∃(N:List cX) (r:Ev),r.length=ix.length/\V.length=N.length∧
   Z4 K (Au ix.length) (Bc ix B O H0 D (g++V.zip N)) (Oc ix O) H' (aJ ix σ++Bi nl none) (r++M4 nl)/\H' D=some (.lst V)/\((pt&&pi2&&pt2&&pe)=true->aP H0 H')∧
   W3 ix.length nl gg tb L t s fe (ds.drop (i+1)) N r=some (res,A),λV H' w'=>⟨ds.length - (i+1),by lia,rfl,hlt,w'⟩,λx H2 hy=>?_⟩
  obtain⟨sm,rx⟩:=yl x H2 hy;refine⟨_,_,_,ds[i],δ3,S1.same sm,rx,g1,λσ3 O3 S3 m3=>?_⟩;have ln3:=IS m3;have G:=P5 ln3 m3;refine⟨G,_,_,δ3,kk,T,S3,g2,λH4 Y=>?_⟩;have hD4:H4 D=some (.lst acc):=Y.frm _ _ (sm _ _ hD1) λz=>by obtain⟨j,e⟩:=z;have:=(Y.sta.old j D e).1;exact absurd (.inl (.inr rfl)) this
  have ln4:ix.length<=T.length:=by rw[<-Y.sta.len];exact ln3
  cases kk with
  |false=>
   rw[if_neg Dj] at hc;refine OC ⟨N,T.take ix.length,by rw[Bt];lia,az,Y.sta.turn (dw _) (YH ix σ) G ln4,hD4,λz=>?_,hc⟩;simp only[Ag] at z;exact((cb (by simp[z.1.1.1,z.1.1.2,z.1.2,z.2])).trans sm).trans (Y.pur z.1.1.1)
  |true=>
   rw[if_pos rfl] at hc;obtain⟨⟨f,δ5⟩,g3,hc⟩:=Aa.mp hc;obtain⟨⟨jg,C⟩,g4,hc⟩:=Aa.mp hc;refine OD ⟨_,_,T,f,δ5,Y.sta,g3,λJ2 gm H5 S5 f5 p5 wk2=>?_⟩;have hD5:H5 D=some (.lst acc):=f5 _ _ hD4 λz=>by obtain⟨j,e⟩:=z;have:=(Y.sta.old j D e).1;exact absurd (.inl (.inr rfl)) this
   refine⟨λE m2 M P H6=>m2=f.length - E/\E<=f.length/\∃(u:List cX) (l:Ev) (O1:Nat->Option Tf),M.length=u.length∧
     Z4 K (Au ix.length) (Bc ix B O H0 D (gm++(g++M.zip u))) O1 H6 P l/\P.take ix.length=aJ ix σ/\ix.length<=P.length/\H6 D=some (.lst M)/\((pt&&pi2&&pt2&&pe)=true->aP H0 H6)∧
     JL t s fe (f.drop E) u l=some (jg,C),
    ⟨f.length,rfl,Cy _,N,δ5,_,az,S5,G,ln3,hD5,λz=>by simp only[Ag] at z;exact(((cb (by simp[z.1.1.1,z.1.1.2,z.1.2,z.2])).trans sm).trans (Y.pur z.1.1.1)).trans (p5 z.1.1.2),g4⟩,?_⟩
   rintro E m2 M P H6 ⟨rfl,hi2,u,l,O1,f8,S6,I,ln1,hD6,jz,c⟩;have w2:=wk2 (Nn (Bc ix B O H0 D (gm++(g++M.zip u))) O1) H6 λp y=>S6.kep p (Cg _ y);by_cases dz:E<f.length
   ·obtain ⟨go2,yl2⟩ := w2.1 E f[E] (by simp [dz])
    rw[Cq dz] at c;simp only[JL] at c;obtain⟨δ7,k1,c⟩:=Aa.mp c;obtain⟨⟨kk2,δ8⟩,k2,c⟩:=Aa.mp c;refine .inr ⟨go2,λV R H'=>∃(u:List cX) (l:Ev) (O1:Nat->Option Tf),V.length=u.length∧
     Z4 K (Au ix.length) (Bc ix B O H0 D (gm++(g++V.zip u))) O1 H' R l/\R.take ix.length=aJ ix σ/\ix.length<=R.length/\H' D=some (.lst V)/\((pt&&pi2&&pt2&&pe)=true->aP H0 H')∧
     JL t s fe (f.drop (E+1)) u l=some (jg,C),λV R H' w'=>⟨f.length - (E+1),by lia,rfl,dz,w'⟩,λx2 H7 hy2=>?_⟩
    obtain⟨U,rx2⟩:=yl2 x2 H7 hy2;refine⟨_,_,_,f[E],δ7,S6.same U,rx2,k1,λZ O7 S7 m7=>?_⟩;have F:Z.take ix.length=aJ ix σ:=by
     rw[<-I];refine Kv λj=>?_;rw[Kj,Kj];split
     ·rename_i hj
      exact m7 j (Cr.mpr hj)
     ·rfl
    have ln7:ix.length<=Z.length:=by
     have:(Z.take ix.length).length=ix.length:=by rw[F,YH]
     rw[Bt] at this;lia
    refine⟨_,_,δ7,kk2,δ8,S7,k2,λH8 R8=>?_⟩;have hD8:H8 D=some (.lst M):=R8.frm _ _ (U _ _ hD6) λz=>by obtain⟨j,e⟩:=z;have:=(R8.sta.old j D e).1;exact absurd (.inl (.inr rfl)) this
    cases kk2 with
    |false=>
     rw[if_neg Dj] at c;refine OC ⟨u,δ8,_,f8,R8.sta,F,ln7,hD8,λz=>?_,c⟩;have z0:=z;simp only[Ag] at z;exact((jz z0).trans U).trans (R8.pur z.1.2)
    |true=>
     rw[if_pos rfl] at c;obtain⟨⟨dv,δ9⟩,k3,c⟩:=Aa.mp c;split at c
     ·rename_i hz
      refine OD ⟨_,_,δ8,dv,δ9,R8.sta,k3,λv H9 R9=>?_⟩;have hD9:H9 D=some (.lst M):=R9.frm _ _ hD8 λz=>by obtain⟨j,e⟩:=z;have:=(R9.sta.old j D e).1;exact absurd (.inl (.inr rfl)) this
      have hv:aX K (Nn (Bc ix B O H0 D (gm++(g++M.zip u))) O7) H9 (Nn (Bc ix B O H0 D (gm++(g++M.zip u))) O7) v dv:=R9.rep.mono (λa h=>by
       rcases h with h|h
       ·exact .inl h
       ·exact .inr h) (λa h=>by
       rcases h with h|h
       ·exact .inl h
       ·exact .inr h)
      have S10:=R9.sta.withKp (kp:=gm++(g++(M++[v]).zip (u++[dv]))) λp y=>by
       rw[Mm f8,<-Bh,<-Bh] at y;rcases Cp.mp y with z|z
       ·exact R9.sta.kep p (by rw[<-Bh];exact z)
       ·rw[Bb.mp (show p∈[(v,dv)] from z)]
        exact hv
      refine⟨hD9,by rw[f8,Di];exact hz,u++[dv],δ9,O7,by simp[f8],?_,F,ln7,bZ,λz=>?_,c⟩
      ·exact S10.writeZ (.inl (.inr rfl)) hD9 W
      ·intro b o e
       have hb:b≠D:=λz=>by rw[z,W] at e;cases e
       rw[bF hb];have z0:=z;simp only[Ag] at z;exact(((jz z0).trans U).trans ((R8.pur z.1.2).trans (R9.pur z.2))) b o e
     ·cases c
   ·have e : E = f.length := by lia
    subst e;rw[Ds] at c;cases c;refine .inl ⟨w2.2,I,jg,C.take ix.length,by rw[Bt,<-S6.len];lia,f8,?_,hD6,jz,hc⟩;have S11:=S6.turn (nl:=nl) (dw _) (YH ix σ) I (by rw[<-S6.len];exact ln1);exact S11.withKp (kp:=g++M.zip jg) λp y=>S11.kep p (Av _ y)
 ·have e : i = ds.length := by lia
  subst e;rw[Ds] at hc;cases hc;refine .inl ⟨w.2,k D H1 ?_⟩;have fP:Fr (OA (Oc ix O)) H0 H1:=S1.frm;have hPO:∀a,OA (Oc ix O) a->OA O a:=λa q0=>by
   obtain⟨j,e⟩:=q0;unfold Oc at e;cases hi:ix[j]? with
   |none=>rw[hi] at e;cases e
   |some i=>rw[hi] at e;exact⟨i,e⟩
  have SL:=X.unkeep.laid (o:=.lst acc) W;have fL:Fr (OA (Oc ix O)) (aN H0 D (.lst acc)) H1:=λb o e n=>by
   by_cases hb:b=D
   ·subst hb
    rw[bZ] at e;cases e;exact hD1
   ·rw[bF hb] at e
    exact fP b o e n
  refine⟨SL.call (XN) (λi=>?_) fL hPO,f0.trans (fP.mono hPO),λz=>?_,.lst hD1 (U8 az λp y=>(S1.kep p (Av _ y)).mono U4 U4),X.unkeep.new W,X.fresh W⟩
  ·by_cases eg:i<δ1.length
   ·rcases WQ (ix:=ix) (ss:=A) (δ:=δ1) i eg hlc.symm with⟨j,x,e1,e2,e3⟩|⟨e1,e2⟩
    ·have e4:(A++M4 nl)[j]? =some (.ow x):=by rw[Af (Ad.mp e2).1];exact e2
     obtain⟨a,e5,_,w⟩:=S1.ow j x e4;refine .inr ⟨a,x,?_,e3,w.mono U4⟩;unfold Oc at e5;rw[e1] at e5;exact e5
    ·refine .inl ⟨e2,λa ea ⟨j,ej⟩ => ?_⟩
     obtain⟨x,ex⟩:=S1.dom j a ej;unfold Oc at ej;cases hi:ix[j]? with
     |none=>rw[hi] at ej;cases ej
     |some i'=>
      rw[hi] at ej;have:i=i':=X.inj i i' a ea ej;subst this;have hj:j<A.length:=by rw[hlc];exact(Ad.mp hi).1
      rw[Af hj] at ex;exact e1 j x hi ex
   ·refine .inl ⟨?_,λa ea => ?_⟩
    ·rw[Bq (by rw[XN];lia),Bq (by lia)]
    ·obtain⟨x,ex⟩:=X.dom i a ea
     exact absurd (Ad.mp ex).1 eg
  ·rw[Ag] at z
   exact(p0 z.1).trans (cb z.2)
end
section
variable{X:Cx}{K:As}{ml:List Nat}{pi pt pe pi2 pt2 pu:Bool}{pos:Pos}{ix:List Nat}{nl:Nat}{f:VF}
theorem jZ{i:Nat}{y:Ti}{j c7:Pos}{tg iter c b f:Tj}{d r:List Tj}{scope:Tr}{N':List Ti}{W k:TI}{g g2:TG}{Y l:TT}{te:TE}(hN:X.N.Nodup)(M:X.N[i]?=some y)(p:X.env.scope.names.lookup y=some .local)(hc:X.calm=true)(S:SG X N' ix scope)(K:N'.length=ix.length+nl)(hi:PI X tg iter W)(U:∀(cl:List (Ti×Tf)) (s1:Ah) (H1:Hp) (fp:List Tf),Blk2 (bG X N' scope cl s1 H1 fp) tg d c b r f g Y k g2 l te)(B:Gm (.ListComp f [⟨tg,iter,d,0⟩,⟨c,b,r,0⟩] scope pos) (some (.Name y j)) c7.line X.env=pure true:=by rfl)(hs:∀x,To iter X.env x=pure x:=by intro _;rfl)(F:∀(env:Env) (x:Te),To b env x=pure x:=by intro _ _;rfl):PS X (.Assign [.Name y j] (.ListComp f [⟨tg,iter,d,0⟩,⟨c,b,r,0⟩] scope pos) c7) (tAsg (Xd ix nl W g Y k g2 l te) (GL i)):=by
 intro aa s σ H D I h;rw[Mo _ _ _ _ B];refine Ac (Ea (Ac ?_));show Tg _ X.A (do let _<-comprehension (.ListComp f [⟨tg,iter,d,0⟩,⟨c,b,r,0⟩] scope pos) scope X.env _ (Ry []) false (eval iter X.env) (some (assign (.Name y j) X.env))) _ _ s;obtain⟨cl,e1,e2,e3⟩:=IW (env:=X.env) (scope:=scope) λy p hf=>I.ok.has y.1 (S.free y p hf);refine Ac (Az (Hn (use:=some (assign (.Name y j) X.env)) (cl:=cl) (Q:=λ_ s'=>SP X aa D .next s') rfl hs e1 S.kind S.names
  (Az (hi aa s σ H _ I h) (λxv s₁ o=>Az o (λitv Z n=>?_) λ_ _ e=>e) λ_ _ e=>e)) (λ_ s' G=>An (An G)) λ_ _ e=>e)
 obtain⟨it,fp,tn,J,H2,e,I2,T,t,f2,q⟩:=n;subst e;refine EO (Q:=λv H'=>D.nx (σ.set i (some v)) H') (RR:=λacc C=>compPost (Th X.prog X.w) X.A X.xe (some (assign (.Name y j) X.env)) (λ_ s'=>SP X aa D .next s') acc C) F hc S K e2 e3 U I2 T t f2 q ?_;intro Dl C s' H' I' L R P hb G;obtain⟨m,L⟩:=L;show Tg _ X.A (assign (.Name y j) X.env (.ref Dl)) _ _ _;refine Gx (P4 I' hN M (.inl p) (v:=.ref Dl) rfl (λu V ⟨a,E,ha⟩=>?_) (.inr p));have O:C≠a:=by
  rcases ha with z|z
  ·rw[z];exact R
  ·exact Dn (P y a z)
 exact⟨m,L.sameBut E O,λh'' sb=>⟨_,H',hb _ u h'' V sb,G⟩⟩
theorem dW{i:Nat}{y:Ti}{t u:Pos}{tg iter b a g:Tj}{d s:List Tj}{scope:Tr}{N':List Ti}{q f:VI}{gg e:VG}{tb c:VB}{fe:VF}(o:Bool)(B:X.N.Nodup)(p:X.N[i]?=some y)(v:X.env.scope.names.lookup y=some .local)(hc:X.calm=true)(A:scope.kind=.function)(l:PC X.N N' ix scope.names X.env.kindOf=true)(m:N'.length=ix.length+nl)(n:ix.Nodup)(hi:PI X tg iter (AN K ml pi q))(r:∀(cl:List (Ti×Tf)) (s1:Ah) (H1:Hp) (fp:List Tf),Blk2 (bG X N' scope cl s1 H1 fp) tg d b a s g (TGV K (Au ix.length) gg) (TB K (Au ix.length) pt tb) (AN K (Au ix.length) pi2 f) (TGV K (Au ix.length) e) (TB K (Au ix.length) pt2 c) (TV K (Au ix.length) pe true true fe))(w:i∉ml:=by decide)(j:Gm (.ListComp g [⟨tg,iter,d,0⟩,⟨b,a,s,0⟩] scope pos) (some (.Name y t)) u.line X.env=pure true:=by rfl)(hs:∀x,To iter X.env x=pure x:=by intro _;rfl)(k:∀(env:Env) (x:Te),To a env x=pure x:=by intro _ _;rfl):PS X (.Assign [.Name y t] (.ListComp g [⟨tg,iter,d,0⟩,⟨b,a,s,0⟩] scope pos) u) (SK K ml (Z3 i (if o then xO (PJ ix nl q gg tb f e c fe) else xV (PJ ix nl q gg tb f e c fe)))):=
 (jZ B p v hc (XO A l) m hi r j hs k).imp λD σ H h=>FU (λσ H Q z=>nZ n (Ub (pu:=pi&&(pt&&pi2&&pt2&&pe)) z)) w h
end
end L2
namespace TS
open PySem PySem.W PyProof.Rows
structure En where
 prog:Br
 w:Tl
 A:Df
 s:Ah
 κ:Qb
 it:Array Keyed
def En.Ok(n:Nat)(ck:Nat->Nat->Bool)(e:En):Prop:=∀i j,i<n->j<n->∀C:Bool->Ah->Prop,C (ck i j) e.s->kas_cmp e.prog e.w e.A e.κ e.it i j C e.s
abbrev En.at(e:En)(i:Nat):Keyed:=Jf e.it i
abbrev En.of(e:En)(p:Array Nat):Array Keyed:=p.map (Jf e.it)
structure Pu where
 p:Array Nat
 pd:Array (Nat×Nat×Nat)
 g:Nat
noncomputable def BX(e:En)(x:Pu):Es:=Il e.κ (e.of x.p) x.pd x.g none
section
variable{n:Nat}{ck:Nat->Nat->Bool}
def D(n:Nat)(ck:Nat->Nat->Bool){α:Type}(f:En->StateT Es Tw α)(x:Pu)(a:En->α)(y:Pu):Prop:=
 ∀e:En,e.Ok n ck->∀(E:Te->Ah->Prop) (Q:α->Es->Ah->Prop),Q (a e) (BX e y) e.s->kasC (Th e.prog e.w) e.A E (f e) Q (BX e x) e.s
def X(n:Nat)(ck:Nat->Nat->Bool){α a:Type}(f:En->StateT Es Tw α)(x:Pu)(v:a->En->α)(R:a->Pu->Prop):Prop:=∃t y,R t y/\D n ck f x (v t) y
theorem D.pure{α:Type}{a:En->α}{x:Pu}:D n ck (λe=>Gu (a e)) x a x:=λe _ E Q h=>kasC_pure h
theorem D.bind{α β:Type}{f:En->StateT Es Tw α}{k:En->α->StateT Es Tw β}{x y z:Pu}{a:En->α}{b:En->β}(h1:D n ck f x a y)(h2:D n ck (λe=>k e (a e)) y b z):D n ck (λe=>f e>>=k e) x b z:=
 λe o E Q h=>Qt (h1 e o E _ (h2 e o E Q h))
theorem D.get{x:Pu}:D n ck (λ_=>MonadState.get) x (λe=>BX e x) x:=λe _ E Q h=>kasC_get h
theorem D.modify{F:En->Es->Es}{x y:Pu}(h:∀e,F e (BX e x)=BX e y):D n ck (λe=>modify (F e)) x (λ_=>⟨⟩) y:=λe _ E Q q=>Qu (by rw[h e];exact q)
theorem D.rule{r:String}{x:Pu}:D n ck (λ_=>(liftM (PySem.rule r):StateT Es Tw Unit)) x (λ_=>()) x:=λe _ E Q q=>kasC_lift (Gy q)
theorem D.elem{q:Array Nat}{i:Nat}{x:Pu}(hi:i<q.size):D n ck (λe=>elem' (e.of q) i) x (λe=>e.at (q.getD i 0)) x:=λe _ E Q h=>by
 have b:(e.of q)[i]?=some (e.at (q.getD i 0)):=by
  have a:q.getD i 0=q[i]:=by simp[Gc,hi]
  rw[a];simp[En.of,En.at,hi]
 show kasC _ _ _ (elem' (e.of q) i) Q _ _;rw[elem'_eq,b];exact kasC_pure h
theorem D.lt{i j:Nat}{x:Pu}(hi:i<n)(a:j<n):D n ck (λe=>lt' (e.at i) (e.at j)) x (λ_=>some (ck i j)) x:=λe o E Q h=>by show kasC _ _ _ (lt' (e.at i) (e.at j)) Q _ _;rw[lt'_eq];refine Qt (kasC_get ?_);refine Qt (kasC_lift (Oa (Az (o i j hi a (λc s'=>c=ck i j/\s'=e.s) ⟨rfl,rfl⟩) (λc s' hc=>?_) λ_ _ b=>b.elim)));obtain⟨rfl,rfl⟩:=hc;exact kasC_pure h
theorem D.ltAt{i j:Nat}{x:Pu}(hi:i<x.p.size)(a:j<x.p.size)(bi:x.p.getD i 0<n)(b:x.p.getD j 0<n):D n ck (λ_=>ltAt' i j) x (λ_=>some (ck (x.p.getD i 0) (x.p.getD j 0))) x:=λe o E Q h=>by show kasC _ _ _ (ltAt' i j) Q _ _;rw[ltAt'_eq];refine Qt (kasC_get ?_);exact(D.bind (D.elem hi) (D.bind (D.elem a) (D.lt bi b)):D n ck (λe=>elem' (e.of x.p) i>>=λu=>elem' (e.of x.p) j>>=λv=>lt' u v) x _ x) e o E Q h
theorem D.rev{i j:Nat}{x:Pu}:D n ck (λ_=>reverseSlice' i j) x (λ_=>()) {x with p:=Ox x.p i j}:=λe o E Q h=>by show kasC _ _ _ (reverseSlice' i j) Q _ _;rw[reverseSlice'_eq];refine Qu ?_;have a:mirror (e.of x.p) i j ((j - i)/2)=e.of (mirror x.p i j ((j - i)/2)):=kas_swaps_map (Jf e.it) (λk=>i+k) (λk=>j - 1 - k) _ x.p;show Q () (Il e.κ (mirror (e.of x.p) i j ((j - i)/2)) x.pd x.g none) e.s;rw[a];exact h
theorem D.move{k l:Nat}{x:Pu}:D n ck (λ_=>moveDown' k l) x (λ_=>()) {x with p:=bubble x.p k (k - l)}:=λe o E Q h=>by show kasC _ _ _ (moveDown' k l) Q _ _;rw[moveDown'_eq];refine Qu ?_;have a:bubble (e.of x.p) k (k - l)=e.of (bubble x.p k (k - l)):=kas_swaps_map (Jf e.it) (λi=>k - i) (λi=>k - i - 1) _ x.p;show Q () (Il e.κ (bubble (e.of x.p) k (k - l)) x.pd x.g none) e.s;rw[a];exact h
theorem X.ret{α b:Type}{a:En->α}{x:Pu}{v:b->En->α}{R:b->Pu->Prop}(t:b)(h:R t x)(c:∀e,a e=v t e:=by intro e;rfl):X n ck (λe=>Gu (a e)) x v R:=
 ⟨t,x,h,by rw[show a=v t from funext c];exact D.pure⟩
theorem X.go{α β b:Type}{f:En->StateT Es Tw α}{k:En->α->StateT Es Tw β}{x y:Pu}{a:En->α}{v:b->En->β}{R:b->Pu->Prop}(h1:D n ck f x a y)(h2:X n ck (λe=>k e (a e)) y v R):X n ck (λe=>f e>>=k e) x v R:=by obtain⟨t,z,h,d⟩:=h2;exact⟨t,z,h,D.bind h1 d⟩
theorem X.bind{α β b a:Type}{f:En->StateT Es Tw α}{k:En->α->StateT Es Tw β}{x:Pu}{u:a->En->α}{S:a->Pu->Prop}{v:b->En->β}{R:b->Pu->Prop}(h1:X n ck f x u S)(h2:∀t y,S t y->X n ck (λe=>k e (u t e)) y v R):X n ck (λe=>f e>>=k e) x v R:=by obtain⟨t,y,h,d⟩:=h1;exact X.go d (h2 t y h)
noncomputable def sv{β a:Type}(v:a->En->β):a ⊕ a->En->ForInStep β
 |.inl t,e=>.yield (v t e)
 |.inr t,e=>.done (v t e)
def sR{a:Type}(I J:a->Pu->Prop):a ⊕ a->Pu->Prop
 |.inl t,x=>I t x
 |.inr t,x=>J t x
theorem X.loop{β a:Type}{v:a->En->β}{I:Nat->a->Pu->Prop}{J:a->Pu->Prop}{f:En->Nat->β->StateT Es Tw (ForInStep β)}(c:∀t x,I 0 t x->J t x):∀(l:List Nat) (t:a) (x:Pu),(∀i∈l,∀(k:Nat) (t:a) (x:Pu),I (k+1) t x->X n ck (λe=>f e i (v t e)) x (sv v) (sR (I k) J))->I l.length t x->X n ck (λe=>forIn l (v t e) (f e)) x v J
 |[],t,x,_,h=>⟨t,x,c t x h,λe o E Q q=>kasC_nil q⟩
 | i :: l,t,x,hs,h => by
  obtain⟨r,y,b,d⟩:=hs i Ap l.length t x h;cases r with
  |inr t'=>exact⟨t',y,b,λe o E Q q=>Qv (d e o E _ q)⟩
  |inl t'=>
   obtain⟨u,z,g,j⟩:=X.loop c l t' y (λi hi=>hs i (Ao _ hi)) b;exact⟨u,z,g,λe o E Q q=>Qv (d e o E _ (j e o E Q q))⟩
theorem X.range{β g:Type}{v:g->En->β}{I:Nat->g->Pu->Prop}{J:g->Pu->Prop}{f:En->Nat->β->StateT Es Tw (ForInStep β)}{a b:Nat}{t:g}{x:Pu}{c:En->β}(j:∀t x,I 0 t x->J t x)(l:I (b - a) t x)(hs:∀i,a<=i->i<b->∀(k:Nat) (t:g) (x:Pu),I (k+1) t x->X n ck (λe=>f e i (v t e)) x (sv v) (sR (I k) J))(hc:∀e,c e=v t e:=by intro e;rfl):X n ck (λe=>forIn [a:b] (c e) (f e)) x v J:=by
 rw[show c=v t from funext hc];obtain⟨u,z,h,d⟩:=X.loop j (Hj a (b - a)) t x (λi hi=>by have:=Kz.mp hi;exact hs i this.1 (by omega)) (by rw[List.length_range'];exact l)
 exact⟨u,z,h,λe o E Q q=>kasC_range (d e o E Q q)⟩
theorem X.yield{β b:Type}{v:b->En->β}{I J:b->Pu->Prop}{a:En->β}{x:Pu}(t:b)(h:I t x)(c:∀e,a e=v t e:=by intro e;rfl):X n ck (λe=>Gu (Cu (a e))) x (sv v) (sR I J):=
 X.ret (.inl t) h λe=>by rw[c e];rfl
theorem X.done{β b:Type}{v:b->En->β}{I J:b->Pu->Prop}{a:En->β}{x:Pu}(t:b)(h:J t x)(c:∀e,a e=v t e:=by intro e;rfl):X n ck (λe=>Gu (ForInStep.done (a e))) x (sv v) (sR I J):=
 X.ret (.inr t) h λe=>by rw[c e];rfl
end
section
variable{n:Nat}{ck:Nat->Nat->Bool}
theorem X.ite{α d:Type}{c:Prop}{f:En->Decidable c}{a b:En->StateT Es Tw α}{x:Pu}{v:d->En->α}{R:d->Pu->Prop}(h1:c->X n ck a x v R)(h2:¬c->X n ck b x v R):X n ck (λe=> @_root_.ite _ c (f e) (a e) (b e)) x v R:=by
 by_cases h:c
 ·simpa only[if_pos h] using h1 h
 ·simpa only[if_neg h] using h2 h
theorem X.loopI{β b:Type}{v:b->En->β}{I:Nat->b->Pu->Prop}{J:b->Pu->Prop}{f:En->Nat->β->StateT Es Tw (ForInStep β)}:∀(c a:Nat) (t:b) (x:Pu),(∀t x,I (a+c) t x->J t x)->(∀i,a<=i->i<a+c->∀(t:b) (x:Pu),I i t x->X n ck (λe=>f e i (v t e)) x (sv v) (sR (I (i+1)) J))->I a t x->X n ck (λe=>forIn (Hj a c) (v t e) (f e)) x v J
 |0,a,t,x,g,_,h=>⟨t,x,g t x h,λe o E Q q=>kasC_nil q⟩
 | c + 1,a,t,x,g,hs,h => by
  obtain⟨r,y,j,d⟩:=hs a (Ak _) (by lia) t x h;cases r with
  |inr t'=>exact⟨t',y,j,λe o E Q q=>Qv (d e o E _ q)⟩
  |inl t'=>
   obtain⟨u,z,k,l⟩:=X.loopI c (a+1) t' y (λt x h=>g t x (by rwa[Nat.add_right_comm] at h)) (λi h1 h2=>hs i (by lia) (by lia)) j;exact⟨u,z,k,λe o E Q q=>Qv (d e o E _ (l e o E Q q))⟩
theorem X.rangeI{β g:Type}{v:g->En->β}{I:Nat->g->Pu->Prop}{J:g->Pu->Prop}{f:En->Nat->β->StateT Es Tw (ForInStep β)}{a b:Nat}{t:g}{x:Pu}{c:En->β}(k:a<=b)(j:∀t x,I b t x->J t x)(l:I a t x)(hs:∀i,a<=i->i<b->∀(t:g) (x:Pu),I i t x->X n ck (λe=>f e i (v t e)) x (sv v) (sR (I (i+1)) J))(hc:∀e,c e=v t e:=by intro e;rfl):X n ck (λe=>forIn [a:b] (c e) (f e)) x v J:=by
 rw[show c=v t from funext hc];have hb:a+(b - a)=b:=by lia
 obtain⟨u,z,h,d⟩:=X.loopI (I:=I) (b - a) a t x (by rw[hb];exact j) (by rw[hb];exact hs) l;exact⟨u,z,h,λe o E Q q=>kasC_range (d e o E Q q)⟩
def Pm(n:Nat)(p:Array Nat):Prop:=p.toList.Perm (Au n)
theorem Pm.sz{p:Array Nat}(h:Pm n p):p.size=n:=by have:=h.length_eq;simpa using this
theorem Pm.lt{p:Array Nat}(h:Pm n p){i:Nat}(hi:i<n):p.getD i 0<n:=by
 have hs:=h.sz;have a:i<p.size:=by lia
 have e:p.getD i 0=p[i]:=by simp[Gc,a]
 rw[e];exact Cr.mp (h.mem_iff.mp (by simp))
theorem Pm.rev{p:Array Nat}(h:Pm n p)(i j:Nat):Pm n (Ox p i j):=Jt (Ke.mp (mirror_perm p i j _)) h
theorem Pm.move{p:Array Nat}(h:Pm n p)(i j:Nat):Pm n (bubble p i j):=Jt (Ke.mp (bubble_perm p i j)) h
theorem Pm.cmp{x:Pu}(h:Pm n x.p){i j:Nat}(hi:i<n)(a:j<n):D n ck (λ_=>ltAt' i j) x (λ_=>some (ck (x.p.getD i 0) (x.p.getD j 0))) x:=
 D.ltAt (by rw[h.sz];exact hi) (by rw[h.sz];exact a) (h.lt hi) (h.lt a)
theorem X.st{α a:Type}{f:En->StateT Es Tw α}{x z:Pu}{v:a->En->α}{R:a->Pu->Prop}{P:Pu->Pu->Prop}(h:∀z,P x z->X n ck f z v R)(b:P x z):X n ck f z v R:=h z b
end
noncomputable abbrev lk(ky:Nat->Nat)(i j:Nat):Bool:=decide (ky i<ky j)
section
variable{n:Nat}{ky:Nat->Nat}
noncomputable abbrev kt(ky:Nat->Nat)(p:Array Nat)(i:Nat):Nat:=ky (p.getD i 0)
def So(ky:Nat->Nat)(p:Array Nat)(i j:Nat):Prop:=∀a b,i<=a->a<b->b<j->kt ky p a<=kt ky p b
def Ni(ky:Nat->Nat)(p:Array Nat)(i j:Nat):Prop:=∀a b,i<=a->a<b->b<j->kt ky p b<=kt ky p a
def Eqs(ky:Nat->Nat)(p:Array Nat)(i j:Nat):Prop:=∀a,i<=a->a<j->kt ky p a=kt ky p (j - 1)
theorem So.more{p:Array Nat}{i j:Nat}(h:So ky p i j)(d:i<j->kt ky p (j - 1)<=kt ky p j):So ky p i (j+1):=λa b h1 h2 g=>by
 by_cases e:b=j
 ·subst e
  have c:=d (by lia);by_cases f:a=b - 1
  ·rw[f];exact c
  ·exact Ce (h a (b - 1) h1 (by lia) (by lia)) c
 ·exact h a b h1 h2 (by lia)
theorem Ni.more{p:Array Nat}{i j:Nat}(h:Ni ky p i j)(d:i<j->kt ky p j<=kt ky p (j - 1)):Ni ky p i (j+1):=λa b h1 h2 g=>by
 by_cases e:b=j
 ·subst e
  have c:=d (by lia);by_cases f:a=b - 1
  ·rw[f];exact c
  ·exact Ce c (h a (b - 1) h1 (by lia) (by lia))
 ·exact h a b h1 h2 (by lia)
theorem So.one{p:Array Nat}{i:Nat}:So ky p i (i+1):=λa b h1 h2 c=>by lia
theorem JT{p:Array Nat}{i j:Nat}(a:j<=p.size)(t:Nat):(Ox p i j).getD t 0=if i<=t/\t<j then p.getD (i+j - 1 - t) 0 else p.getD t 0:=by have e:=getElem?_mirror_all (i:=i) a t;simp only[Gv];show((mirror p i j ((j - i)/2))[t]?).getD 0=_;rw[e];split<;>rfl
theorem lA{p:Array Nat}{s d:Nat}(hs:s<p.size)(a:d<=s)(t:Nat):(bubble p s d).getD t 0=if t=s - d then p.getD s 0 else if s - d<t/\t<=s then p.getD (t - 1) 0 else p.getD t 0:=by
 have e:=getElem?_bubble hs d a t;simp only[Gv];rw[e];split
 ·rfl
 ·split<;>rfl
theorem Eqs.rev{p:Array Nat}{i j:Nat}(h:Eqs ky p i j)(a:j<=p.size)(t:Nat):kt ky (Ox p i j) t=kt ky p t:=by
 unfold kt;rw[JT a];split
 ·exact(h _ (by lia) (by lia)).trans (h t (by lia) (by lia)).symm
 ·rfl
theorem Ni.rev{p:Array Nat}{i j:Nat}(h:Ni ky p i j)(c:j<=p.size):So ky (Ox p i j) i j:=λa b h1 h2 d=>by unfold kt;rw[JT c,JT c,if_pos (by lia),if_pos (by lia)];exact h _ _ (by lia) (by lia) (by lia)
theorem Ni.same{p q:Array Nat}{i j:Nat}(h:Ni ky p i j)(e:∀t,kt ky q t=kt ky p t):Ni ky q i j:=λa b h1 h2 c=>by rw[e,e];exact h a b h1 h2 c
def Kq(n lo:Nat)(x y:Pu):Prop:=Pm n y.p/\y.pd=x.pd/\∀i,i<lo->y.p.getD i 0=x.p.getD i 0
theorem Kq.rev{lo i j:Nat}{x y:Pu}(h:Kq n lo x y)(hi:lo<=i)(b:j<=n):Kq n lo x {y with p:=Ox y.p i j}:=
 ⟨h.1.rev _ _,h.2.1,λt a=>by show(Ox y.p i j).getD t 0=_;rw[JT (by rw[h.1.sz];exact b),if_neg (by lia)];exact h.2.2 t a⟩
theorem Zx{lo m:Nat}{x:Pu}(w:Pm n x.p)(h1:1<=m)(L:lo+m<=n):X n (lk ky) (λ_=>countRun' lo m) x (λt _=>some t) (λt y=>1<=t/\t<=m/\Kq n lo x y/\So ky y.p lo (lo+t)):=by
 refine X.bind (u:=λ(t:Nat) _=>(none,t)) (S:=λt y=>1<=t/\t<=m/\y=x/\So ky x.p lo (lo+t)/\(t=m∨kt ky x.p (lo+t)<kt ky x.p (lo+t - 1))) ?_ ?_
 ·refine X.range (I := λk t y => 1 <= t /\ t + k = m /\ y = x /\ So ky x.p lo (lo + t)) (t := 1) (λt y h => ⟨h.1,by lia,h.2.2.1,h.2.2.2,.inl h.2.1⟩) ⟨by lia,by lia,rfl,So.one⟩ λi _ _ k t y ⟨f,g,c,d⟩ => ?_
  subst c;refine X.go (w.cmp (by lia) (by lia)) ?_;refine X.ite (λq=>X.done t ⟨f,by lia,rfl,d,.inr (of_decide_eq_true q)⟩) λq=>X.yield (t+1) ⟨by lia,by lia,rfl,d.more λ_=>Eb λz=>q (decide_eq_true z)⟩
 ·rintro t y ⟨f,g,rfl,c,d⟩
  have s:Kq n lo y y:=⟨w,rfl,λ_ _=>rfl⟩;have hsz:=w.sz;refine X.ite (λ_=>X.ret t ⟨f,g,s,c⟩) λq0=>?_;have q1:t≠m:=λz=>q0 (by rw[z];exact beq_self_eq_true _);have d:kt ky y.p (lo+t)<kt ky y.p (lo+t - 1):=d.resolve_left q1;refine X.ite (λq2=>X.go (w.cmp (by lia) (by lia)) (X.ite (λ_=>X.ret t ⟨f,g,s,c⟩) λq3=>X.go D.rev (X.st (P:=λy z=>Kq n lo y z/\Ni ky z.p lo (lo+t+1)) (x:=y) ?_ ?_))) λq2=>X.st (P:=λy z=>Kq n lo y z/\Ni ky z.p lo (lo+t+1)) (x:=y) ?_ ⟨s,λa b h1 h2 E=>?_⟩;rotate_left
  ·have q3 : kt ky y.p (lo + t - 1) <= kt ky y.p lo := Eb λz => q3 (decide_eq_true z)
   have C:∀a,lo<=a->a<lo+t->kt ky y.p a=kt ky y.p (lo+t - 1):=λa K a2=>by
    have J:kt ky y.p lo<=kt ky y.p a:=by
     by_cases e:a=lo
     ·rw[e];exact Ak _
     ·exact c lo a (Ak _) (by lia) a2
    have H:kt ky y.p a<=kt ky y.p (lo+t - 1):=by
     by_cases e:a=lo+t - 1
     ·rw[e];exact Ak _
     ·exact c a _ K (by lia) (by lia)
    exact Ju H (Ce q3 J)
   refine⟨s.rev (Ak _) (by lia),Ni.same (p:=y.p) (Ni.more (λa b h1 h2 E=>?_) λ_=>Dg d) (Eqs.rev C (by lia))⟩;rw[C a h1 (by lia),C b (by lia) E];exact Ak _
  rotate_left
  ·obtain rfl : t = 1 := by dsimp only at q2;lia
   obtain rfl:a=lo:=by lia
   obtain rfl:b=a+1:=by lia
   exact Dg d
  all_goals
   rintro z ⟨v,B⟩;refine X.go D.rule ?_;refine X.bind (u:=λ(t:Nat×Nat) _=>(none,t)) (S:=λt z=>1<=t.1/\t.1<=m/\Kq n lo y z/\Ni ky z.p lo (lo+t.1)/\t.2<t.1/\Eqs ky z.p (lo+t.1 - (t.2+1)) (lo+t.1)) ?_ ?_
   ·refine X.range (I := λk t z => 1 <= t.1 /\ t.1 + k = m /\ Kq n lo y z /\ Ni ky z.p lo (lo + t.1) /\ t.2 < t.1 /\ Eqs ky z.p (lo + t.1 - (t.2 + 1)) (lo + t.1)) (t := (t + 1,0)) (λt y h => ⟨h.1,by lia,h.2.2⟩) ⟨by lia,by dsimp only;lia,v,B,by dsimp only;lia,λa h1 h2 => by congr 1;dsimp only at h1 h2 ⊢;congr 1;lia⟩ λi _ _ k t z ⟨f,g,c,d,A,l⟩ => ?_
    obtain⟨t,q⟩:=t;dsimp only at f g d A l;have o:=c.1.sz;refine X.go (c.1.cmp (by dsimp only;lia) (by dsimp only;lia)) ?_;refine X.ite (λj=>?_) λj=>?_
    ·have j:kt ky z.p (lo+t)<kt ky z.p (lo+t - 1):=of_decide_eq_true j
     have F:∀(p:Array Nat),Eqs ky p (lo+(t+1) - (0+1)) (lo+(t+1)):=λp a h1 h2=>by congr 2;lia
     have G:=d.more λ_=>Dg j;refine X.ite (λ_=>X.go D.rev (X.yield (t+1,0) ⟨by dsimp only;lia,by dsimp only;lia,c.rev (by lia) (by lia),G.same (l.rev (by lia)),by dsimp only;lia,F _⟩)) λ_=>X.yield (t+1,0) ⟨by dsimp only;lia,by dsimp only;lia,c,G,by dsimp only;lia,F _⟩
    ·have j : kt ky z.p (lo + t - 1) <= kt ky z.p (lo + t) := Eb λz => j (decide_eq_true z)
     refine X.go (c.1.cmp (by dsimp only;lia) (by dsimp only;lia)) ?_;refine X.ite (λ_=>X.done (t,q) ⟨f,by dsimp only;lia,c,d,A,l⟩) λr=>X.yield (t+1,q+1) ⟨by dsimp only;lia,by dsimp only;lia,c,?_,by dsimp only;lia,λa h1 h2=>?_⟩;all_goals have r:kt ky z.p (lo+t)<=kt ky z.p (lo+t - 1):=Eb λz=>r (decide_eq_true z)
     ·exact d.more λ_=>r
     ·dsimp only at h1 h2⊢
      rw[show lo+(t+1) - 1=lo+t by lia];by_cases e:a=lo+t
      ·rw[e]
      ·rw [l a (by lia) (by lia)]
       exact Ju j r
   ·rintro ⟨t,q⟩ z ⟨f,g,c,d,A,l⟩
    dsimp only at f g d A l;have o:=c.1.sz;refine X.ite (λ_=>X.go D.rev (X.st (P:=λy z=>Kq n lo y z/\Ni ky z.p lo (lo+t)) (x:=y) ?_ ⟨c.rev (by lia) (by lia),d.same (l.rev (by lia))⟩)) λ_=>X.st (P:=λy z=>Kq n lo y z/\Ni ky z.p lo (lo+t)) (x:=y) ?_ ⟨c,d⟩
    all_goals
     rintro z ⟨v,B⟩;have o:=v.1.sz;refine X.go D.rev ?_;refine X.bind (u:=λ(t:Nat) _=>(none,t)) (S:=λt z=>1<=t/\t<=m/\Kq n lo y z/\So ky z.p lo (lo+t)) ?_ λt z h=>X.ret t h;refine X.range (I:=λk t z=>1<=t/\t+k=m/\Kq n lo y z/\So ky z.p lo (lo+t)) (t:=t) (λt y h=>⟨h.1,by lia,h.2.2⟩) ⟨by lia,by dsimp only;lia,v.rev (Ak _) (by lia),B.rev (by lia)⟩ λi _ _ k t y ⟨f,g,c,d⟩=>?_;refine X.go (c.1.cmp (by lia) (by lia)) ?_;exact X.ite (λ_=>X.done t ⟨f,by lia,c,d⟩) λq=>X.yield (t+1) ⟨by lia,by lia,c,d.more λ_=>Eb λz=>q (decide_eq_true z)⟩
theorem bin{lo m ok:Nat}{x:Pu}(A:Pm n x.p)(F:lo+m<=n)(o1:1<=ok)(o2:ok<=m)(hs:So ky x.p lo (lo+ok)):X n (lk ky) (λ_=>binarySort' lo m ok) x (λ(_:Unit) _=>true) (λ_ y=>Kq n lo x y/\So ky y.p lo (lo+m)):=by
 refine X.bind (u:=λ(_:Unit) _=>(none,())) (S:=λ_ y=>Kq n lo x y/\So ky y.p lo (lo+m)) ?_ λt z h=>X.ret () h;refine X.rangeI (I:=λi _ z=>Kq n lo x z/\So ky z.p lo (lo+i)) (t:=()) (by lia) (λt y h=>h) ⟨⟨A,rfl,λ_ _=>rfl⟩,by rw[Nat.max_eq_left o1];exact hs⟩ λj E C t y ⟨g,o⟩=>?_;have hsz:=g.1.sz;refine X.bind (u:=λ(t:Nat×Nat) _=>(none,t)) (S:=λt z=>t.1=t.2/\t.2<=j/\z=y/\(∀a,lo<=a->a<lo+t.1->kt ky y.p a<=kt ky y.p (lo+j))/\∀a,lo+t.2<=a->a<lo+j->kt ky y.p (lo+j)<=kt ky y.p a) ?_ ?_
 ·refine X.range (I := λc t z => t.1 <= t.2 /\ t.2 <= j /\ t.2 <= t.1 + c /\ z = y /\ (∀ a,lo <= a -> a < lo + t.1 -> kt ky y.p a <= kt ky y.p (lo + j)) /\ ∀ a,lo + t.2 <= a -> a < lo + j -> kt ky y.p (lo + j) <= kt ky y.p a) (t := (0,j)) (λt y h => ⟨by lia,h.2.1,h.2.2.2⟩) ⟨by dsimp only;lia,Ak _,by dsimp only;lia,rfl,λa h1 h2 => by dsimp only at h2;lia,λa h1 h2 => by dsimp only at h1;lia⟩ λi _ _ k t z ⟨f1,f2,f3,B,f,d⟩ => ?_
  obtain⟨l,r⟩:=t;dsimp only at f1 f2 f3 f d;subst B;refine X.ite (λq=>X.done (l,r) ⟨by dsimp only at q⊢;lia,f2,rfl,f,d⟩) λq=>?_;dsimp only at q;refine X.go (g.1.cmp (by lia) (by dsimp only;lia)) ?_;refine X.ite (λq2=>X.yield (l,(l+r)/2) ⟨by dsimp only;lia,by dsimp only;lia,by dsimp only;lia,rfl,f,λa h1 h2=>?_⟩) λq2=>X.yield ((l+r)/2+1,r) ⟨by dsimp only;lia,f2,by dsimp only;lia,rfl,λa h1 h2=>?_,d⟩
  ·have q2:kt ky z.p (lo+j)<kt ky z.p (lo+(l+r)/2):=of_decide_eq_true q2
   dsimp only at h1;by_cases e:a=lo+(l+r)/2
   ·rw[e];exact Dg q2
   ·exact Ce (Dg q2) (o _ a (by lia) (by lia) (by lia))
  ·have q2 : kt ky z.p (lo + (l + r) / 2) <= kt ky z.p (lo + j) := Eb λz => q2 (decide_eq_true z)
   dsimp only at h2;by_cases e:a=lo+(l+r)/2
   ·rw[e];exact q2
   ·exact Ce (o a _ h1 (by lia) (by lia)) q2
 ·rintro ⟨l,r⟩ z ⟨f1,f2,rfl,f,d⟩
  dsimp only at f1 f2 f d;subst f1;have s:∀t,(bubble z.p (lo+j) (lo+j - (lo+l))).getD t 0=if t=lo+l then z.p.getD (lo+j) 0 else if lo+l<t/\t<=lo+j then z.p.getD (t - 1) 0 else z.p.getD t 0:=λt=>by rw[lA (by lia) (by lia),show lo+j - (lo+j - (lo+l))=lo+l by lia]
  refine X.go D.move (X.yield () ⟨⟨g.1.move _ _,g.2.1,λi hi=>?_⟩,λa b h1 h2 G=>?_⟩)
  ·show(bubble z.p (lo+j) (lo+j - (lo+l))).getD i 0=_
   rw[s,if_neg (by lia),if_neg (by lia)];exact g.2.2 i hi
  ·show ky ((bubble z.p (lo+j) (lo+j - (lo+l))).getD a 0)<=ky ((bubble z.p (lo+j) (lo+j - (lo+l))).getD b 0)
   rw[s,s];by_cases w:a<lo+l
   ·rw [if_neg (by lia),if_neg (by lia)]
    by_cases v:b=lo+l
    ·rw[if_pos v];exact f a h1 w
    ·rw[if_neg v]
     split
     ·exact Ce (f a h1 w) (d _ (by lia) (by lia))
     ·exact o a b h1 h2 (by lia)
   ·rw [if_neg (show ¬ b = lo + l by lia),if_pos (show lo + l < b /\ b <= lo + j by lia)]
    by_cases a2:a=lo+l
    ·rw[if_pos a2];exact d _ (by lia) (by lia)
    ·rw [if_neg a2,if_pos (by lia)]
     exact o _ _ (by lia) (by lia) (by lia)
end
def CP:Bool->Keyed->Array Keyed->Nat->Nat->Nat->StateT Es Tw (Option Nat):=sortPriv% PySem.Builtin.gallop
def GX:Array Keyed->Array Keyed->StateT Es Tw (Array Keyed):=sortPriv% PySem.Builtin.mergeLo
def GW:Array Keyed->Array Keyed->StateT Es Tw (Array Keyed):=sortPriv% PySem.Builtin.mergeHi
section
variable{n:Nat}{ky:Nat->Nat}
noncomputable def bey(left:Bool)(key:Nat)(q:Array Nat)(i:Nat)(e:En):StateT Es Tw (Option Bool):=
 elem' (e.of q) i>>=λz=>if left=true then lt' z (e.at key) else lt' (e.at key) z>>=λr=>pure (r.map (λb=> !b))
noncomputable def kl(left:Bool)(v:Nat):Nat:=if left=true then v else v+1
theorem cZ{left:Bool}{key:Nat}{q:Array Nat}{x:Pu}(b:key<n){i:Nat}(hi:i<q.size)(a:q.getD i 0<n):D n (lk ky) (bey left key q i) x (λ_=>some (decide (kt ky q i<kl left (ky key)))) x:=by
 cases left with
 |true=>exact D.bind (D.elem hi) (D.lt a b)
 |false=>
  have e:decide (kt ky q i<kl false (ky key))= !(lk ky key (q.getD i 0)):=by show decide (kt ky q i<ky key+1)= !(decide (ky key<ky (q.getD i 0)));rw[<-decide_not];exact decide_eq_decide.mpr (by unfold kt;lia)
  rw[e];exact D.bind (D.elem hi) (D.bind (D.lt b a) D.pure)
def Cut(ky:Nat->Nat)(q:Array Nat)(b m v l h:Nat):Prop:=l<=h/\h<=m/\(∀i,i<l->kt ky q (b+i)<v)/\∀i,h<=i->i<m->v<=kt ky q (b+i)
theorem gal{left:Bool}{key:Nat}{q:Array Nat}{b m h:Nat}{x:Pu}(F:key<n)(C:h<m)(hb:b+m<=q.size)(E:∀i,i<q.size->q.getD i 0<n)(hs:So ky q b (b+m)):X n (lk ky) (λe=>CP left (e.at key) (e.of q) b m h) x (λt _=>some t) (λt y=>Cut ky q b m (kl left (ky key)) t t/\y=x):=by
 have ask:∀i,i<m->D n (lk ky) (bey left key q (b+i)) x (λ_=>some (decide (kt ky q (b+i)<kl left (ky key)))) x:=λi hi=>cZ F (by lia) (E _ (by lia));generalize kl left (ky key)=v at ask;have dn:∀i j,i<=j->j<m->kt ky q (b+j)<v->kt ky q (b+i)<v:=λi j h1 h2 s=>by
  by_cases e:i=j
  ·rw[e];exact s
  ·exact Ny (hs (b+i) (b+j) (by lia) (by lia) (by lia)) s
 have r:∀i j,i<=j->j<m->¬kt ky q (b+i)<v->v<=kt ky q (b+j):=λi j h1 h2 s=>Eb λz=>s (dn i j h1 h2 z);refine X.go (ask h C) ?_;refine X.ite (λc=>?_) λc=>?_
 ·have c:kt ky q (b+h)<v:=of_decide_eq_true c
  refine X.bind (u:=λ(t:Nat×Nat) _=>(none,t)) (S:=λt z=>z=x/\t.1<t.2/\h+t.1<m/\kt ky q (b+(h+t.1))<v/\(m<=h+t.2∨¬kt ky q (b+(h+t.2))<v)) ?_ ?_
  ·refine X.range (I := λc t z => z = x /\ t.1 < t.2 /\ h + t.1 < m /\ kt ky q (b + (h + t.1)) < v /\ m <= h + t.2 + c) (t := (0,1)) (λt y h => ⟨h.1,h.2.1,h.2.2.1,h.2.2.2.1,.inl h.2.2.2.2⟩) ⟨rfl,Nat.one_pos,C,c,by dsimp only;lia⟩ λi _ _ k t z ⟨w,g,f,d,a⟩ => ?_
   obtain⟨l,o⟩:=t;dsimp only at g f d a;subst w;refine X.ite (λq=>X.done (l,o) ⟨rfl,g,f,d,.inl (by dsimp only at q⊢;lia)⟩) λq=>?_;dsimp only at q;refine X.go (ask (h+o) (by lia)) (X.ite (λq2=>X.done (l,o) ⟨rfl,g,f,d,.inr λz=>?_⟩) λq2=>X.yield (o,2*o+1) ⟨rfl,by dsimp only;lia,by dsimp only;lia,?_,by dsimp only;lia⟩)
   ·have z:kt ky _ (b+(h+o))<v:=z
    rw[decide_eq_true z] at q2;exact absurd q2 (by simp)
   ·exact Kn λz=>q2 (by rw[decide_eq_false z];rfl)
  ·rintro ⟨l,o⟩ z ⟨rfl,g,f,d,a⟩
   dsimp only at g f d a;refine X.bind (u:=λ(t:Nat×Nat) _=>(none,t)) (S:=λt y=>Cut ky q b m v t.2 t.2/\y=z) ?_ λt y h=>X.ret t.2 h;refine X.range (I:=λc t y=>Cut ky q b m v t.1 t.2/\t.2<=t.1+c/\y=z) (t:=(h+l+1,h+min o (m - h))) (λt y h=>⟨by rw[show t.1=t.2 from Ju h.1.1 h.2.1] at h;exact h.1,h.2.2⟩) ⟨⟨by lia,by lia,λi hi=>dn i (h+l) (by lia) f d,λi h1 h2=>?_⟩,by dsimp only;lia,rfl⟩ λi _ _ k t y ⟨⟨f1,f2,f3,p⟩,B,A⟩=>?_
   ·rcases a with a|a
    ·dsimp only at h1;lia
    ·by_cases e:m<=h+o
     ·dsimp only at h1;lia
     ·exact r (h+o) i (by dsimp only at h1;lia) h2 a
   ·obtain⟨lo,hi⟩:=t
    subst A;dsimp only at f1 f2 f3 p B;refine X.ite (λq=>X.done (lo,hi) ⟨by dsimp only at q⊢;rw[show lo=hi by lia] at f3;exact⟨Ak _,f2,f3,p⟩,rfl⟩) λq=>?_;dsimp only at q;refine X.go (ask (lo+(hi - lo)/2) (by lia)) (X.ite (λq2=>X.yield (lo+(hi - lo)/2+1,hi) ⟨⟨by dsimp only;lia,f2,λi hi=>dn i _ (by dsimp only at hi;lia) (by lia) (of_decide_eq_true q2),p⟩,by dsimp only;lia,rfl⟩) λq2=>X.yield (lo,lo+(hi - lo)/2) ⟨⟨by dsimp only;lia,by dsimp only;lia,f3,λi h1 h2=>r _ i h1 h2 λz=>q2 (decide_eq_true z)⟩,by dsimp only;lia,rfl⟩)
 ·have c : ¬ kt ky q (b + h) < v := λz => c (decide_eq_true z)
  refine X.bind (u:=λ(t:Nat×Nat) _=>(none,t)) (S:=λt z=>z=x/\t.1<t.2/\t.1<=h/\¬kt ky q (b+(h - t.1))<v/\(h<t.2∨kt ky q (b+(h - t.2))<v)) ?_ ?_
  ·refine X.range (I := λc t z => z = x /\ t.1 < t.2 /\ t.1 <= h /\ ¬ kt ky q (b + (h - t.1)) < v /\ h < t.2 + c) (t := (0,1)) (λt y h => ⟨h.1,h.2.1,h.2.2.1,h.2.2.2.1,.inl h.2.2.2.2⟩) ⟨rfl,Nat.one_pos,Cy _,c,by dsimp only;lia⟩ λi _ _ k t z ⟨w,g,f,d,a⟩ => ?_
   obtain⟨l,o⟩:=t;dsimp only at g f d a;subst w;refine X.ite (λq=>X.done (l,o) ⟨rfl,g,f,d,.inl (by dsimp only at q⊢;lia)⟩) λq=>?_;dsimp only at q;exact X.go (ask (h - o) (by lia)) (X.ite (λq2=>X.done (l,o) ⟨rfl,g,f,d,.inr (of_decide_eq_true q2)⟩) λq2=>X.yield (o,2*o+1) ⟨rfl,by dsimp only;lia,by dsimp only;lia,λz=>q2 (decide_eq_true z),by dsimp only;lia⟩)
  ·rintro ⟨l,o⟩ z ⟨rfl,g,f,d,a⟩
   dsimp only at g f d a;refine X.bind (u:=λ(t:Nat×Nat) _=>(none,t)) (S:=λt y=>Cut ky q b m v t.2 t.2/\y=z) ?_ λt y h=>X.ret t.2 h;refine X.range (I:=λc t y=>Cut ky q b m v t.1 t.2/\t.2<=t.1+c/\y=z) (t:=(h+1 - min o (h+1),h - l)) (λt y h=>⟨by rw[show t.1=t.2 from Ju h.1.1 h.2.1] at h;exact h.1,h.2.2⟩) ⟨⟨by lia,by dsimp only;lia,λi hi=>?_,λi h1 h2=>r (h - l) i h1 h2 d⟩,by dsimp only;lia,rfl⟩ λi _ _ k t y ⟨⟨f1,f2,f3,p⟩,B,A⟩=>?_
   ·rcases a with a|a
    ·dsimp only at hi;lia
    ·exact dn i (h - o) (by dsimp only at hi;lia) (by lia) a
   ·obtain⟨lo,hi⟩:=t
    subst A;dsimp only at f1 f2 f3 p B;refine X.ite (λq=>X.done (lo,hi) ⟨by dsimp only at q⊢;rw[show lo=hi by lia] at f3;exact⟨Ak _,f2,f3,p⟩,rfl⟩) λq=>?_;dsimp only at q;refine X.go (ask (lo+(hi - lo)/2) (by lia)) (X.ite (λq2=>X.yield (lo+(hi - lo)/2+1,hi) ⟨⟨by dsimp only;lia,f2,λi hi=>dn i _ (by dsimp only at hi;lia) (by lia) (of_decide_eq_true q2),p⟩,by dsimp only;lia,rfl⟩) λq2=>X.yield (lo,lo+(hi - lo)/2) ⟨⟨by dsimp only;lia,by dsimp only;lia,f3,λi h1 h2=>r _ i h1 h2 λz=>q2 (decide_eq_true z)⟩,by dsimp only;lia,rfl⟩)
end
section
variable{n:Nat}{ck:Nat->Nat->Bool}
theorem X.eqSize{α c:Type}{m:Nat}{q:Array Nat}{a b:En->StateT Es Tw α}{x:Pu}{v:c->En->α}{R:c->Pu->Prop}(h1:m=q.size->X n ck a x v R)(h2:m≠q.size->X n ck b x v R):X n ck (λe=>if(m==(e.of q).size)=true then a e else b e) x v R:=by simp only[En.of,Array.size_map];exact X.ite (λh=>h1 (by simpa using h)) λh=>h2 (by simpa using h)
theorem X.rangeE{β a:Type}{v:a->En->β}{I:Nat->a->Pu->Prop}{J:a->Pu->Prop}{f:En->Nat->β->StateT Es Tw (ForInStep β)}{b:En->Nat}{t:a}{x:Pu}{c:En->β}(g:Nat)(hb:∀e,b e=g)(l:∀t x,I 0 t x->J t x)(m:I g t x)(hs:∀(k:Nat) (t:a) (x:Pu),k<g->I (k+1) t x->∀i,X n ck (λe=>f e i (v t e)) x (sv v) (sR (I k) J))(hc:∀e,c e=v t e:=by intro e;rfl):X n ck (λe=>forIn [0:b e] (c e) (f e)) x v J:=by
 rw[show b=λ_=>g from funext hb];refine X.range (I:=λk t x=>k<=g/\I k t x) (λt x h=>l t x h.2) ⟨by lia,m⟩ (λi _ _ k t x h=>?_) hc;obtain⟨r,y,j,d⟩:=hs k t x (by lia) h.2 i;refine⟨r,y,?_,d⟩;cases r with
 |inl t=>exact⟨by lia,j⟩
 |inr t=>exact j
def gG:Nat->StateT Es Tw Unit:=sortPriv% PySem.Builtin.setMinGallop
theorem D.setMin{g:Nat}{x:Pu}:D n ck (λ_=>gG g) x (λ_=>()) {x with g:=g}:=D.modify (F:=λ_ s=>_) λe=>rfl
end
section
variable{n:Nat}{ky:Nat->Nat}
theorem galE{left:Bool}{key:Nat}{q:Array Nat}{b h:Nat}{m:En->Nat}{x:Pu}(c:Nat)(f:∀e,m e=c)(g:key<n)(j:h<c)(hb:b+c<=q.size)(d:∀i,i<q.size->q.getD i 0<n)(hs:So ky q 0 q.size):X n (lk ky) (λe=>CP left (e.at key) (e.of q) b (m e) h) x (λt _=>some t) (λt y=>Cut ky q b c (kl left (ky key)) t t/\y=x):=by rw[show m=λ_=>c from funext f];exact gal g j hb d λa b h1 h2 k=>hs a b (by lia) h2 (by lia)
def Ss(ky:Nat->Nat)(l:List Nat):Prop:=l.Pairwise λi j=>ky i<=ky j
theorem So.ss{a:Array Nat}(h:So ky a 0 a.size):Ss ky a.toList:=by
 refine Hf.mpr λi j hi c b=>?_;have e:∀i,(h:i<a.toList.length)->a.toList[i]=a.getD i 0:=λi h=>by simp[Gc,show i<a.size from h]
 rw[e,e];exact h i j (Cy _) b c
theorem FR{x:Nat}{o l:List Nat}(h:Ss ky (o++l))(h1:∀y∈o,ky y<=ky x)(h2:∀y∈l,ky x<=ky y):Ss ky (o++([x]++l)):=by
 obtain⟨f,e,d⟩:=Eo.mp h;refine Eo.mpr ⟨f,Fd.mpr ⟨h2,e⟩,λa c b hb=>?_⟩;rcases Ai.mp hb with rfl|hb
 ·exact h1 a c
 ·exact d a c b hb
theorem NL{x:Nat}{o l:List Nat}(h:Ss ky (o++x::l)):(∀y∈o,ky y<=ky x)/\∀y∈l,ky x<=ky y:=by obtain⟨d,c,b⟩:=Eo.mp h;exact⟨λy a=>b y a x Ap,(Fd.mp c).1⟩
def Iv(ky:Nat->Nat)(a b o:Array Nat)(ia ib:Nat):Prop:=o.toList.Perm (a.toList.take ia++b.toList.take ib)/\Ss ky (o.toList++a.toList.drop ia)/\Ss ky (o.toList++b.toList.drop ib)
theorem SR{a:Array Nat}{i:Nat}(h:i<a.size):a.toList.drop i=a.getD i 0::a.toList.drop (i+1):=by
 have e:a.getD i 0=a[i]:=by simp[Gc,h]
 rw[e,Cq (by simpa using h)];simp
theorem Q3{a:Array Nat}{i:Nat}(h:i<a.size):a.toList.take (i+1)=a.toList.take i++[a.getD i 0]:=by
 have e:a.getD i 0=a[i]:=by simp[Gc,h]
 rw[e,Rh];simp[h]
theorem XD(a:Array Nat)(i j:Nat):(a.extract i j).toList=(a.toList.take j).drop i:=by simp[Ri]
theorem mT{a:Array Nat}{i j:Nat}(h:i<=j)(b:j<a.size):a.extract i (j+1)=(a.extract i j).push (a.getD j 0):=by apply Iy.mp;rw[Fh,XD,XD,Q3 b,List.drop_append_of_le_length (by rw[Bt];show i<=min j a.size;lia)]
theorem GH(a:Array Nat)(i:Nat):a.extract i i= #[]:=by simp;exact Mn _ _
theorem Iv.swap{a b o:Array Nat}{ia ib:Nat}(h:Iv ky a b o ia ib):Iv ky b a o ib ia:=⟨h.1.trans Ei,h.2.2,h.2.1⟩
theorem Iv.pushB{a b o:Array Nat}{ia ib:Nat}(h:Iv ky a b o ia ib)(hb:ib<b.size)(hl:ia<a.size->kt ky b ib<=kt ky a ia):Iv ky a b (o.push (b.getD ib 0)) ia (ib+1):=by
 obtain⟨h1,h2,f⟩:=h;have e:=SR hb;rw[e] at f;refine⟨?_,?_,by rw[Fh,Bh];exact f⟩
 ·rw[Q3 hb,Fh,<- Bh]
  exact h1.append_right _
 ·rw[Fh,Bh]
  refine FR h2 (NL f).1 λy c=>?_;by_cases d:ia<a.size
  ·rw[SR d] at h2 c
   rcases Ai.mp c with rfl|c
   ·exact hl d
   ·exact Ce (hl d) ((NL h2).2 y c)
  ·rw [List.drop_eq_nil_of_le (by show a.size <= ia;lia)] at c
   cases c
theorem Iv.pushA{a b o:Array Nat}{ia ib:Nat}(h:Iv ky a b o ia ib)(c:ia<a.size)(hl:ib<b.size->kt ky a ia<=kt ky b ib):Iv ky a b (o.push (a.getD ia 0)) (ia+1) ib:=(h.swap.pushB c hl).swap
theorem Iv.extB{a b o:Array Nat}{ia ib:Nat}(h:Iv ky a b o ia ib):∀d,ib+d<=b.size->(∀i,i<d->ia<a.size->kt ky b (ib+i)<=kt ky a ia)->Iv ky a b (o++b.extract ib (ib+d)) ia (ib+d)
 |0,_,_=>by rw[Ph,GH,Od];exact h
 |d+1,h1,h2=>by have c:=(Iv.extB h d (by lia) λi hi=>h2 i (by lia)).pushB (by lia) (h2 d (by lia));rw[<-Jg,mT (by lia) (by lia),Oy];exact c
theorem Iv.extA{a b o:Array Nat}{ia ib:Nat}(h:Iv ky a b o ia ib)(d:Nat)(h1:ia+d<=a.size)(h2:∀i,i<d->ib<b.size->kt ky a (ia+i)<=kt ky b ib):Iv ky a b (o++a.extract ia (ia+d)) (ia+d) ib:=(h.swap.extB d h1 h2).swap
theorem NV(a:Array Nat)(i:Nat):(a.extract i a.size).toList=a.toList.drop i:=by rw[XD,show a.size=a.toList.length from rfl,Lq]
def Ms(ky:Nat->Nat)(a b t:Array Nat):Prop:=t.toList.Perm (a.toList++b.toList)/\Ss ky t.toList
theorem Iv.all{a b o:Array Nat}{ia ib:Nat}(h:Iv ky a b o ia ib):(o.toList++(a.toList.drop ia++b.toList.drop ib)).Perm (a.toList++b.toList):=by refine(h.1.append_right _).trans ?_;have d:=Dr ia a.toList;have c:=Dr ib b.toList;generalize a.toList.take ia=g at*;generalize a.toList.drop ia=a2 at*;generalize b.toList.take ib=f at*;generalize b.toList.drop ib=e at*;rw[<-d,<-c,Bh,Bh];refine Fu _ ?_;rw[<-Bh,<-Bh];exact Gi _ Ei
theorem Iv.done{a b o:Array Nat}{ia ib:Nat}(h:Iv ky a b o ia ib)(c:ib=b.size∨ia=a.size):Ms ky a b (o++a.extract ia a.size++b.extract ib b.size):=by
 unfold Ms;rw[Ee,Ee,NV,NV,Bh];refine⟨h.all,?_⟩;rcases c with rfl|rfl
 ·rw[show b.toList.drop b.size=[] from Ds,Cv];exact h.2.1
 ·rw[show a.toList.drop a.size=[] from Ds];exact h.2.2
theorem Iv.lastA{a b o:Array Nat}{ia ib:Nat}(h:Iv ky a b o ia ib)(hi:ia+1=a.size)(e:∀y∈b.toList,ky y<=kt ky a (a.size - 1)):Ms ky a b (o++b.extract ib b.size++a.extract ia a.size):=by
 unfold Ms;rw[Ee,Ee,NV,NV,Bh];refine⟨(Fu _ Ei).trans h.all,?_⟩;have h2:=h.2.1;rw[SR (show ia<a.size by lia),show a.toList.drop (ia+1)=[] by rw[hi];exact Ds] at h2⊢;rw[<-Bh];refine Eo.mpr ⟨h.2.2,Lj _ _,λy c z d=>?_⟩;rw[Bb.mp d];rcases Cp.mp c with c|c
 ·exact(NL h2).1 y c
 ·have:=e y (List.mem_of_mem_drop c)
  rw[<-hi] at this;exact this
def Sd(x y:Pu):Prop:=y.p=x.p/\y.pd=x.pd
def Al(n:Nat)(a:Array Nat):Prop:=∀i,i<a.size->a.getD i 0<n
def Lf(ky:Nat->Nat)(a b:Array Nat)(x:Pu)(m:Nat)(r:Option (Array Nat))(o:Array Nat)(ia ib:Nat)(y:Pu):Prop:=r=none/\Iv ky a b o ia ib/\ia+1<a.size/\ib<b.size/\m<=ia+ib/\Sd x y
def Td(ky:Nat->Nat)(a b:Array Nat)(x:Pu)(r:Option (Array Nat))(y:Pu):Prop:=∃t,r=some t/\Ms ky a b t/\Sd x y
noncomputable def vG{β:Type}(t:Option (Array Nat)×Array Nat×β)(e:En):Option (Array Keyed)×Array Keyed×β:=(t.1.map e.of,e.of t.2.1,t.2.2)
theorem YU(e:En)(o:Array Nat)(i:Nat):(e.of o).push (e.at i)=e.of (o.push i):=by simp[En.of,En.at]
theorem YD(e:En)(o:Array Nat)(q:Array Nat):e.of o++e.of q=e.of (o++q):=by simp[En.of]
theorem Y3(e:En)(o:Array Nat)(i j:Nat):(e.of o).extract i j=e.of (o.extract i j):=by simp[En.of]
theorem UB(e:En)(o:Array Nat):(e.of o).size=o.size:=by simp[En.of]
theorem M6(e:En)(o:Array Nat):(e.of o).reverse=e.of o.reverse:=by simp[En.of]
theorem PY(e:En)(i:Nat): #[e.at i]=e.of #[i]:=by simp[En.of,En.at]
theorem OR{O:En->Array Keyed}{o:Array Nat}{i:Nat}(h:∀e:En,O e=e.of o)(e:En):(O e).push (e.at i)=e.of (o.push i):=by rw[h e];exact YU e o i
theorem X.yieldG{ck:Nat->Nat->Bool}{β:Type}{tail:β}{o:Array Nat}{O:En->Array Keyed}{I J:Option (Array Nat)×Array Nat×β->Pu->Prop}{y:Pu}(h:I (none,o,tail) y)(a:∀e,O e=e.of o):X n ck (λe=>Gu (Cu (none,O e,tail))) y (sv vG) (sR I J):=
 X.yield (none,o,tail) h λe=>by rw[a];rfl
theorem X.doneG{ck:Nat->Nat->Bool}{β:Type}{tail:β}{o:Array Nat}{O:En->Array Keyed}{I J:Option (Array Nat)×Array Nat×β->Pu->Prop}{y:Pu}(h:J (none,o,tail) y)(a:∀e,O e=e.of o):X n ck (λe=>Gu (ForInStep.done (none,O e,tail))) y (sv vG) (sR I J):=
 X.done (none,o,tail) h λe=>by rw[a];rfl
theorem X.tellD{ck:Nat->Nat->Bool}{β:Type}{tail:β}{a b o:Array Nat}{ia ib:Nat}{O:En->Array Keyed}{I J:Option (Array Nat)×Array Nat×β->Pu->Prop}{x y:Pu}(q:Iv ky a b o ia ib)(c:ib=b.size∨ia=a.size)(hs:Sd x y)(d:∀e,O e=e.of o)(f:∀t,Td ky a b x t.1 y->J t y):X n ck (λe=>Gu (ForInStep.done (some (O e++(e.of a).extract ia (e.of a).size++(e.of b).extract ib (e.of b).size),O e,tail))) y (sv vG) (sR I J):=
 X.done (some (o++a.extract ia a.size++b.extract ib b.size),o,tail) (f _ ⟨_,rfl,q.done c,hs⟩) λe=>by rw[d,UB,UB,Y3,Y3,YD,YD];rfl
theorem X.tellL{ck:Nat->Nat->Bool}{β:Type}{tail:β}{a b o:Array Nat}{ia ib:Nat}{O:En->Array Keyed}{I J:Option (Array Nat)×Array Nat×β->Pu->Prop}{x y:Pu}(q:Iv ky a b o ia ib)(d:∀y∈b.toList,ky y<=kt ky a (a.size - 1))(hi:ia+1=a.size)(hs:Sd x y)(c:∀e,O e=e.of o)(f:∀t,Td ky a b x t.1 y->J t y):X n ck (λe=>Gu (ForInStep.done (some (O e++(e.of b).extract ib (e.of b).size++(e.of a).extract ia (e.of a).size),O e,tail))) y (sv vG) (sR I J):=
 X.done (some (o++b.extract ib b.size++a.extract ia a.size),o,tail) (f _ ⟨_,rfl,q.lastA hi d,hs⟩) λe=>by rw[c,UB,UB,Y3,Y3,YD,YD];rfl
abbrev GT(A a:Type):=Option A×A×Nat×Nat×a
theorem X.rangeL{ck:Nat->Nat->Bool}{d:Type}{mm:Nat->Nat}{a b:Array Nat}{g:Pu}{J:GT (Array Nat) d->Pu->Prop}{f:En->Nat->GT (Array Keyed) d->StateT Es Tw (ForInStep (GT (Array Keyed) d))}{l:En->Nat}{o0:Array Nat}{ia0 ib0:Nat}{s0:d}{x:Pu}{c:En->GT (Array Keyed) d}(j:Nat)(hb:∀e,l e=j)(p:∀t y,Lf ky a b g (mm 0) t.1 t.2.1 t.2.2.1 t.2.2.2.1 y->J t y)(A:Lf ky a b g (mm j) none o0 ia0 ib0 x)(hs:∀k o ia ib s y,k<j->Iv ky a b o ia ib->ia+1<a.size->ib<b.size->mm (k+1)<=ia+ib->Sd g y->∀i,X n ck (λe=>f e i (none,e.of o,ia,ib,s)) y (sv vG) (sR (λt y=>Lf ky a b g (mm k) t.1 t.2.1 t.2.2.1 t.2.2.2.1 y) J))(hc:∀e,c e=(none,e.of o0,ia0,ib0,s0):=by intro e;rfl):X n ck (λe=>forIn [0:l e] (c e) (f e)) x vG J:=by refine X.rangeE (v:=vG) (I:=λk t y=>Lf ky a b g (mm k) t.1 t.2.1 t.2.2.1 t.2.2.2.1 y) (t:=(none,o0,ia0,ib0,s0)) j hb p A (λk t y m h i=>?_) hc;obtain⟨r,o,ia,ib,s⟩:=t;obtain⟨rfl,h2,z,w,u,q⟩:=h;exact hs k o ia ib s y m h2 z w u q i
theorem X.bindL{ck:Nat->Nat->Bool}{h α g:Type}{f:En->StateT Es Tw (GT (Array Keyed) h)}{k:En->GT (Array Keyed) h->StateT Es Tw α}{x:Pu}{v:g->En->α}{R:g->Pu->Prop}{m:Nat}{a b:Array Nat}{d:Pu}(h1:X n ck f x vG (λt z=>Td ky a b d t.1 z∨Lf ky a b d m t.1 t.2.1 t.2.2.1 t.2.2.2.1 z))(j:∀s o ia ib u z,Ms ky a b s->Sd d z->X n ck (λe=>k e (some (e.of s),e.of o,ia,ib,u)) z v R)(l:∀o ia ib u z,Iv ky a b o ia ib->ia+1<a.size->ib<b.size->m<=ia+ib->Sd d z->X n ck (λe=>k e (none,e.of o,ia,ib,u)) z v R):X n ck (λe=>f e>>=k e) x v R:=by
 refine X.bind h1 ?_;rintro ⟨r,o,ia,ib,u⟩ z (⟨s,c,hs,i⟩|⟨c,h2,h3,h4,h5,h6⟩)
 ·dsimp only at c
  subst c;exact j s o ia ib u z hs i
 ·dsimp only at c
  subst c;exact l o ia ib u z h2 h3 h4 h5 h6
theorem jQ{a b:Array Nat}{x:Pu}(M:Al n a)(hb:Al n b)(a1:1<=a.size)(b1:1<=b.size)(T:So ky a 0 a.size)(R:So ky b 0 b.size)(hF: ∀y∈a.toList,kt ky b 0<=ky y)(I: ∀y∈b.toList,ky y<=kt ky a (a.size - 1)):X n (lk ky) (λe=>GX (e.of a) (e.of b)) x (λt e=>e.of t) (λt y=>Ms ky a b t/\Sd x y):=by
 have K:Iv ky a b #[b.getD 0 0] 0 1:=by have e:Iv ky a b #[] 0 0:=⟨by simp,T.ss,R.ss⟩;exact e.pushB (by lia) λh=>hF _ (by simp[Gc,h])
 refine X.go D.rule ?_;refine X.go (D.elem (q:=b) (i:=0) (by lia)) ?_;refine X.eqSize (λh=>X.ret (#[b.getD 0 0]++a.extract 0 a.size++b.extract 1 b.size) ⟨K.done (.inl h),rfl,rfl⟩ λe=>?_) λh=>?_
 ·simp only[<-YD,<-Y3,UB,PY]
 refine X.eqSize (λh=>X.ret (#[b.getD 0 0]++b.extract 1 b.size++a.extract 0 a.size) ⟨K.lastA h I,rfl,rfl⟩ λe=>?_) λh2=>?_
 ·simp only[<-YD,<-Y3,UB,PY]
 refine X.go D.get ?_;have C:∀e:En,(e.of a).size+(e.of b).size=a.size+b.size:=λe=>by simp only[UB]
 refine X.bind (u:=vG) (S:=λt y=>Td ky a b x t.1 y) ?_ ?_
 ·refine X.rangeL (mm := λk => a.size + b.size - k) (o0 := #[b.getD 0 0]) (ia0 := 0) (ib0 := 1) (s0 := x.g) (a.size + b.size) C ?_ ⟨rfl,K,by lia,by lia,by lia,rfl,rfl⟩ ?_ λe => ?_
  ·rintro t y ⟨_,_,W,V,U,_⟩
   exact absurd U (by lia)
  ·intro k o ia ib g y G h2 W V U h6 i
   dsimp only;refine X.bindL (m:=ia+ib+1) ?_ (λs o f j u z hs H=>X.done (some s,o,f,j,g) ⟨s,rfl,hs,H⟩) ?_
   ·refine X.rangeL (mm := λk => ia + ib + if k < a.size + b.size then 1 else 0) (o0 := o) (ia0 := ia) (ib0 := ib) (s0 := (0,0)) (a.size + b.size) C ?_ ⟨rfl,h2,W,V,by rw [if_neg (by lia)];exact Ak _,h6⟩ ?_
    ·intro t y h
     rw[if_pos (by lia)] at h;exact .inr h
    ·intro k o f j s y G v B p A l i
     dsimp only at A⊢;have g5':ia+ib<=f+j:=by split at A<;>lia
     refine X.go (D.elem (q:=b) (i:=j) p) (X.go (D.elem (q:=a) (i:=f) (by lia)) (X.go (D.lt (hb _ p) (M _ (by lia))) ?_));refine X.ite (λc=>?_) λc=>?_
     ·refine X.go (D.elem (q:=b) (i:=j) p) ?_
      have q:=v.pushB p λ_=>Dg (of_decide_eq_true c);refine X.eqSize (λz=>X.tellD q (.inl z) l (λe=>YU e _ _) λt h=>.inl h) λz=>?_;exact X.ite (λ_=>X.doneG (.inr ⟨rfl,q,B,by dsimp only;lia,by dsimp only;lia,l⟩) λe=>YU e _ _) λ_=>X.yieldG ⟨rfl,q,B,by dsimp only;lia,by dsimp only;rw[if_pos G];lia,l⟩ λe=>YU e _ _
     ·refine X.go (D.elem (q := a) (i := f) (by lia)) ?_
      have q:=v.pushA (show f<a.size by lia) λ_=>Eb λz=>c (decide_eq_true z);refine X.eqSize (λz=>X.tellL q I z l (λe=>YU e _ _) λt h=>.inl h) λz=>?_;exact X.ite (λ_=>X.doneG (.inr ⟨rfl,q,by dsimp only;lia,p,by dsimp only;lia,l⟩) λe=>YU e _ _) λ_=>X.yieldG ⟨rfl,q,by dsimp only;lia,p,by dsimp only;rw[if_pos G];lia,l⟩ λe=>YU e _ _
   ·intro o f j u z v B p A l
    ·dsimp only
     refine X.go D.rule ?_;refine X.bindL (m:=ia+ib+1) ?_ (λs o f j u z hs H=>X.done (some s,o,f,j,u.1) ⟨s,rfl,hs,H⟩) ?_
     ·refine X.rangeL (mm := λ_ => ia + ib + 1) (o0 := o) (ia0 := f) (ib0 := j) (s0 := (g + 1,u)) (a.size + b.size) C (λt y h => .inr h) ⟨rfl,v,B,p,A,l⟩ ?_
      intro k o f j s y G v B p A l i;dsimp only at A⊢;refine X.ite (λ_=>?_) λ_=>?_
      all_goals
       refine X.go D.setMin (X.go (D.elem (q:=b) (i:=j) p) (X.bind (galE (a.size - f) (λe=>by simp only[UB]) (hb _ p) (by lia) (by lia) M T) ?_));rintro d z ⟨⟨_,H,Q,P⟩,rfl⟩;have Q:∀i,i<d->kt ky a (f+i)<=kt ky b j:=λi hi=>La (Q i hi);have P:f+d<a.size->kt ky b j<=kt ky a (f+d):=λh=>Dg (P d (Ak _) (by lia));refine X.ite (λ_=>?_) λh0=>?_;have q:=v.extA d (by lia) λi hi _=>Q i hi;have qO:∀e:En,e.of o++(e.of a).extract f (f+d)=e.of (o++a.extract f (f+d)):=λe=>by rw[Y3,YD]
       refine X.eqSize (λz=>X.tellL q I z l qO λt h=>.inl h) λz1=>X.eqSize (λz=>X.tellD q (.inr z) l qO λt h=>.inl h) λz2=>?_;have F:f+d+1<a.size:=by lia
       have g8:ia+ib+1<=f+d+j:=by lia
       rotate_left;obtain rfl:d=0:=by lia
       have q:=v;have qO:∀e:En,e.of o=e.of o:=λe=>rfl;have F:=B;have g8:=A
       all_goals
        refine X.go (D.elem (q:=b) (i:=j) p) ?_;have r:=q.pushB p P;have J:=OR (i:=b.getD j 0) qO;refine X.eqSize (λz=>X.tellD r (.inl z) l J λt h=>.inl h) λz3=>?_;refine X.go (D.elem (q:=a) (Im F)) (X.bind (galE (b.size - (j+1)) (λe=>by simp only[UB]) (M _ (Im F)) (by lia) (by lia) hb R) ?_);rintro N z ⟨⟨_,hd2,c3,c4⟩,rfl⟩;refine X.ite (λ_=>?_) λh0=>?_;have u:=r.extB N (by lia) λi hi _=>Dg (c3 i hi);have E:∀e:En,_=e.of _:=λe=>((congrArg (λO=>O++(e.of b).extract (j+1) (j+1+N)) (J e)).trans (by rw[Y3])).trans (YD e _ _);refine X.eqSize (λz=>X.tellD u (.inl z) l E λt h=>.inl h) λZ=>?_;rotate_left;obtain rfl:N=0:=by lia
        have u:=r;have E:=J;have Z:=z3
        all_goals
         refine X.go (D.elem (q:=a) (Im F)) ?_;have w:=u.pushA (Im F) λh=>c4 _ (Ak _) (by lia);refine X.eqSize (λz=>X.tellL w I z l (OR E) λt h=>.inl h) λz5=>?_;have L:Lf ky a b x (ia+ib+1) none _ _ _ _:=⟨rfl,w,by lia,by lia,by lia,l⟩;exact X.ite (λ_=>X.doneG (.inr L) (OR E)) λ_=>X.yieldG L (OR E)
     ·intro o f j u z v B p A l
      dsimp only;refine X.go D.setMin ?_;exact X.yieldG ⟨rfl,v,B,p,by dsimp only;lia,l⟩ λe=>rfl
  ·simp only[PY]
   rfl
 ·rintro ⟨r,o,ia,ib,g⟩ y ⟨t,Y,h⟩
  dsimp only at Y;subst Y;exact X.ret t h
end
section
variable{n:Nat}{ky:Nat->Nat}
def Iw(ky:Nat->Nat)(a b o:Array Nat)(d c:Nat):Prop:=o.toList.Perm (a.toList.drop d++b.toList.drop c)/\Ss ky (a.toList.take d++o.toList.reverse)/\Ss ky (b.toList.take c++o.toList.reverse)
theorem Wp{a:Array Nat}{i:Nat}(h:i<a.size):a.getD i 0∈a.toList:=by rw[show a.getD i 0=a[i] by simp[Gc,h]];simp
theorem Iw.swap{a b o:Array Nat}{d c:Nat}(h:Iw ky a b o d c):Iw ky b a o c d:=⟨h.1.trans Ei,h.2.2,h.2.1⟩
theorem LR{a:Array Nat}{i:Nat}(b:0<i)(h:i<=a.size):a.toList.take i=a.toList.take (i - 1)++[a.getD (i - 1) 0]:=by have e:=Q3 (a:=a) (i:=i - 1) (by lia);rw[show i - 1+1=i by lia] at e;exact e
theorem jX{x:Nat}{o l r:List Nat}(h:Ss ky (o++[x]++r)):∀y∈o++[x],ky y<=ky x:=λy a=>by
 have h:=(Eo.mp h).1;rcases Cp.mp a with a|a
 ·exact(Eo.mp h).2.2 y a x Ap
 ·rw[Bb.mp a];exact Ak _
theorem Iw.pushA{a b o:Array Nat}{c d:Nat}(h:Iw ky a b o c d)(i:0<c)(h1:c<=a.size)(h2:d<=b.size)(hl:0<d->kt ky b (d - 1)<=kt ky a (c - 1)):Iw ky a b (o.push (a.getD (c - 1) 0)) (c - 1) d:=by
 obtain⟨j,g,f⟩:=h;rw[LR i h1,Bh] at g;unfold Iw;rw[Fh,List.reverse_append];refine⟨?_,g,FR f (λy e=>?_) (NL g).2⟩
 ·rw [SR (show c - 1 < a.size by lia),show c - 1 + 1 = c by lia,Er]
  exact Ei.trans (List.Perm.cons _ j)
 ·by_cases hb:0<d
  ·rw[LR hb h2] at f e
   exact Ce (jX (l:=[]) f y e) (hl hb)
  ·rw [show d = 0 by lia] at e
   cases e
theorem Iw.pushB{a b o:Array Nat}{d c:Nat}(h:Iw ky a b o d c)(e:0<c)(h1:c<=b.size)(h2:d<=a.size)(hl:0<d->kt ky a (d - 1)<=kt ky b (c - 1)):Iw ky a b (o.push (b.getD (c - 1) 0)) d (c - 1):=(h.swap.pushA e h1 h2 hl).swap
theorem Zr{a:Array Nat}{t m:Nat}(b:0<t)(h1:t<=m)(h2:m<=a.size):(a.extract (t - 1) m).reverse=(a.extract t m).reverse.push (a.getD (t - 1) 0):=by
 apply Iy.mp;have e:a.getD (t - 1) 0=a[t - 1]'(by lia):=by simp[Gc,show t - 1<a.size by lia]
 rw[Fh,Hc,Hc,XD,XD,Cq (i:=t - 1) (by rw[Bt];show t - 1<min m a.size;lia),show t - 1+1=t by lia,List.reverse_cons,List.getElem_take,e];simp
theorem Iw.extA'{a b o:Array Nat}{c e:Nat}(h:Iw ky a b o c e)(h1:c<=a.size)(h2:e<=b.size):∀d,d<=c->(∀i,c - d<=i->i<c->0<e->kt ky b (e - 1)<=kt ky a i)->Iw ky a b (o++(a.extract (c - d) c).reverse) (c - d) e
 |0,_,_=>by rw[Nat.sub_zero,GH,Array.reverse_empty,Od];exact h
 |d+1,j,f=>by have g:=(Iw.extA' h h1 h2 d (by lia) λi hi=>f i (by lia)).pushA (by lia) (by lia) h2 (f _ (by lia) (by lia));rw[show c - (d+1)=c - d - 1 by lia,Zr (by lia) (by lia) h1,Oy];exact g
theorem Iw.extA{a b o:Array Nat}{c d:Nat}(h:Iw ky a b o c d)(h1:c<=a.size)(h2:d<=b.size){t:Nat}(j:t<=c)(g:∀i,t<=i->i<c->kt ky b (d - 1)<=kt ky a i):Iw ky a b (o++(a.extract t c).reverse) t d:=by
 have e:c - (c - t)=t:=by lia
 have:=h.extA' h1 h2 (c - t) (by lia) λi k f _=>g i (by lia) f;rw[e] at this;exact this
theorem Iw.extB{a b o:Array Nat}{d c:Nat}(h:Iw ky a b o d c)(h1:c<=b.size)(h2:d<=a.size){t:Nat}(e:t<=c)(f:∀i,t<=i->i<c->kt ky a (d - 1)<=kt ky b i):Iw ky a b (o++(b.extract t c).reverse) d t:=(h.swap.extA h1 h2 e f).swap
theorem Iw.all{a b o:Array Nat}{d c:Nat}(h:Iw ky a b o d c):((a.toList.take d++b.toList.take c)++o.toList.reverse).Perm (a.toList++b.toList):=by refine(Fu _ ((List.reverse_perm _).trans h.1)).trans ?_;have f:=Dr d a.toList;have e:=Dr c b.toList;generalize a.toList.take d=j at*;generalize a.toList.drop d=a2 at*;generalize b.toList.take c=i at*;generalize b.toList.drop c=g at*;rw[<-f,<-e,Bh,Bh];refine Fu _ ?_;rw[<-Bh,<-Bh];exact Gi _ Ei
theorem JB(a:Array Nat)(i:Nat):(a.extract 0 i).toList=a.toList.take i:=by rw[XD];rfl
theorem Iw.done{a b o:Array Nat}{d c:Nat}(h:Iw ky a b o d c)(e:d=0∨c=0):Ms ky a b (a.extract 0 d++b.extract 0 c++o.reverse):=by
 unfold Ms;rw[Ee,Ee,JB,JB,Hc];refine⟨h.all,?_⟩;rcases e with rfl|rfl
 ·exact h.2.2
 ·rw[Rj,Cv];exact h.2.1
theorem Iw.first{a b o:Array Nat}{e d:Nat}(h:Iw ky a b o e d)(g:d=1)(hb:1<=b.size)(j:∀y∈a.toList,kt ky b 0<=ky y):Ms ky a b (b.extract 0 d++a.extract 0 e++o.reverse):=by
 unfold Ms;rw[Ee,Ee,JB,JB,Hc];refine⟨(Gi _ Ei).trans h.all,?_⟩;subst g;have f:=h.2.2;rw[Q3 (i:=0) (by lia)] at f⊢;rw[Bh];refine FR (o:=[]) h.2.1 (λ_ h=>by cases h) λy c=>?_;rcases Cp.mp c with c|c
 ·exact j y (List.mem_of_mem_take c)
 ·exact(NL (o:=[]) f).2 y c
def Lh(ky:Nat->Nat)(a b:Array Nat)(x:Pu)(m:Nat)(r:Option (Array Nat))(o:Array Nat)(d c:Nat)(y:Pu):Prop:=r=none/\Iw ky a b o d c/\0<d/\d<=a.size/\1<c/\c<=b.size/\d+c<=m/\Sd x y
abbrev HT(β:Type):=Option (Array Nat)×Nat×Nat×Array Nat×β
noncomputable def vH{β:Type}(t:HT β)(e:En):Option (Array Keyed)×Nat×Nat×Array Keyed×β:=(t.1.map e.of,t.2.1,t.2.2.1,e.of t.2.2.2.1,t.2.2.2.2)
theorem X.yieldH{ck:Nat->Nat->Bool}{β:Type}{tail:β}{o:Array Nat}{b a:Nat}{O:En->Array Keyed}{I J:HT β->Pu->Prop}{y:Pu}(h:I (none,b,a,o,tail) y)(c:∀e,O e=e.of o):X n ck (λe=>Gu (Cu (none,b,a,O e,tail))) y (sv vH) (sR I J):=
 X.yield (none,b,a,o,tail) h λe=>by rw[c];rfl
theorem X.doneH{ck:Nat->Nat->Bool}{β:Type}{tail:β}{o:Array Nat}{b a:Nat}{O:En->Array Keyed}{I J:HT β->Pu->Prop}{y:Pu}(h:J (none,b,a,o,tail) y)(c:∀e,O e=e.of o):X n ck (λe=>Gu (ForInStep.done (none,b,a,O e,tail))) y (sv vH) (sR I J):=
 X.done (none,b,a,o,tail) h λe=>by rw[c];rfl
theorem X.tellE{ck:Nat->Nat->Bool}{β:Type}{tail:β}{a b o:Array Nat}{d c:Nat}{O:En->Array Keyed}{I J:HT β->Pu->Prop}{x y:Pu}(q:Iw ky a b o d c)(f:d=0∨c=0)(hs:Sd x y)(g:∀e,O e=e.of o)(h:∀t,Td ky a b x t.1 y->J t y):X n ck (λe=>Gu (ForInStep.done (some ((e.of a).extract 0 d++(e.of b).extract 0 c++(O e).reverse),d,c,O e,tail))) y (sv vH) (sR I J):=
 X.done (some (a.extract 0 d++b.extract 0 c++o.reverse),d,c,o,tail) (h _ ⟨_,rfl,q.done f,hs⟩) λe=>by rw[g,Y3,Y3,M6,YD,YD];rfl
theorem X.tellF{ck:Nat->Nat->Bool}{β:Type}{tail:β}{a b o:Array Nat}{d c:Nat}{O:En->Array Keyed}{I J:HT β->Pu->Prop}{x y:Pu}(q:Iw ky a b o d c)(hb:1<=b.size)(i:∀y∈a.toList,kt ky b 0<=ky y)(f:c=1)(hs:Sd x y)(g:∀e,O e=e.of o)(h:∀t,Td ky a b x t.1 y->J t y):X n ck (λe=>Gu (ForInStep.done (some ((e.of b).extract 0 c++(e.of a).extract 0 d++(O e).reverse),d,c,O e,tail))) y (sv vH) (sR I J):=
 X.done (some (b.extract 0 c++a.extract 0 d++o.reverse),d,c,o,tail) (h _ ⟨_,rfl,q.first f hb i,hs⟩) λe=>by rw[g,Y3,Y3,M6,YD,YD];rfl
theorem X.is{ck:Nat->Nat->Bool}{α c:Type}{m k:Nat}{d:En->Decidable ((m==k)=true)}{a b:En->StateT Es Tw α}{x:Pu}{v:c->En->α}{R:c->Pu->Prop}(h1:m=k->X n ck a x v R)(h2:m≠k->X n ck b x v R):X n ck (λe=> @_root_.ite _ ((m==k)=true) (d e) (a e) (b e)) x v R:=
 X.ite (λh=>h1 (by simpa using h)) λh=>h2 (by simpa using h)
theorem X.iteE{ck:Nat->Nat->Bool}{α d:Type}{c:En->Prop}{f:(e:En)->Decidable (c e)}{a b:En->StateT Es Tw α}{x:Pu}{v:d->En->α}{R:d->Pu->Prop}{c0:Prop}(hc:∀e,c e=c0)(h1:c0->X n ck a x v R)(h2:¬c0->X n ck b x v R):X n ck (λe=> @_root_.ite _ (c e) (f e) (a e) (b e)) x v R:=by obtain rfl:c=λ_=>c0:=funext hc;exact X.ite h1 h2
theorem revO{O:En->Array Keyed}{o a:Array Nat}{i j:Nat}(h:∀e:En,O e=e.of o)(e:En):O e++((e.of a).extract i j).reverse=e.of (o++(a.extract i j).reverse):=by rw[h e,Y3,M6,YD]
theorem X.rangeH{ck:Nat->Nat->Bool}{j:Type}{mm:Nat->Nat}{a b:Array Nat}{l:Pu}{J:HT j->Pu->Prop}{f:En->Nat->Option (Array Keyed)×Nat×Nat×Array Keyed×j->StateT Es Tw (ForInStep (Option (Array Keyed)×Nat×Nat×Array Keyed×j))}{o0:Array Nat}{ia0 ib0:Nat}{s0:j}{x:Pu}{c:En->Option (Array Keyed)×Nat×Nat×Array Keyed×j}(m:Nat)(q:∀t y,Lh ky a b l (mm 0) t.1 t.2.2.2.1 t.2.1 t.2.2.1 y->J t y)(D:Lh ky a b l (mm m) none o0 ia0 ib0 x)(hs:∀k o g d s y,k<m->Iw ky a b o g d->0<g->g<=a.size->1<d->d<=b.size->g+d<=mm (k+1)->Sd l y->∀i,X n ck (λe=>f e i (none,g,d,e.of o,s)) y (sv vH) (sR (λt y=>Lh ky a b l (mm k) t.1 t.2.2.2.1 t.2.1 t.2.2.1 y) J))(hc:∀e,c e=(none,ia0,ib0,e.of o0,s0):=by intro e;rfl):X n ck (λe=>forIn [0:m] (c e) (f e)) x vH J:=by refine X.rangeE (v:=vH) (I:=λk t y=>Lh ky a b l (mm k) t.1 t.2.2.2.1 t.2.1 t.2.2.1 y) (t:=(none,ia0,ib0,o0,s0)) m (λ_=>rfl) q D (λk t y p h i=>?_) hc;obtain⟨r,g,d,o,s⟩:=t;obtain⟨rfl,h2,C,B,A,z,w,u⟩:=h;exact hs k o g d s y p h2 C B A z w u i
theorem X.bindH{ck:Nat->Nat->Bool}{j α i:Type}{f:En->StateT Es Tw (Option (Array Keyed)×Nat×Nat×Array Keyed×j)}{k:En->Option (Array Keyed)×Nat×Nat×Array Keyed×j->StateT Es Tw α}{x:Pu}{v:i->En->α}{R:i->Pu->Prop}{m:Nat}{a b:Array Nat}{h:Pu}(h1:X n ck f x vH (λt z=>Td ky a b h t.1 z∨Lh ky a b h m t.1 t.2.2.2.1 t.2.1 t.2.2.1 z))(p:∀s o d c u z,Ms ky a b s->Sd h z->X n ck (λe=>k e (some (e.of s),d,c,e.of o,u)) z v R)(q:∀o d c u z,Iw ky a b o d c->0<d->d<=a.size->1<c->c<=b.size->d+c<=m->Sd h z->X n ck (λe=>k e (none,d,c,e.of o,u)) z v R):X n ck (λe=>f e>>=k e) x v R:=by
 refine X.bind h1 ?_;rintro ⟨r,d,c,o,u⟩ z (⟨s,g,hs,l⟩|⟨g,h2,h3,h4,h5,h6,h7,h8⟩)
 ·dsimp only at g
  subst g;exact p s o d c u z hs l
 ·dsimp only at g
  subst g;exact q o d c u z h2 h3 h4 h5 h6 h7 h8
theorem pF{a b:Array Nat}{x:Pu}(U:Al n a)(hb:Al n b)(a1:1<=a.size)(M:1<=b.size)(sa:So ky a 0 a.size)(sb:So ky b 0 b.size)(J: ∀y∈a.toList,kt ky b 0<=ky y)(hL: ∀y∈b.toList,ky y<=kt ky a (a.size - 1)):X n (lk ky) (λe=>GW (e.of a) (e.of b)) x (λt e=>e.of t) (λt y=>Ms ky a b t/\Sd x y):=by
 have R:Iw ky a b #[a.getD (a.size - 1) 0] (a.size - 1) b.size:=by
  have e:Iw ky a b #[] a.size b.size:=by unfold Iw;rw[show a.size=a.toList.length from rfl,show b.size=b.toList.length from rfl,Ds,Ds,Lq,Lq];exact⟨.refl _,by rw[Pt,Cv];exact sa.ss,by rw[Pt,Cv];exact sb.ss⟩
  exact e.pushA (by lia) (Ak _) (Ak _) λh=>hL _ (Wp (by lia))
 refine X.go D.rule ?_;simp only[UB];refine X.go (D.elem (q:=a) (i:=a.size - 1) (by lia)) ?_;refine X.is (λh=>X.ret (a.extract 0 (a.size - 1)++b.extract 0 b.size++ #[a.getD (a.size - 1) 0].reverse) ⟨R.done (.inl h),rfl,rfl⟩ λe=>?_) λh=>?_
 ·simp only[<-YD,<-Y3,<-M6,PY]
 refine X.is (λh=>X.ret (b.extract 0 b.size++a.extract 0 (a.size - 1)++ #[a.getD (a.size - 1) 0].reverse) ⟨R.first h M J,rfl,rfl⟩ λe=>?_) λh2=>?_
 ·simp only[<-YD,<-Y3,<-M6,PY]
 refine X.go D.get ?_;refine X.bind (u:=vH) (S:=λt y=>Td ky a b x t.1 y) ?_ ?_
 ·refine X.rangeH (mm := λk => k) (o0 := #[a.getD (a.size - 1) 0]) (ia0 := a.size - 1) (ib0 := b.size) (s0 := x.g) (a.size + b.size) ?_ ⟨rfl,R,by lia,by lia,by lia,Ak _,by lia,rfl,rfl⟩ ?_ λe => ?_
  ·rintro t y ⟨_,_,h3,h4,h5,h6,h7,_⟩
   exact absurd h7 (by lia)
  ·intro k o na nb g y I h2 h3 W h4 V h5 h6 i
   dsimp only;refine X.bindH (m:=k) ?_ (λs o Q P u z hs H=>X.done (some s,Q,P,o,g) ⟨s,rfl,hs,H⟩) ?_
   ·refine X.rangeH (mm := λj => if j < a.size + b.size then k else k + 1) (o0 := o) (ia0 := na) (ib0 := nb) (s0 := (0,0)) (a.size + b.size) ?_ ⟨rfl,h2,h3,W,h4,V,by rw [if_neg (by lia)];exact h5,h6⟩ ?_
    ·intro t y h
     rw[if_pos (by lia)] at h;exact .inr h
    ·intro j o A p s y I B E l F f C v i
     dsimp only at C⊢;have g5':A+p<=k+1:=by split at C<;>lia
     refine X.go (D.elem (q:=b) (i:=p - 1) (by lia)) (X.go (D.elem (q:=a) (i:=A - 1) (by lia)) (X.go (D.lt (hb _ (by lia)) (U _ (by lia))) ?_));refine X.ite (λc=>?_) λc=>?_
     ·refine X.go (D.elem (q := a) (i := A - 1) (by lia)) ?_
      have q:=B.pushA E l f λ_=>Dg (of_decide_eq_true c);refine X.is (λz=>X.tellE q (.inl z) v (λe=>YU e _ _) λt h=>.inl h) λz=>?_;exact X.ite (λ_=>X.doneH (.inr ⟨rfl,q,by dsimp only;lia,by dsimp only;lia,F,f,by dsimp only;lia,v⟩) λe=>YU e _ _) λ_=>X.yieldH ⟨rfl,q,by dsimp only;lia,by dsimp only;lia,F,f,by dsimp only;rw[if_pos I];lia,v⟩ λe=>YU e _ _
     ·refine X.go (D.elem (q := b) (i := p - 1) (by lia)) ?_
      have q:=B.pushB (by lia) f l λ_=>Eb λz=>c (decide_eq_true z);refine X.is (λz=>X.tellF q M J z v (λe=>YU e _ _) λt h=>.inl h) λz=>?_;exact X.ite (λ_=>X.doneH (.inr ⟨rfl,q,E,l,by dsimp only;lia,by dsimp only;lia,by dsimp only;lia,v⟩) λe=>YU e _ _) λ_=>X.yieldH ⟨rfl,q,E,l,by dsimp only;lia,by dsimp only;lia,by dsimp only;rw[if_pos I];lia,v⟩ λe=>YU e _ _
   ·intro o A p u z B E l F f C v
    ·dsimp only
     refine X.go D.rule ?_;refine X.bindH (m:=k) ?_ (λs o Q P u z hs H=>X.done (some s,Q,P,o,u.1) ⟨s,rfl,hs,H⟩) ?_
     ·refine X.rangeH (mm := λ_ => k) (o0 := o) (ia0 := A) (ib0 := p) (s0 := (g + 1,u)) (a.size + b.size) (λt y h => .inr h) ⟨rfl,B,E,l,F,f,C,v⟩ ?_
      intro j o A p s y I B E l F f C v i;dsimp only at C⊢;refine X.ite (λ_=>?_) λ_=>?_
      all_goals
       refine X.go D.setMin (X.go (D.elem (q:=b) (i:=p - 1) (by lia)) (X.bind (galE A (λ_=>rfl) (hb _ (by lia)) (by lia) (by lia) U sa) ?_));rintro d z ⟨⟨_,H,c1,c2⟩,rfl⟩;have c1:∀i,i<d->kt ky a i<=kt ky b (p - 1):=λi hi=>by have:=c1 i hi;rw[Gd] at this;exact La this
       have c2:∀i,d<=i->i<A->kt ky b (p - 1)<=kt ky a i:=λi h1 h2=>by have:=c2 i h1 h2;rw[Gd] at this;exact Dg this
       refine X.ite (λ_=>?_) λh0=>?_;have q:=B.extA l f H c2;have qO:=revO (o:=o) (a:=a) (i:=d) (j:=A) λe=>rfl;refine X.is (λz=>X.tellE q (.inl z) v qO λt h=>.inl h) λz1=>?_;rotate_left;obtain rfl:d=A:=by lia
       have q:=B;have qO:∀e:En,e.of o=e.of o:=λe=>rfl;have z1:d≠0:=by lia
       all_goals
        have Y:d - 1<a.size:=by lia
        refine X.go (D.elem (q:=b) (i:=p - 1) (by lia)) ?_;have r:=q.pushB (show 0<p by lia) f (by lia) λh=>c1 (d - 1) (by lia);have O:=OR (i:=b.getD (p - 1) 0) qO;refine X.is (λz=>X.tellF r M J z v O λt h=>.inl h) λz3=>?_;refine X.go (D.elem (q:=a) (i:=d - 1) Y) (X.bind (galE (p - 1) (λ_=>rfl) (U _ Y) (by lia) (by lia) hb sb) ?_);rintro K z ⟨⟨_,T,c3,Z⟩,rfl⟩;have c3:∀i,i<K->kt ky b i<=kt ky a (d - 1):=λi hi=>by have:=c3 i hi;rw[Gd] at this;exact Dg this
        have Z:∀i,K<=i->i<p - 1->kt ky a (d - 1)<=kt ky b i:=λi h1 h2=>by have:=Z i h1 h2;rw[Gd] at this;exact this
        refine X.ite (λ_=>?_) λh0=>?_;have u:=r.extB (by lia) (by lia) T Z;have G:=revO (a:=b) (i:=K) (j:=p - 1) O;refine X.is (λz=>X.tellF u M J z v G λt h=>.inl h) λz4=>X.is (λz=>X.tellE u (.inr z) v G λt h=>.inl h) λN=>?_;rotate_left;obtain rfl:K=p - 1:=by lia
        have u:=r;have G:=O;have z4:=z3;have N:p - 1≠0:=by lia
        all_goals
         refine X.go (D.elem (q:=a) (i:=d - 1) Y) ?_;have w:=u.pushA (show 0<d by lia) (by lia) (by lia) λh=>c3 _ (by lia);refine X.is (λz=>X.tellE w (.inl z) v (OR G) λt h=>.inl h) λz5=>?_;have L:Lh ky a b x k none _ _ _ _:=⟨rfl,w,by lia,by lia,by lia,by lia,by lia,v⟩;exact X.iteE (c0:=(decide (_<7)&&decide (_<7))=true) (λe=>rfl) (λ_=>X.doneH (.inr L) (OR G)) λ_=>X.yieldH L (OR G)
     ·intro o A p u z B E l F f C v
      dsimp only;refine X.go D.setMin ?_;exact X.yieldH ⟨rfl,B,E,l,F,f,C,v⟩ λe=>rfl
  ·simp only[PY]
   rfl
 ·rintro ⟨r,na,nb,o,g⟩ y ⟨t,e1,h⟩
  dsimp only at e1;subst e1;exact X.ret t h
end
section
variable{n:Nat}{ky:Nat->Nat}
theorem So.keep{p q:Array Nat}{i j:Nat}(h:So ky p i j)(e:∀t,i<=t->t<j->q.getD t 0=p.getD t 0):So ky q i j:=λa b h1 h2 c=>by unfold kt;rw[e a h1 (by lia),e b (by lia) c];exact h a b h1 h2 c
theorem So.sub{p:Array Nat}{i j d c:Nat}(h:So ky p i j)(h1:i<=d)(h2:c<=j):So ky p d c:=λa b g e f=>h a b (by lia) e (by lia)
theorem So.le{p:Array Nat}{i j a b:Nat}(h:So ky p i j)(h1:i<=a)(h2:a<=b)(c:b<j):kt ky p a<=kt ky p b:=by
 by_cases e:a=b
 ·rw[e];exact Ak _
 ·exact h a b h1 (by lia) c
theorem So.cat{p:Array Nat}{i m j:Nat}(h1:So ky p i m)(h2:So ky p m j)(h:∀a b,i<=a->a<m->m<=b->b<j->kt ky p a<=kt ky p b):So ky p i j:=λa b f d c=>by
 by_cases e:b<m
 ·exact h1 a b f d e
 ·by_cases g:a<m
  ·exact h a b f g (by lia) c
  ·exact h2 a b (by lia) d c
def Ch(ky:Nat->Nat)(p:Array Nat):List (Nat×Nat×Nat)->Nat->Nat->Prop
 |[],s,e=>s=e
 |u::l,s,e=>u.1=s/\1<=u.2.1/\So ky p s (s+u.2.1)/\Ch ky p l (s+u.2.1) e
theorem Ch.len{p:Array Nat}:∀{l:List (Nat×Nat×Nat)} {s e:Nat},Ch ky p l s e->s+l.length<=e
 |[],s,e,h=>Nat.le_of_eq h
 |u::l,s,e,h=>by have:=Ch.len h.2.2.2;have:=h.2.1;rw[Bu];lia
theorem Ch.keep{p q:Array Nat}:∀{l:List (Nat×Nat×Nat)} {s e:Nat},Ch ky p l s e->(∀t,s<=t->t<e->q.getD t 0=p.getD t 0)->Ch ky q l s e
 |[],s,e,h,_=>h
 |u::l,s,e,h,k=>by have:=Ch.len h.2.2.2;exact⟨h.1,h.2.1,h.2.2.1.keep λt h1 h2=>k t h1 (by lia),Ch.keep h.2.2.2 λt h1 h2=>k t (by lia) h2⟩
theorem Ch.two{p:Array Nat}:∀{l:List (Nat×Nat×Nat)} {s e i:Nat} {u v:Nat×Nat×Nat},Ch ky p l s e->l[i]?=some u->l[i+1]?=some v->v.1=u.1+u.2.1/\1<=u.2.1/\1<=v.2.1/\v.1+v.2.1<=e/\s<=u.1/\So ky p u.1 v.1/\So ky p v.1 (v.1+v.2.1)
 |[],s,e,i,u,v,h,h1,h2=>by simp at h1
 |[w],s,e,i,u,v,h,h1,h2=>by simp at h2
 |w::b::l,s,e,0,u,v,h,h1,h2=>by simp at h1 h2;subst h1 h2;obtain⟨j,a2,g,a4,f,d,c⟩:=h;have:=c.len;rw[j,a4];exact⟨rfl,a2,f,by lia,Ak _,g,d⟩
 |w::b::l,s,e,i+1,u,v,h,h1,h2=>by have a:=Ch.two (l:=b::l) h.2.2.2 (by simpa using h1) (by simpa using h2);exact⟨a.1,a.2.1,a.2.2.1,a.2.2.2.1,by lia,a.2.2.2.2.2⟩
theorem Ch.join{p q:Array Nat}:∀{l:List (Nat×Nat×Nat)} {s e i:Nat} {u v:Nat×Nat×Nat},Ch ky p l s e->l[i]?=some u->l[i+1]?=some v->(∀t,t<u.1∨v.1+v.2.1<=t->q.getD t 0=p.getD t 0)->So ky q u.1 (v.1+v.2.1)->Ch ky q ((l.set i (u.1,u.2.1+v.2.1,u.2.2)).eraseIdx (i+1)) s e
 |[],s,e,i,u,v,h,h1,h2,_,_=>by simp at h1
 |[w],s,e,i,u,v,h,h1,h2,_,_=>by simp at h2
 |w::a::l,s,e,0,u,v,h,h1,h2,k,hs=>by simp at h1 h2;subst h1 h2;obtain⟨c,a2,g,a4,f,d,b⟩:=h;rw[c,a4,Jg] at hs;rw[Jg] at b;exact⟨c,by dsimp only;lia,hs,b.keep λt h1 h2=>k t (by lia)⟩
 |w::a::l,s,e,i+1,u,v,h,h1,h2,k,hs=>by
  have h1:(a::l)[i]?=some u:=by simpa using h1
  have h2:(a::l)[i+1]?=some v:=by simpa using h2
  have le:=(Ch.two h.2.2.2 h1 h2).2.2.2.2.1;exact⟨h.1,h.2.1,h.2.2.1.keep λt h1 h2=>k t (by lia),Ch.join h.2.2.2 h1 h2 k hs⟩
theorem Ch.more{p:Array Nat}:∀{l:List (Nat×Nat×Nat)} {s e m:Nat},Ch ky p l s e->1<=m->So ky p e (e+m)->Ch ky p (l++[(e,m,0)]) s (e+m)
 |[],s,e,m,h,h1,hs=>⟨h.symm,h1,by rw[h];exact hs,by rw[h];rfl⟩
 |u::l,s,e,m,h,h1,hs=>⟨h.1,h.2.1,h.2.2.1,Ch.more h.2.2.2 h1 hs⟩
theorem Ch.mod{p:Array Nat}{f:Nat×Nat×Nat->Nat×Nat×Nat}(a:∀u,(f u).1=u.1/\(f u).2.1=u.2.1):∀{l:List (Nat×Nat×Nat)} {s e:Nat} (i:Nat),Ch ky p l s e->Ch ky p (l.modify i f) s e
 |[],s,e,i,h=>by simpa using h
 |u::l,s,e,0,h=>by rw[List.modify_zero_cons];exact⟨(a u).1.trans h.1,by rw[(a u).2];exact h.2.1,by rw[(a u).2];exact h.2.2⟩
 |u::l,s,e,i+1,h=>by rw[List.modify_succ_cons];exact⟨h.1,h.2.1,h.2.2.1,Ch.mod a i h.2.2.2⟩
noncomputable def put{α:Type}(p:Array α)(s:Nat)(l:List α)(k:Nat):Array α:=(l.zipIdx k).foldl (λa x=>a.setIfInBounds (s+x.2) x.1) p
theorem DK{α β:Type}(f:α->β)(s:Nat):∀(l:List α) (k:Nat) (p:Array α),put (p.map f) s (l.map f) k=(put p s l k).map f
 |[],k,p=>rfl
 |q::l,k,p=>by
  have e:(p.map f).setIfInBounds (s+k) (f q)=(p.setIfInBounds (s+k) q).map f:=by simp
  show put ((p.map f).setIfInBounds (s+k) (f q)) s (l.map f) (k+1)=_;rw[e];exact DK f s l (k+1) _
theorem NB{α:Type}(s:Nat):∀(l:List α) (k:Nat) (p:Array α),s+k+l.length<=p.size->(put p s l k).toList=p.toList.take (s+k)++l++p.toList.drop (s+k+l.length)
 |[],k,p,h=>by simp[put]
 | q :: l,k,p,h => by
  simp only[Bu] at h;have a:=NB s l (k+1) (p.setIfInBounds (s+k) q) (by simp;lia);show(put (p.setIfInBounds (s+k) q) s l (k+1)).toList=_;have b:s+k<p.toList.length:=by simp;lia
  rw[a,Array.toList_setIfInBounds,show s+(k+1)=s+k+1 by lia,List.drop_set_of_lt (by lia),List.take_set,Rh,Bf b];simp only[Bu,Option.toList_some];rw[show s+k+(l.length+1)=s+k+1+l.length by lia];have c:(p.toList.take (s+k)++[p.toList[s+k]]).set (s+k) q=p.toList.take (s+k)++[q]:=by
   have d:(p.toList.take (s+k)).length=s+k:=by rw[Bt];lia
   rw[Fb _ _ (by lia),d,Nat.sub_self];rfl
  rw[c];simp
theorem nU{p t:Array Nat}{s:Nat}(h:s+t.size<=p.size)(i:Nat):(put p s t.toList 0).getD i 0=if s<=i/\i<s+t.size then t.getD (i - s) 0 else p.getD i 0:=by
 have e:=NB s t.toList 0 p (by simpa using h);simp only[Gv,<-Array.getElem?_toList];rw[e,Ph,Bh];have a:(p.toList.take s).length=s:=by rw[Bt];show min s p.size=s;lia
 by_cases h1:i<s
 ·rw[if_neg (by lia),Af (by lia),Cc h1]
 ·rw [Bj (by lia),a]
  by_cases h2:i<s+t.size
  ·rw[if_pos (by lia),Af (by show i - s<t.size;lia)]
  ·rw [if_neg (by lia),Bj (by show t.size <= i - s;lia),List.getElem?_drop]
   congr 2;show s+t.size+(i - s - t.size)=i;lia
def Wf(ky:Nat->Nat)(n:Nat)(lo:Nat)(x:Pu):Prop:=Pm n x.p/\Ch ky x.p x.pd.toList 0 lo/\lo<=n
theorem A1(l:List Nat)(i j:Nat)(h:i<=j):l.drop i=(l.take j).drop i++l.drop j:=by have e:=Dr (j - i) (l.drop i);rw[Rk,show i+(j - i)=j by lia,<-Ri] at e;exact e.symm
theorem Pm.put{p:Array Nat}(b:Pm n p){s m e:Nat}{t:Array Nat}(h1:s<=m)(h2:m<=e)(h:e<=n)(a:t.toList.Perm ((p.extract s m).toList++(p.extract m e).toList)):t.size=e - s/\Pm n (TS.put p s t.toList 0):=by
 have hs:=b.sz;have hl:t.toList.length=e - s:=by rw[a.length_eq];simp;lia
 refine⟨hl,?_⟩;unfold Pm;rw[NB s t.toList 0 p (by lia)];refine Jt ?_ b;rw[hl,show s+0+(e - s)=e by lia,Ph];have g:=Dr e p.toList;have d:=Dr s (p.toList.take e);have c:=A1 (p.toList.take e) s m h1;rw[Rl,Jv h2] at c;rw[Rl,Jv (by lia)] at d;rw[XD,XD,<-c] at a;have f:p.toList=p.toList.take s++(p.toList.take e).drop s++p.toList.drop e:=by rw[d,g]
 refine Jt (Gi _ (Fu _ a)) ?_;rw[<-f]
theorem D.set{ck:Nat->Nat->Bool}{F:En->Es}{x y:Pu}(h:∀e,F e=BX e y):D n ck (λe=>(MonadStateOf.set (F e):StateT Es Tw PUnit)) x (λ_=>⟨⟩) y:=λe _ E Q q=>by show kasC _ _ _ (MonadStateOf.set (F e):StateT Es Tw PUnit) Q _ _;rw[h e];unfold kasC;exact An q
theorem Pm.al{p:Array Nat}(h:Pm n p):Al n p:=λi hi=>h.lt (by rw[<-h.sz];exact hi)
theorem PF{p:Array Nat}{i j k:Nat}(e:j<=p.size)(d:i+k<j):(p.extract i j).getD k 0=p.getD (i+k) 0:=by
 have h1:i+k<p.size:=by lia
 have a:k<min j p.size - i:=by lia
 have c:p.getD (i+k) 0=p[i+k]:=by simp[Gc,h1]
 have b:(p.extract i j).getD k 0=(p.extract i j)[k]'(by simpa using a):=by simp[Gc,a]
 rw[c,b,Array.getElem_extract]
theorem VN{p:Array Nat}{i j:Nat}(a:j<=p.size):(p.extract i j).size=j - i:=by simp;lia
theorem Al.ext{p:Array Nat}(h:Al n p){i j:Nat}(a:j<=p.size):Al n (p.extract i j):=λk b=>by rw[VN a] at b;rw[PF a (by lia)];exact h _ (by lia)
theorem So.ext{p:Array Nat}{i j:Nat}(h:So ky p i j)(c:j<=p.size):So ky (p.extract i j) 0 (p.extract i j).size:=λa b h1 h2 d=>by rw[VN c] at d;unfold kt;rw[PF c (by lia),PF c (by lia)];exact h _ _ (by lia) (by lia) (by lia)
theorem eW{p:Array Nat}{y:Nat}(h:y∈p.toList):∃c,c<p.size/\y=p.getD c 0:=by obtain⟨c,hc,e⟩:=Jw h;have hc:c<p.size:=hc;refine⟨c,hc,?_⟩;rw[<-e];simp[Gc,hc]
theorem NZ{p:Array Nat}{i j y:Nat}(a:j<=p.size)(h:y∈(p.extract i j).toList):∃c,i<=c/\c<j/\y=p.getD c 0:=by obtain⟨c,hc,e⟩:=eW h;rw[VN a] at hc;rw[PF a (by lia)] at e;exact⟨i+c,by lia,by lia,e⟩
theorem merE{a b:Array Nat}{x:Pu}{A B:En->Array Keyed}{c:Prop}{s:En->Decidable c}(r:∀e,A e=e.of a)(p:∀e,B e=e.of b)(i:Al n a)(hb:Al n b)(o:1<=a.size)(m:1<=b.size)(g:So ky a 0 a.size)(f:So ky b 0 b.size)(l:∀y∈a.toList,kt ky b 0<=ky y)(j:∀y∈b.toList,ky y<=kt ky a (a.size - 1)){d α:Type}{k:En->Array Keyed->StateT Es Tw α}{v:d->En->α}{R:d->Pu->Prop}(h:∀t y,Ms ky a b t->Sd x y->X n (lk ky) (λe=>k e (e.of t)) y v R):X n (lk ky) (λe=> @_root_.ite _ c (s e) (GX (A e) (B e)>>=k e) (GW (A e) (B e)>>=k e)) x v R:=by rw[show A=λe=>e.of a from funext r,show B=λe=>e.of b from funext p];exact X.ite (λ_=>X.bind (jQ i hb o m g f l j) λt y q=>h t y q.1 q.2) λ_=>X.bind (pF i hb o m g f l j) λt y q=>h t y q.1 q.2
theorem Vb{i lo:Nat}{x:Pu}(h:Wf ky n lo x)(hi:i+1<x.pd.size):X n (lk ky) (λ_=>mergeAt' i) x (λ(_:Unit) _=>true) (λ_ y=>Wf ky n lo y/\y.pd.size+1=x.pd.size/\∀t,lo<=t->y.p.getD t 0=x.p.getD t 0):=by
 obtain⟨v,hc,hl⟩:=h;have hsz:=v.sz;obtain⟨d,r,pw,Y⟩:∃d r pw,x.pd[i]'(by lia)=(d,r,pw):=⟨_,_,_,rfl⟩;obtain⟨f,l,qw,W⟩:∃f l qw,x.pd[i+1]'hi=(f,l,qw):=⟨_,_,_,rfl⟩;have S:x.pd[i]?=some (d,r,pw):=by rw[<-Y];simp
 have R:x.pd[i+1]?=some (f,l,qw):=by rw[<-W];simp
 have L:x.pd.toList[i]?=some (d,r,pw):=by rw[<-S];simp
 have K:x.pd.toList[i+1]?=some (f,l,qw):=by rw[<-R];simp
 obtain⟨T,c2,c3,c4,c5,s1,o⟩:=hc.two L K;dsimp only at T c2 c3 c4 c5 s1 o;have J:=λq=>hc.join (q:=q) L K;dsimp only at J;have I:((x.pd.setIfInBounds i (d,r+l,pw)).eraseIdxIfInBounds (i+1)).toList=(x.pd.toList.set i (d,r+l,pw)).eraseIdx (i+1):=by simp[Kx,hi]
 have E:((x.pd.setIfInBounds i (d,r+l,pw)).eraseIdxIfInBounds (i+1)).size+1=x.pd.size:=by rw[<-Et,I,List.length_eraseIdx_of_lt (by simpa using hi),Bz,Et];lia
 rw[<-I] at J;generalize O:(x.pd.setIfInBounds i (d,r+l,pw)).eraseIdxIfInBounds (i+1)=pd at J E;have Q:So ky x.p d (f+l)->Wf ky n lo {x with pd:=pd}/\pd.size+1=x.pd.size/\∀t,lo<=t->x.p.getD t 0=x.p.getD t 0:=λq=>⟨⟨v,J x.p (λ_ _=>rfl) q,hl⟩,E,λ_ _=>rfl⟩;refine X.go D.get ?_;have P:∀e:En,pendingOf (BX e x)=x.pd:=λe=>rfl;simp only[P,S,R];refine X.go (D.set (y:={x with pd:=pd}) λe=>by rw[<-O];rfl) ?_;refine X.go (D.elem (q:=x.p) (i:=f) (by lia)) (X.bind (gal (v.lt (by lia)) (by lia) (by lia) v.al (by rw[<-T];exact s1)) ?_);rintro k z ⟨⟨_,hk,f1,f2⟩,rfl⟩;have f1:∀c,d<=c->c<d+k->kt ky x.p c<=kt ky x.p f:=λc h1 h2=>by have:=f1 (c - d) (by lia);rw[show d+(c - d)=c by lia] at this;exact La this
 have f2:∀c,d+k<=c->c<f->kt ky x.p f<=kt ky x.p c:=λc h1 h2=>by have:=f2 (c - d) (by lia) (by lia);rw[show d+(c - d)=c by lia] at this;exact Dg this
 refine X.is (λe=>X.ret () (Q (s1.cat o λa b C G B A=>Ce (f1 a C (by lia)) (o.le (Ak _) B A)))) λhk2=>?_;rw[show d+k+(r - k) - 1=f - 1 by lia];refine X.go (D.elem (q:=x.p) (i:=f - 1) (by lia)) (X.bind (gal (v.lt (by lia)) (by lia) (by lia) v.al o) ?_);rintro m z ⟨⟨_,hm,f3,M⟩,rfl⟩;have f3:∀c,f<=c->c<f+m->kt ky x.p c<=kt ky x.p (f - 1):=λc h1 h2=>by have:=f3 (c - f) (by lia);rw[show f+(c - f)=c by lia] at this;exact Dg this
 have M:∀c,f+m<=c->c<f+l->kt ky x.p (f - 1)<=kt ky x.p c:=λc h1 h2=>by have:=M (c - f) (by lia) (by lia);rw[show f+(c - f)=c by lia] at this;exact this
 refine X.is (λe=>X.ret () (Q (s1.cat o λa b C G B A=>Ce (s1.le C (by lia) (by lia)) (M b (by lia) A)))) λZ=>?_;refine merE (a:=x.p.extract (d+k) f) (b:=x.p.extract f (f+m)) (λe=>Y3 e _ _ _) (λe=>Y3 e _ _ _) (v.al.ext (by lia)) (v.al.ext (by lia)) (by rw[VN (by lia)];lia) (by rw[VN (by lia)];lia) ((s1.sub (by lia) (Ak _)).ext (by lia)) ((o.sub (Ak _) (by lia)).ext (by lia)) (λy F=>?_) (λy F=>?_) λt w N hs=>?_
 ·obtain ⟨c,h1,h2,rfl⟩ := NZ (by lia) F
  unfold kt;rw[PF (by lia) (by lia)];exact f2 c h1 h2
 ·obtain ⟨c,h1,h2,rfl⟩ := NZ (by lia) F
  unfold kt;rw[VN (by lia),PF (by lia) (by lia),show d+k+(f - (d+k) - 1)=f - 1 by lia];exact f3 c h1 h2
 ·obtain ⟨t1,U⟩ := v.put (by lia) (by lia) (by lia) N.1
  have pa:=nU (p:=x.p) (t:=t) (s:=d+k) (by lia);have H:∀i,d+k<=i->i<f+m->∃c,d+k<=c/\c<f+m/\(TS.put x.p (d+k) t.toList 0).getD i 0=x.p.getD c 0:=λi h1 h2=>by
   rw[pa,if_pos (by lia)];rcases Cp.mp (N.1.mem_iff.mp (Wp (a:=t) (i:=i - (d+k)) (by lia))) with F|F
   ·obtain ⟨c,h1,h2,e⟩ := NZ (by lia) F
    exact⟨c,by lia,by lia,e⟩
   ·obtain ⟨c,h1,h2,e⟩ := NZ (by lia) F
    exact⟨c,by lia,by lia,e⟩
  have j:∀i,i<d+k∨f+m<=i->(TS.put x.p (d+k) t.toList 0).getD i 0=x.p.getD i 0:=λi h=>by rw[pa,if_neg (by lia)]
  have V:So ky (TS.put x.p (d+k) t.toList 0) d (f+l):=by
   refine So.cat (m:=d+k) ((s1.sub (Ak _) (by lia)).keep λi _ h=>j i (.inl h)) (So.cat (m:=f+m) (λa b C G B=>?_) ((o.sub (by lia) (Ak _)).keep λi h _=>j i (.inr h)) λa b C G B A=>?_) λa b C G B A=>?_
   ·unfold kt
    rw[pa,pa,if_pos (by lia),if_pos (by lia)];have q:=Hf.mp N.2 (a - (d+k)) (b - (d+k)) (show _<t.size by lia) (show _<t.size by lia) (by lia);have e:∀i,(h:i<t.toList.length)->t.toList[i]=t.getD i 0:=λi h=>by simp[Gc,show i<t.size from h]
    rw[e,e] at q;exact q
   ·obtain⟨c,h1,h2,e⟩:=H a C G
    unfold kt;rw[e,j b (.inr B)];by_cases hc:c<f
    ·exact Ce (s1.le (by lia) (by lia) (by lia)) (M b B A)
    ·exact o.le (by lia) (by lia) A
   ·unfold kt
    rw[j a (.inl G)];refine Ce (f1 a C G) ?_;by_cases hb:b<f+m
    ·obtain⟨c,h1,h2,e⟩:=H b B hb
     rw[e];by_cases hc:c<f
     ·exact f2 c h1 hc
     ·exact o.le (Ak _) (by lia) (by lia)
    ·rw [j b (.inr (by lia))]
     exact o.le (Ak _) (by lia) A
  refine X.go (D.modify (y:={w with p:=TS.put w.p (d+k) t.toList 0}) λe=>?_) (X.go D.get (X.ret () ?_))
  ·show Il e.κ ((e.of t).toList.zipIdx.foldl (λa x => a.setIfInBounds (d + k + x.2) x.1) (e.of w.p)) w.pd w.g none = _
   have h:=DK (Jf e.it) (d+k) t.toList 0 w.p;rw[show t.toList.map (Jf e.it)=(e.of t).toList by simp[En.of]] at h;exact congrArg (λu=>Il e.κ u w.pd w.g none) h
  ·unfold Wf
   dsimp only;rw[hs.1,hs.2];exact⟨⟨U,J _ (λi h=>j i (by lia)) V,hl⟩,E,λi h=>j i (by lia)⟩
end
section
variable{n:Nat}{ky:Nat->Nat}
theorem Wf.pw{x:Pu}{lo:Nat}(h:Wf ky n lo x)(i pw:Nat):Wf ky n lo {x with pd:=x.pd.modify i λu=>(u.1,u.2.1,pw)}:=by refine⟨h.1,?_,h.2.2⟩;show Ch ky x.p (x.pd.modify i λu=>(u.1,u.2.1,pw)).toList 0 lo;rw[Array.toList_modify];exact Ch.mod (f:=λu=>(u.1,u.2.1,pw)) (λu=>⟨rfl,rfl⟩) i h.2.1
theorem Wf.more{x:Pu}{lo m:Nat}(h:Wf ky n lo x)(h1:1<=m)(h2:lo+m<=n)(hs:So ky x.p lo (lo+m)):Wf ky n (lo+m) {x with pd:=x.pd.push (lo,m,0)}:=by refine⟨h.1,?_,h2⟩;show Ch ky x.p (x.pd.push (lo,m,0)).toList 0 (lo+m);rw[Fh];exact h.2.1.more h1 hs
theorem Wf.kept{x y:Pu}{lo:Nat}(h:Wf ky n lo x)(k:Kq n lo x y):Wf ky n lo y:=⟨k.1,by rw[k.2.1];exact h.2.1.keep λt _ a=>k.2.2 t a,h.2.2⟩
theorem runs{x:Pu}(h:Wf ky n 0 x):X n (lk ky) (λ_=>sortRuns') x (λ(_:Unit) _=>()) (λ_ y=>Pm n y.p/\So ky y.p 0 n):=by
 refine X.go D.get ?_;have B:∀e:En,(arrOf (BX e x)).size=n:=λe=>by show(e.of x.p).size=n;rw[UB,h.1.sz]
 have g:∀(e:En) (y:Pu),pendingOf (BX e y)=y.pd:=λe y=>rfl;simp only[B];generalize (sortPriv% PySem.Builtin.minRun) n n 0=v;refine X.bind (u:=λ(t:Nat) _=>(none,t)) (S:=λt y=>Wf ky n t y/\t=n) ?_ ?_
 ·refine X.range (I := λc t y => Wf ky n t y /\ n <= t + c) (t := 0) (λt y h => ⟨h.1,by have := h.1.2.2;lia⟩) ⟨h,by lia⟩ λi _ _ c lo y ⟨hw,hc⟩ => ?_
  have hl:=hw.2.2;refine X.ite (λq=>X.done lo ⟨hw,by dsimp only at q;lia⟩) λq=>?_;dsimp only at q;refine X.bind (Zx hw.1 (by dsimp only;lia) (by dsimp only;lia)) ?_;rintro m z ⟨F,G,H,hs⟩;have f:=hw.kept H;dsimp only at G;refine X.ite (λq2=>X.go D.rule (X.bind (bin f.1 (by dsimp only;lia) F (by dsimp only at q2⊢;lia) hs) λ_ N r=>X.ite (λs=>absurd s (by simp)) λ_=>X.st (P:=λ_ Z=>Wf ky n lo Z/\So ky Z.p lo (lo+min (n - lo) v)) (x:=x) ?_ ⟨f.kept r.1,r.2⟩)) λ_=>X.st (P:=λ_ Z=>Wf ky n lo Z/\So ky Z.p lo (lo+m)) (x:=x) ?_ ⟨f,hs⟩;have o:1<=min (n - lo) v:=by lia
  have j:lo+min (n - lo) v<=n:=by lia
  generalize min (n - lo) v=M at o j⊢;rotate_left;have o:=F;have j:lo+m<=n:=by lia
  generalize m=M at o j⊢
  all_goals
   rintro Z ⟨E,C⟩;refine X.go D.get ?_;simp only[g];cases hb:Z.pd.back? with
   |none=>exact X.go (D.modify (y:={Z with pd:=Z.pd.push (lo,M,0)}) λe=>rfl) (X.yield (lo+M) ⟨E.more o j C,by lia⟩)
   |some u=>
    obtain⟨s1,w,q1⟩:=u;dsimp only;generalize K:(sortPriv% PySem.Builtin.power) n (2*s1+w) (2*s1+w+w+M) n=pw;refine X.bind (u:=λ(_:Unit) _=>(none,())) (S:=λ_ y=>Wf ky n lo y/\So ky y.p lo (lo+M)) ?_ λ_ y d=>?_
    ·refine X.range (I := λ_ _ y => Wf ky n lo y /\ So ky y.p lo (lo + M)) (t := ()) (λt y h => h) ⟨E,C⟩ λi _ _ k _ y d => ?_
     refine X.go D.get ?_;simp only[g];by_cases hs:y.pd.size>1
     ·rw[if_pos hs]
      cases Q:y.pd[y.pd.size - 2]? with
      |none=>exact X.done () d
      |some u=>
       obtain⟨o1,o2,O⟩:=u;dsimp only;exact X.ite (λ_=>X.done () d) λ_=>X.bind (Vb d.1 (by lia)) λ_ y h=>X.ite (λs=>absurd s (by simp)) λ_=>X.yield () ⟨h.1,d.2.keep λt J _=>h.2.2 t J⟩
     ·rw[if_neg hs]
      exact X.done () d
    ·refine X.go (D.modify (y := { y with pd := y.pd.modify (y.pd.size - 1) λu => (u.1,u.2.1,pw) }) λe => rfl) ?_
     exact X.go (D.modify (y:={y with pd:=(y.pd.modify (y.pd.size - 1) λu=>(u.1,u.2.1,pw)).push (lo,M,0)}) λe=>rfl) (X.yield (lo+M) ⟨(d.1.pw _ pw).more o j d.2,by lia⟩)
 ·rintro lo y ⟨hw,rfl⟩
  refine X.bind (u:=λ(_:Unit) _=>(none,())) (S:=λ_ y=>Wf ky lo lo y/\y.pd.size<=1) ?_ λ_ y h=>X.ret () ⟨h.1.1,?_⟩
  ·refine X.range (I := λc _ y => Wf ky lo lo y /\ y.pd.size <= c + 1) (t := ()) (λt y h => h) ⟨hw,by have := hw.2.1.len;rw [Et] at this;lia⟩ λi _ _ k _ y ⟨hw,hc⟩ => ?_
   refine X.go D.get ?_;simp only[g];refine X.ite (λq=>X.done () ⟨hw,q⟩) λq=>?_;have A:∀(c:Prop) [Decidable c],(if c then y.pd.size - 2 - 1 else y.pd.size - 2)+1<y.pd.size:=by intro c _;split<;>lia
   exact X.bind (Vb hw (A _)) λ_ y h=>X.ite (λs=>absurd s (by simp)) λ_=>X.yield () ⟨h.1,by lia⟩
  ·obtain⟨⟨_,hc,_⟩,h1⟩:=h
   rw[<-Et] at h1;generalize y.pd.toList=l at hc h1;match l,hc,h1 with
   |[],hc,_=>exact λa b _ _ h=>by rw[<-show 0=lo from hc] at h;lia
   |[u],hc,_=>
    obtain⟨_,_,h2,L⟩:=hc;rw[show 0+u.2.1=lo from L] at h2;exact h2
   |_::_::_,_,h1=>simp at h1
end
theorem Pm.id(n:Nat):Pm n (Au n).toArray:=by unfold Pm;simp
noncomputable def xS(n:Nat):Pu:=⟨(Au n).toArray,#[],7⟩
theorem LL(n:Nat)(ky:Nat->Nat):∃y:Pu,(Pm n y.p/\So ky y.p 0 n)/\D n (lk ky) (λ_=>sortRuns') (xS n) (λ_=>()) y:=by obtain⟨t,y,h,d⟩:=runs (n:=n) (ky:=ky) (x:=xS n) ⟨Pm.id n,rfl,Cy _⟩;exact⟨y,h,d⟩
noncomputable def srt(n:Nat)(ky:Nat->Nat):List Nat:=if 2<=n then(LL n ky).choose.p.toList else Au n
theorem HV(n:Nat)(ky:Nat->Nat):(srt n ky).Perm (Au n):=by
 unfold srt;split
 ·exact(LL n ky).choose_spec.1.1
 ·exact .refl _
theorem zGI(n:Nat)(ky:Nat->Nat):Ss ky (srt n ky):=by
 unfold srt;split
 ·have h:=(LL n ky).choose_spec.1
  refine So.ss ?_;rw[h.1.sz];exact h.2
 ·match n with
  |0=>exact .nil
  |1=>exact Lj _ _
  |n+2=>lia
section
variable{prog:Br}{w:Tl}{A:Df}{E:Te->Ah->Prop}{s:Ah}
theorem BR(vs:List Te):(Au vs.length).map (λi=>vs.getD i Value.none)=vs:=by
 refine Kv λi=>?_;by_cases h:i<vs.length
 ·simp[h]
 ·simp[h]
theorem BW{a:Tf}{vs:List Te}{z:Nat}{κ:Qb}{ky:Nat->Nat}{P:PySem.Fin->Ah->Prop}(g:s.heap.get? a=some (Ho "list" vs.toArray z))(D:vs.length<=sizeLine)(G:2<=vs.length->∀h':Tp,(∀b o,b≠a->s.heap.get? b=some o->h'.get? b=some o)->∀u:Qb->Ah->Prop,u κ {s with heap:=h'}->Tg (Th prog w) A (keyKind' vs.toArray) u E {s with heap:=h'})(hc:∀h':Tp,(∀b o,b≠a->s.heap.get? b=some o->h'.get? b=some o)->∀i j,i<vs.length->j<vs.length->∀C:Bool->Ah->Prop,C (lk ky i j) {s with heap:=h'}->Tg (Th prog w) A (keyLt' κ (vs.getD i Value.none) (vs.getD j Value.none)) C (λ_ _=>False) {s with heap:=h'})(h:P (.done (.ret .none)) {s with heap:=sortedHeap s.heap a vs ((srt vs.length ky).map λi=>vs.getD i Value.none).toArray}):Tg (Th prog w) A (Nk.«list.sort» ⟨[.ref a],[]⟩) P E s:=by
 have lt:=Aq g;have hsz:vs.toArray.size=vs.length:=by simp
 obtain⟨J,f⟩:∃k,(s.heap.update a (Fc λ_=> #[])).get? a=some (Ho "list" #[] k):=⟨_,get?_update_seq g (λ_=> #[])⟩;have keep:∀b o,b≠a->s.heap.get? b=some o->(((s.heap.update a (Fc λ_=> #[])).push (Ho "tuple" vs.toArray 0)).push (Ho "list" #[] 0)).get? b=some o:=λb o hb m=>
  Ae _ (Ae _ (by rw[No _ _ _ _ hb];exact m))
 have c:(((s.heap.update a (Fc λ_=> #[])).push (Ho "tuple" vs.toArray 0)).push (Ho "list" #[] 0)).get? a=some (Ho "list" #[] J):=Ae _ (Ae _ f);have K:∀l:List Te,l.length=vs.length->l.toArray.size<=sizeLine+1:=λl hl=>by rw[At];lia
 rw[list_sort_plain];refine(Ac (listItems_at g rfl ?_));refine(Ac (Oe g rfl ?_ (by rw[At];lia) (Cy _)));refine(Ac (Qw f rfl ?_));refine(Ac (wpAny_newTuple ?_ (by show vs.length<=_;exact D)));refine(Ac (wpAny_newList (Cn ?_) (Cy _)))
 ·show (Tg (Th prog w) A _ P E { s with heap := (((s.heap.update a (Fc λ_ => #[])).push (Ho "tuple" vs.toArray 0)).push (Ho "list" #[] 0)) })
  dsimp only;have L:((srt vs.length ky).map λi=>vs.getD i Value.none).length=vs.length:=by rw[Cd,(HV _ _).length_eq,Ha]
  by_cases h2:vs.toArray.size<2
  ·have I : ((srt vs.length ky).map λi => vs.getD i Value.none) = vs := by unfold srt;rw[if_neg (by lia)];exact BR vs
   rw[I] at h;rw[if_pos h2,if_pos h2];refine(Ac (An ?_));rw[StateT.run_pure];refine(Ac (An ?_));dsimp only;have F:(vs.toArray.zip vs.toArray).map (·.2)=vs.toArray:=by apply Iy.mp;simp;exact List.map_snd_zip (Ak _)
   rw[F];refine(Ac (Qw c rfl (Ac (Oe c rfl ?_ (hsz2:=by rw[At];lia)))));simp only[bne_self_eq_false,Dx,if_false];exact An h
  ·rw[if_neg h2,if_neg h2]
   refine(Ac (G (by lia) _ keep _ ?_));have B:2<=vs.length:=by lia
   have spec:=(LL vs.length ky).choose_spec;have t:srt vs.length ky=(LL vs.length ky).choose.p.toList:=by unfold srt;rw[if_pos B]
   generalize (LL vs.length ky).choose=y at spec t;let e:En:=⟨prog,w,A,{s with heap:=(((s.heap.update a (Fc λ_=> #[])).push (Ho "tuple" vs.toArray 0)).push (Ho "list" #[] 0))},κ,Oz vs⟩
   have r:e.Ok vs.length (lk ky):=λi j hi H C q=>by show Tg (Th prog w) A (keyLt' κ (Jf (Oz vs) i).1 (Jf (Oz vs) j).1) C _ _;rw[Qx,Qx];exact hc _ keep i j hi H C q
   have n:Il κ (vs.toArray.zip vs.toArray) #[] 7 none=BX e (xS vs.length):=by have q:=kas_range (Oz vs);rw[pairsOf_size] at q;show Il κ (Oz vs) #[] 7 none=Il κ ((List.toArray (Au vs.length)).map (Jf (Oz vs))) #[] 7 none;rw[q]
   rw[n];have v:(e.of y.p).map (·.2)=((srt vs.length ky).map λi=>vs.getD i Value.none).toArray:=by apply Iy.mp;rw[t,Array.map_map,Array.toList_map];exact Dq λi _=>by show(Jf (Oz vs) i).2=_;rw[Qx]
   have run:=spec.2 e r E (λ_ d s'=>d=BX e y/\s'=e.s) ⟨rfl,rfl⟩;refine(Ac (Az run ?_ λ_ _ x=>x));rintro ⟨⟨⟩,d⟩ s' ⟨rfl,rfl⟩;show(Tg (Th prog w) A _ P E {s with heap:=(((s.heap.update a (Fc λ_=> #[])).push (Ho "tuple" vs.toArray 0)).push (Ho "list" #[] 0))});dsimp only;rw[show(arrOf (BX e y))=e.of y.p from rfl,v];refine(Ac (Qw c rfl (Ac (Oe c rfl ?_ (hsz2:=by rw[At];lia)))));rw[show failedOf (BX e y)=none from rfl];simp only[bne_self_eq_false,Dx,if_false];exact An h
end
section
variable{prog:Br}{w:Tl}{A:Df}{E:Te->Ah->Prop}{s:Ah}
theorem HU{l:Tf}{vs:List Te}{κ:Qb}{ky:Nat->Nat}{Q:Te->Ah->Prop}(hl:s.heap.IsList l vs.toArray)(e:vs.length<=sizeLine)(k:2<=vs.length->∀(A:Df) (E:Te->Ah->Prop) (h':Tp),(∀b o,s.heap.get? b=some o->h'.get? b=some o)->∀f:Qb->Ah->Prop,f κ {s with heap:=h'}->Tg (Th prog w) A (keyKind' vs.toArray) f E {s with heap:=h'})(hc:∀(A:Df) (h':Tp),(∀b o,s.heap.get? b=some o->h'.get? b=some o)->∀i j,i<vs.length->j<vs.length->∀C:Bool->Ah->Prop,C (lk ky i j) {s with heap:=h'}->Tg (Th prog w) A (keyLt' κ (vs.getD i Value.none) (vs.getD j Value.none)) C (λ_ _=>False) {s with heap:=h'})(h:Q (.ref (s.heap.objs.size+1)) {s with heap:=sortedAll s.heap vs ((srt vs.length ky).map λi=>vs.getD i Value.none).toArray}):Tg (Th prog w) A (call (.builtin "sorted") [.ref l]) Q E s:=by
 refine(Calls.call_function_entry kind_sorted plain_sorted entry_sorted (args_sorted1 _) ?_);unfold Nk.«sorted»;refine(Ac (m:=checkCount "sorted" 1 1 _) (An (Ac (collect_list hl (Ac (wpAny_newList ?_ (by exact e))) e))));have c:((s.heap.push (Ho "list" #[] 0)).update s.heap.objs.size (Fc (· ++vs.toArray))).objs.size=s.heap.objs.size+1:=by rw[Heap.size_update,size_push']
 have d:(((s.heap.push (Ho "list" #[] 0)).update s.heap.objs.size (Fc (· ++vs.toArray))).push (Ho "list" vs.toArray 0)).get? (s.heap.objs.size+1)=some (Ho "list" vs.toArray 0):=by rw[<-c];exact Ay _ rfl
 have keep:∀b o,s.heap.get? b=some o->(((s.heap.push (Ho "list" #[] 0)).update s.heap.objs.size (Fc (· ++vs.toArray))).push (Ho "list" vs.toArray 0)).get? b=some o/\b≠s.heap.objs.size+1:=λb o q=>by have a:b<s.heap.objs.size:=Aq q;refine⟨?_,Bk (Pa a)⟩;rw[Ij _ _ _ (by rw[c];exact(Bk (Pa a))),No _ _ _ _ (Bk a),Ij _ _ _ (Bk a)];exact q
 show(Tg _ _ _ _ _ {s with heap:=((s.heap.push (Ho "list" #[] 0)).update s.heap.objs.size (Fc (· ++vs.toArray))).push (Ho "list" vs.toArray 0)});rw[c];refine(Ac (Cn (Ep slot_list_sort ⟨_,d,rfl⟩ entry_list_sort (BW (κ:=κ) (ky:=ky) d e (λg h' k'=>k g _ _ h' λb o q=>k' b o (keep b o q).2 (keep b o q).1) (λh' k'=>hc _ h' λb o q=>k' b o (keep b o q).2 (keep b o q).1) ⟨_,rfl,?_⟩) (args_list_sort _))));exact(An ⟨_,rfl,h⟩)
noncomputable def lexP(p q:Int×Int):Bool:=if p.1=q.1 then decide (p.2<q.2) else decide (p.1<q.1)
theorem gP{x y:Tf}{a b c d:Int}{t u t' j:Tx}{C:Bool->Ah->Prop}(i:IsTup s.heap x #[.int a t,.int b u])(g:IsTup s.heap y #[.int c t',.int d j])(h:C (lexP (a,b) (c,d)) s):Tg (Th prog w) A (keyLt' (tuples' true) (.ref x) (.ref y)) C E s:=by
 obtain⟨o,i,_,n,dx⟩:=i;obtain⟨l,g,_,m,k⟩:=g;refine kat_lt i dx g k ?_;refine kat_cons (Lm (kat_go (λe=>kat_yes ?_) λe=>kat_no ?_))
 ·have e : a = c := by simpa using e
  refine kat_cons (Lm (kat_go (λf=>kat_yes (kat_nil ?_)) λf=>kat_no ?_))
  ·have f : b = d := by simpa using f
   have:lexP (a,b) (c,d)=false:=by simp[lexP,e,f]
   rw[this] at h;exact h
  ·refine kat_one _ _ (lt_int ?_)
   have:lexP (a,b) (c,d)=decide (b<d):=by simp[lexP,e]
   rw[this] at h;exact h
 ·have e : ¬ a = c := by simpa using e
  have:lexP (a,b) (c,d)=decide (a<c):=by simp[lexP,e]
  rw[this] at h;exact oneLt_int h
def PrI(h:Tp):List Te->List (Int×Int)->Prop
 |[],[]=>True
 |v::vs,p::ps=>(∃a t u,v=.ref a/\IsTup h a #[.int p.1 t,.int p.2 u])/\PrI h vs ps
 |_,_=>False
theorem PrI.keep{h h':Tp}(k:∀b o,h.get? b=some o->h'.get? b=some o):∀{vs:List Te} {ps:List (Int×Int)},PrI h vs ps->PrI h' vs ps
 |[],[],_=>trivial
 |_::_,_::_,⟨⟨a,t,u,e,q⟩,r⟩=>⟨⟨a,t,u,e,q.keeps k⟩,PrI.keep k r⟩
 |[],_::_,r=>r.elim
 |_::_,[],r=>r.elim
theorem PrI.at{h:Tp}:∀{vs:List Te} {ps:List (Int×Int)} {i:Nat},PrI h vs ps->i<vs.length->∃a t u,vs.getD i Value.none=.ref a/\IsTup h a #[.int (ps.getD i (0,0)).1 t,.int (ps.getD i (0,0)).2 u]
 |[],[],i,_,hi=>by simp at hi
 |_::_,_::_,0,r,_=>r.1
 |v::vs,p::ps,i+1,r,hi=>by have:=PrI.at (i:=i) r.2 (by simpa using hi);simpa using this
 |[],_::_,i,r,_=>r.elim
 |_::_,[],i,r,_=>r.elim
theorem PrI.tups{h:Tp}:∀{vs:List Te} {ps:List (Int×Int)},PrI h vs ps->∃fs,KatTups h vs fs/\fs.length=vs.length/\∀v∈fs,∃i t,v=.int i t
 |[],[],_=>⟨[],trivial,rfl,λ_ h=>by cases h⟩
 |_::_,_::_,⟨⟨a,t,u,e,o,d,c,n,f⟩,r⟩=>by
  obtain⟨fs,h1,h2,g⟩:=PrI.tups r;subst e;refine⟨.int _ t::fs,KatTups.cons d c f rfl h1,by simp[h2],λv b=>?_⟩;rcases Ai.mp b with rfl|b
  ·exact⟨_,_,rfl⟩
  ·exact g v b
 |[],_::_,r=>r.elim
 |_::_,[],r=>r.elim
theorem EN{α:Type}{p q:α->Bool}(h:∀x,p x=true->q x=true){a:α}(h1:p a=false)(h2:q a=true):∀{l:List α},a∈l->l.countP p<l.countP q
 |[],h=>by cases h
 | x :: l,b => by
  rw[Pw,Pw];have le:=List.countP_mono_left (p:=p) (q:=q) (l:=l) λx _=>h x;rcases Ai.mp b with rfl|b
  ·rw[h1,h2]
   simp;lia
  ·have c:=EN h h1 h2 b
   cases e:p x with
   |true=>rw[h x e];lia
   |false=>cases q x<;>simp<;>lia
noncomputable def rk{α:Type}(lt:α->α->Bool)(L:List α)(p:α):Nat:=L.countP λr=>lt r p
theorem dG{α:Type}{lt:α->α->Bool}(h1:∀p,lt p p=false)(h2:∀p q r,lt p q=true->lt q r=true->lt p r=true)(f:∀p q,lt p q=false->lt q p=false->p=q){L:List α}{p q:α}(d:p∈L)(c:q∈L):decide (rk lt L p<rk lt L q)=lt p q:=by
 cases e:lt p q with
 |true=>exact decide_eq_true (EN (λx a=>h2 x p q a e) (h1 p) e d)
 |false=>
  refine decide_eq_false (Nat.not_lt.mpr ?_);cases b:lt q p with
  |true=>exact Dg (EN (λx a=>h2 x q p a b) (h1 q) b c)
  |false=>rw[f p q e b];exact Ak _
theorem GN{α:Type}(ps:List α)(i:Nat)(z:α):ps.getD i z∈z::ps:=by
 by_cases h:i<ps.length
 ·rw [show ps.getD i z = ps[i] by simp [h]]
  exact Ao _ (Hh _)
 ·rw [show ps.getD i z = z by simp [h]]
  exact Ap
noncomputable def kyP(ps:List (Int×Int))(i:Nat):Nat:=rk lexP ((0,0)::ps) (ps.getD i (0,0))
theorem zCI(ps:List (Int×Int))(i j:Nat):lk (kyP ps) i j=lexP (ps.getD i (0,0)) (ps.getD j (0,0)):=by
 refine dG (λp=>by simp[lexP]) (λp q r h1 h2=>?_) (λp q h1 h2=>?_) (GN _ _ _) (GN _ _ _)
 ·unfold lexP at h1 h2⊢
  split at h1<;>split at h2<;>simp only[decide_eq_true_eq] at h1 h2<;>split<;>simp only[decide_eq_true_eq]<;>lia
 ·unfold lexP at h1 h2
  split at h1<;>split at h2<;>simp only[decide_eq_false_iff_not] at h1 h2<;>refine Ta ?_ ?_<;>lia
theorem J0{l:Tf}{vs:List Te}{ps:List (Int×Int)}{Q:Te->Ah->Prop}(hl:s.heap.IsList l vs.toArray)(e:vs.length<=sizeLine)(c:PrI s.heap vs ps)(h:Q (.ref (s.heap.objs.size+1)) {s with heap:=sortedAll s.heap vs ((srt vs.length (kyP ps)).map λi=>vs.getD i Value.none).toArray}):Tg (Th prog w) A (call (.builtin "sorted") [.ref l]) Q E s:=by
 refine HU (κ:=tuples' true) hl e (λp A E h' k' r q=>?_) (λA h' k' i j hi g C q=>?_) h
 ·obtain⟨fs,h1,h2,k⟩:=(c.keep k').tups
  refine kat_kind (s:={s with heap:=h'}) (T:=.type "int") h1 (by lia) (λv f=>?_) (by decide) q;obtain⟨i,t,rfl⟩:=k v f;exact Looks.now
 ·obtain⟨a,t,u,n,t1⟩:=(c.keep k').at hi
  obtain⟨b,t',o,m,d⟩:=(c.keep k').at g;rw[n,m];rw[zCI] at q;exact gP (s:={s with heap:=h'}) t1 d q
end
end TS
namespace L2
open PySem PySem.Spec PyProof.Rows
variable{X:Cx}{K:As}
noncomputable def prD:cX->Option (Int×Int)
 |.tup [.int a,.int b]=>some (a,b)
 |_=>none
noncomputable def JP:List cX->Option (List (Int×Int))
 |[]=>some []
 |d::ds=>(prD d).bind λp=>(JP ds).map λps=>p::ps
def PrV(K:As)(H:Hp):List V->List (Int×Int)->Prop
 |[],[]=>True
 |v::vs,p::ps=>(∃a,v=.ref a/\V0 K H a [.int p.1,.int p.2])/\PrV K H vs ps
 |_,_=>False
theorem lV{d:cX}{p:Int×Int}(h:prD d=some p):d=.tup [.int p.1,.int p.2]:=by
 unfold prD at h;split at h
 ·cases h;rfl
 ·cases h
theorem DH{H:Hp}{N:Tf->Prop}:∀{xs:List V} {ds:List cX} {ps:List (Int×Int)},b7 K N H xs ds->JP ds=some ps->PrV K H xs ps
 |_,_,_,.nil,h=>by cases h;trivial
 | _,_,ps,@b7.cons _ _ _ v vs d ds h t,e => by
  have e:(prD d).bind (λp=>(JP ds).map λps=>p::ps)=some ps:=e;obtain⟨p,h1,e⟩:=Aa.mp e;have e:(JP ds).map (λps=>p::ps)=some ps:=e;obtain⟨c,h2,e⟩:=Ar.mp e;cases e;have:=lV h1;subst this;refine⟨?_,DH t h2⟩;cases h with
  |tup sq r=>
   cases r with
   |cons b r=>
    cases b;cases r with
    |cons a r=>
     cases a;cases r;exact⟨_,rfl,sq⟩
theorem PrV.prI{H:Hp}{aa:List (Tf×Tq)}{σ:St}{s:Ah}(I:cE X aa σ H s):∀{xs:List V} {c:List Te} {ps:List (Int×Int)},PrV X.K H xs ps->bJ xs c->TS.PrI s.heap c ps
 |[],_,[],_,.nil=>trivial
 | _ :: _,_,_ :: _,⟨⟨a,e,q⟩,r⟩,.cons h t => by
  subst e;cases h;obtain⟨its,b,i,_⟩:=I.tuple q;cases b with
  |cons g b=>
   obtain⟨t1,rfl⟩:=g;cases b with
   |cons f b=>
    obtain⟨d,rfl⟩:=f;cases b;exact⟨⟨a,t1,d,rfl,i⟩,PrV.prI I r t⟩
 |[],_,_::_,h,_=>h.elim
 |_::_,_,[],h,_=>h.elim
theorem PrV.len{H:Hp}:∀{xs:List V} {ps:List (Int×Int)},PrV K H xs ps->xs.length=ps.length
 |[],[],_=>rfl
 |_::_,_::_,r=>by simp[PrV.len r.2]
 |[],_::_,r=>r.elim
 |_::_,[],r=>r.elim
theorem LV{xs:List V}{a:List Te}(r:bJ xs a):∀l:List Nat,(∀i∈l,i<xs.length)->bJ (l.map λi=>xs.getD i .non) (l.map λi=>a.getD i Value.none)
 |[],_=>.nil
 |i::l,h=>by
  have hi:=h i Ap;obtain⟨u,h1,h2⟩:=bJ.get (i:=i) (x:=xs[i]) r (by simp[hi]);refine .cons ?_ (LV r l λj b=>h j (Ao _ b));have d:xs.getD i .non=xs[i]:=by simp[hi]
  have c:a.getD i Value.none=u:=by simp[h1]
  show bO (xs.getD i .non) (a.getD i Value.none);rw[d,c];exact h2
noncomputable def MC(ps:List (Int×Int)):List Nat:=TS.srt ps.length (TS.kyP ps)
theorem TH(ps:List (Int×Int)):(MC ps).Perm (Au ps.length):=TS.HV _ _
def Uz(K:As):RC:=λxs H Q=>∃(p:Tf) (ys:List V) (ps:List (Int×Int)),xs=[.ref p]/\WT K H p ys/\PrV K H ys ps/\∀l:Tf,H l=none->Q (.ref l) (aN H l (.lst ((MC ps).map λi=>ys.getD i .non)))
theorem Yj(h:X.K=K):ZR X (.builtin "sorted") (Uz K):=by
 subst h;intro aa s σ H xs n Q I r h;obtain⟨p,ys,ps,rfl,j,d,q⟩:=h;obtain⟨u,rfl,f⟩:=R7 r;cases f;obtain⟨its,c,g,t⟩:=I.list j;have v:=c.length;have k:=d.len;have l:H (s.heap.objs.size+1)=none:=I.hok.fresh (Ge _);refine TS.J0 g.isList (by lia) (d.prI I c) ?_;rw[show its.length=ps.length by lia];obtain⟨e,m⟩:=sortedAll_at s.heap its ((TS.srt ps.length (TS.kyP ps)).map λi=>its.getD i Value.none).toArray;refine⟨.ref (s.heap.objs.size+1),_,I.laid (a:=s.heap.objs.size+1) (o:=.lst ((MC ps).map λi=>ys.getD i .non)) (t':=s.toks) (λb o=>sortedAll_old) (Ge _) ?_,rfl,q _ l⟩;refine⟨by rw[Cd,(TH ps).length_eq,Ha];lia,(MC ps).map λi=>its.getD i Value.none,e,LV c _ λi hi=>?_,?_⟩
 ·have:=Cr.mp ((TH ps).mem_iff.mp hi)
  lia
 ·rw[m]
  rfl
noncomputable def E5:cX->Option cX
 |.lst ds=>(JP ds).bind λps=>some (.lst ((MC ps).map λi=>ds.getD i .non))
 |_=>none
theorem LJ{H:Hp}{N:Tf->Prop}{xs:List V}{ds:List cX}(r:b7 K N H xs ds):∀l:List Nat,b7 K N H (l.map λi=>xs.getD i .non) (l.map λi=>ds.getD i .non)
 |[]=>.nil
 | i :: l => by
  have one:∀{xs:List V} {ds:List cX} (i:Nat),b7 K N H xs ds->aX K N H N (xs.getD i .non) (ds.getD i .non):=by
   intro xs ds i r;induction r using b7.rec (motive_1:=λ_ _ _ _=>True) generalizing i with
   |nil=>simpa using aX.non
   |cons h t _ a=>cases i with
    |zero=>simpa using h
    |succ i=>simpa using a i
   |_=>trivial
  exact .cons (one i r) (LJ r l)
theorem Xr:CalN K (Uz K) E5:=by
 intro H N M x d c Q e h k;cases d with
 |lst ds=>
  have h:((JP ds).bind λps=>some (cX.lst ((MC ps).map λi=>ds.getD i .non)))=some c:=h;obtain⟨ps,h1,h⟩:=Aa.mp h;cases h;obtain⟨a,xs,rfl,sq,r⟩:=e.lstE;exact⟨a,xs,ps,rfl,sq,DH r h1,λl b=>k l _ _ b (LJ r _) rfl⟩
 |_=>cases h
theorem BE:typeLookup (.type "list") ("keys":Ti)=pure none:=am_miss_of_fast (by decide+kernel)
section
variable{prog:Br}{w:Tl}{A:Df}{E:Te->Ah->Prop}{s:Ah}
theorem BC{a:Tf}{o:Tq}{xs:Array Te}{k:Nat}{Q:Option Te->Ah->Prop}(l:s.heap.get? a=some o)(hc:o.cls=.type "list")(p:o.data=.seq xs k)(m:o.dict=none)(t:A.handled=none)(h:∀h' tk,(∀b j,s.heap.get? b=some j->h'.get? b=some j)->Q none {s with heap:=h',toks:=tk}):Tg (Th prog w) A (getAttr? (.ref a) "keys") Q E s:=by
 obtain⟨c,dct,u,q⟩:=o;simp only at hc p m;subst hc p m;obtain⟨r,g,d,tk,os⟩:=s;have n:∀f,(⟨r,g,d,f,os⟩:Ah).TypeIs (.ref a) "list":=λ_=>⟨_,l,rfl⟩;have f1:=sub_AttributeError;have f3:=F.slot_list_getattribute.lookup;have z:=F.slot_list_getattribute.bind (.ref a);have y:=am_list_getattr_none;unfold getAttr? getAttrBy? getAttrBy
 (repeat (any_goals (first|assumption|exact n _|((with_reducible show Tg _ _ (call (Value.builtin "list.__getattribute__") _ _) _ _ _);refine Om F.slot_list_getattribute (n _) am_entry_list_getattribute (F.args_list_getattribute_2 _ _) (meets_getattribute_miss_list a xs k q "keys" _ BE (by decide) (by size_fits)) ⟨l,t,λh' f e i=>?_⟩)|wp_step)))
 obtain⟨t1,v,x⟩:=i.there;show(Tg _ _ (Of _ _ _ _ _ _ _) _ _ _);unfold Of
 (repeat (any_goals (first|assumption|wp_step)))
 exact h _ _ i.keeps
end
theorem KU:entryFor table "dict.update.loop"=some Nk.«dict.update.loop» :=entryFor_of_tree (by kernel_rfl)
theorem TC:plainId "dict.update.loop"=true:=by decide+kernel
def PrK(prog:Br)(w:Tl)(h:Tp):List Te->List (Z7×Te)->Prop
 |[],[]=>True
 |v::vs,p::ps=>(∃a key,v=.ref a/\IsTup h a #[key,p.2]/\(aM prog w).is p.1 key=true)/\PrK prog w h vs ps
 |_,_=>False
section
variable{prog:Br}{w:Tl}{A:Df}{E:Te->Ah->Prop}{s:Ah}
theorem PrK.keep{h h':Tp}{C:Tf->Prop}(k:∀b o,C b->h.get? b=some o->h'.get? b=some o):∀{vs:List Te} {ps:List (Z7×Te)},(∀a,Bx a∈vs->C a)->PrK prog w h vs ps->PrK prog w h' vs ps
 |[],[],_,_=>trivial
 |_::_,_::_,c,⟨⟨a,key,e,⟨o,f,r⟩,q⟩,d⟩=>⟨⟨a,key,e,⟨o,k a o (c a (by rw[e];exact Ap)) f,r⟩,q⟩,PrK.keep k (λa g=>c a (Ao _ g)) d⟩
 |[],_::_,_,r=>r.elim
 |_::_,[],_,r=>r.elim
theorem E8{a:Tf}{k v:Te}{Q:List Te->Ah->Prop}(h:IsTup s.heap a #[k,v])(q:Q [k,v] s):Tg (Th prog w) A (Lx (.ref a)) Q E s:=by obtain⟨o,b,hc,n,c⟩:=h;unfold Lx;refine(Ac (Ki (T:= "tuple") ⟨o,b,hc⟩ ?_));rw[if_pos (by decide)];exact(Ac (Fg b c (An q)))
theorem Up{R:Qj->Ah->Prop}{I D:Tf}{fp wr:List Tf}{items:Array Te}{St:Nat->Tp->Prop}(W:Walks prog w A.in1 I fp wr items.size (λi v=>items[i]?=some v) St)(c:D∉fp):∀(vs:List Te) (ps:List (Z7×Te)) (j:Nat) (i:Int) (s:Ah) (kvs:List (Z7×Te)),items.toList.drop j=vs->j+vs.length=items.size->St j s.heap->s.heap.DictOf (aM prog w) D kvs->kvs.length+vs.length<=sizeLine->PrK prog w s.heap vs ps->(∀a,Bx a∈vs->a∉wr/\a≠D)->(∀g tk,g.DictOf (aM prog w) D (ps.foldl (λl p=>Sf l p.1 p.2) kvs)->(∀b o,b∉wr->b≠D->s.heap.get? b=some o->g.get? b=some o)->R (.ok (.ret .none)) {s with heap:=g,toks:=tk})->Gp (Th prog w) A (.builtin "dict.update.loop" ⟨[.ref D,.ref I,rawInt i,.none],[]⟩) R s
 | [],ps,j,i,s,kvs,e,B,f,G,L,m,t,H => by
  have d:D∉wr:=λz=>c (W.sub _ z);cases ps with
  |cons p ps=>exact m.elim
  |nil=>
   refine codeAny_builtin KU (by rw[Mu TC _];show(Tg _ A.in1 (pyNext (.ref I)>>=_) _ _ s);refine(Ac (W.done s _ _ (by rw[show items.size=j by simpa using B.symm];exact f) λg tk kept=>?_));show(Tg _ A.in1 (Builtin.Dict.addKeywords D []>>=_) _ _ _);refine(Ac (An (An ?_)));obtain⟨o,es,J,y,r⟩:=G;exact H g tk ⟨o,es,J,kept _ _ d y,r⟩ λb o k _ e=>kept b o k e)
 | v :: vs,ps,j,i,s,kvs,e,B,f,G,L,m,t,H => by
  have d:D∉wr:=λz=>c (W.sub _ z);cases ps with
  |nil=>exact m.elim
  |cons p ps=>
   obtain⟨⟨a,key,rfl,Q,S⟩,m⟩:=m;obtain⟨P,Y⟩:=t a Ap;simp only[Bu] at B L;have V:items[j]?=some (.ref a):=by have:=congrArg (λl=>l[0]?) e;simpa using this
   have X:items.toList.drop (j+1)=vs:=by have:=congrArg List.tail e;simpa using this
   refine codeAny_builtin KU (by
    rw[Mu TC _];show(Tg _ A.in1 (pyNext (.ref I)>>=_) _ _ s);refine(Ac (W.item j s _ _ (by lia) f λv g tk pv M kept=>?_));obtain rfl:v=.ref a:=by rw[V] at pv;cases pv;rfl
    obtain⟨o,y,r⟩:=Q;obtain⟨o2,es,J,x,N⟩:=G;refine(Ac (Cn (Ac (wpAny_tryCatch (E8 (s:={s with heap:=g,toks:=tk}) ⟨o,kept _ _ P y,r⟩ ?_)))));refine(Cn (wpAny_dictSet_pairs (s:={s with heap:=g,toks:=tk}) (kvs:=kvs) S ⟨o2,es,J,kept _ _ d x,N⟩ (λU F n=>?_) (by lia)));have K:∀b o,b∉wr->b≠D->s.heap.get? b=some o->U.get? b=some o:=λb o k q e=>(n.2 b q).trans (kept b o k e);refine(An ⟨plainId_quiet TC _,Up W c vs ps (j+1) (i+1) _ (Sf kvs p.1 p.2) X (by lia) (W.frame _ _ _ M λb hb o e=>(n.2 b (λz=>c (by rw[<-z];exact hb))).trans e) F ?_ (PrK.keep (C:=λb=>b∉wr/\b≠D) (λb o hb e=>K b o hb.1 hb.2 e) (λa h=>t a (Ao _ h)) m) (λa h=>t a (Ao _ h)) ?_⟩)
    ·have:=stored_length_le kvs p.1 p.2
     lia
    ·exact λT u E O=>H T u E λb o k q e=>O b o k q (K b o k q e))
end
section
variable{prog:Br}{w:Tl}{A:Df}{E:Te->Ah->Prop}{s:Ah}
theorem ET{l:Tf}{vs:List Te}{ps:List (Z7×Te)}{Q:Te->Ah->Prop}(L:A.handled=none)(O:PlainL s.heap l vs.toArray)(R:vs.length<=sizeLine)(u:PrK prog w s.heap vs ps)(h:∀g tk,g.DictOf (aM prog w) s.heap.objs.size (ps.foldl (λl p=>Sf l p.1 p.2) [])->(∀b o,s.heap.get? b=some o->g.get? b=some o)->Q (.ref s.heap.objs.size) {s with heap:=g,toks:=tk}):Tg (Th prog w) A (call (.type "dict") [.ref l]) Q E s:=by
 refine(callType_codes (Q₁:=λobj d=>obj=.ref s.heap.objs.size/\d={s with heap:=s.heap.push {cls:=.type "dict",data:=.dict #[]}}) F.kt_called_dict (F.kt_typeCall_dict_1 _) F.entry_dict_init (kt_code_dict_new _ ⟨rfl,rfl⟩) ?_);rintro obj d ⟨rfl,rfl⟩;have I:(s.heap.push {cls:=.type "dict",data:=.dict #[]}).DictOf (aM prog w) s.heap.objs.size []:=Qm s.heap;obtain⟨o,n,K,hc,S,M⟩:=O;have r:(s.heap.push {cls:=.type "dict",data:=.dict #[]}).get? l=some o:=Ae _ K;refine⟨I.typeIs,F.args_dict_init_2 _ _,?_⟩;unfold Nk.«dict.__init__»;refine(Ac ?_);unfold Builtin.Dict.selfAndRest;refine(Ac (wpAny_notOrdered_dict I.typeIs ?_));show(Tg _ _ (pure (s.heap.objs.size,[Bx l])) _ _ _);refine(An ?_);show(Tg _ _ (Lk "dict.__init__" s.heap.objs.size (.ref l) [] .none) _ _ _);unfold Lk;refine(Ac (Ki (T:= "list") ⟨o,r,hc⟩ ?_));rw[if_pos (by decide)];refine(Ac (BC r hc M S (by simp[L]) λf B y=>?_));simp only[Option.isNone_none,if_true];refine(Ac (Gy ?_));have o1:f.get? l=some o:=y _ _ r;have od:f.get? s.heap.objs.size=some {cls:=.type "dict",data:=.dict #[]}:=y _ _ (Ay _ rfl);have j:s.heap.objs.size<f.objs.size:=Aq od;have k:l<s.heap.objs.size:=Aq K;have x:f.IsList l vs.toArray:=⟨o,o1,hc,n,M⟩;have J:∀b c,s.heap.get? b=some c->f.get? b=some c:=λb c q=>y b c (Ae _ q);have i:∀b c,s.heap.get? b=some c->b∉[f.objs.size]/\b≠s.heap.objs.size:=λb c q=>by have:=Aq q;exact⟨λz=>by rw[Bb.mp z] at this;exact absurd (Pe this j) (Cm _),λz=>by rw[z] at this;exact Cm _ this⟩
 have G:∀{vs:List Te} {ps:List (Z7×Te)},PrK prog w s.heap vs ps->∀a,Bx a∈vs->∃c,s.heap.get? a=some c:=by
  intro vs;induction vs with
  |nil=>intro ps _ a t;cases t
  |cons v vs P=>
   intro ps u a t;cases ps with
   |nil=>exact u.elim
   |cons p ps=>
    rcases Ai.mp t with e|t
    ·obtain⟨⟨b,key,V,⟨c,m,_⟩,_⟩,_⟩:=u
     rw[V] at e;cases e;exact⟨c,m⟩
    ·exact P u.2 a t
 refine(Ac (Gz (s:={s with heap:=f,toks:=B}) x ?_));have W:=Walks.list (prog:=prog) (w:=w) (A:=A.in1.in1) (by simp[L]) f.objs.size l (Bk (Pe k j)) vs.toArray;refine(An ⟨plainId_quiet TC _,Up (A:=A.in1) W (λz=>?_) vs ps 0 0 _ [] (by simp) (by simp) ⟨⟨_,Ay _ rfl,rfl,rfl⟩,x.push _⟩ ?_ (by simpa using R) (PrK.keep (C:=λ_=>True) (λb c _ q=>Ae _ (J b c q)) (λ_ _=>trivial) u) (λa t=>?_) λg tk H kept=>⟨rfl,h g tk H λb c q=>?_⟩⟩)
 ·rcases Ai.mp z with z|z
  ·exact absurd j (by rw[<-z];exact Cm _)
  ·rw[<- Bb.mp z] at k
   exact Cm _ k
 ·obtain⟨o2,es,U,D,N⟩:=I
  exact⟨o2,es,U,Ae _ (y _ _ D),N⟩
 ·obtain⟨c,m⟩:=G u a t
  exact i a c m
 ·exact kept b c (i b c q).1 (i b c q).2 (Ae _ (J b c q))
end
variable{X:Cx}{K:As}{H:Hp}{σ:St}{s:Ah}{aa:List (Tf×Tq)}{ml:List Nat}{pa ta ia:Bool}{fa:VF}{a:Tj}{p' pos:Pos}
noncomputable def kprD:cX->Option (Z7×cX)
 |.tup [k,v]=>(VT k).map λa=>(a,v)
 |_=>none
noncomputable def R0:List cX->Option (List (Z7×cX))
 |[]=>some []
 |d::ds=>(kprD d).bind λp=>(R0 ds).map λps=>p::ps
def IG(K:As)(H:Hp):List V->List (Z7×V)->Prop
 |[],[]=>True
 |v::vs,p::ps=>(∃a,v=.ref a/\V0 K H a [kV p.1,p.2])/\IG K H vs ps
 |_,_=>False
theorem dJ{d:cX}{p:Z7×cX}(h:kprD d=some p):∃k,d=.tup [k,p.2]/\VT k=some p.1:=by
 unfold kprD at h;split at h
 ·rename_i k v
  cases e:VT k with
  |none=>rw[e] at h;cases h
  |some a=>rw[e] at h;cases h;exact⟨k,rfl,e⟩
 ·cases h
theorem GQ{N:Tf->Prop}:∀{xs:List V} {ds:List cX} {kds:List (Z7×cX)},b7 K N H xs ds->R0 ds=some kds->∃kvs:List (Z7×V),IG K H xs kvs/\kvs.map Cz=kds.map Cz/\b7 K N H (kvs.map Ec) (kds.map Ec)
 |_,_,_,.nil,h=>by cases h;exact⟨[],trivial,rfl,.nil⟩
 | _,_,kds,@b7.cons _ _ _ v vs d ds h t,e => by
  have e:(kprD d).bind (λp=>(R0 ds).map λps=>p::ps)=some kds:=e;obtain⟨p,h1,e⟩:=Aa.mp e;have e:(R0 ds).map (λps=>p::ps)=some kds:=e;obtain⟨l,h2,e⟩:=Ar.mp e;cases e;obtain⟨kvs,g,f,c⟩:=GQ t h2;obtain⟨k,rfl,i⟩:=dJ h1;cases h with
  |tup sq r=>
   cases r with
   |cons b r=>
    cases r with
    |cons a r=>
     cases r;have j:=b.key i;subst j;exact⟨(p.1,_)::kvs,⟨⟨_,rfl,sq⟩,g⟩,by simp[f],.cons a c⟩
theorem IG.prK(I:cE X aa σ H s):∀{xs:List V} {c:List Te} {kvs:List (Z7×V)},IG X.K H xs kvs->bJ xs c->∃ps:List (Z7×Te),KV kvs ps/\PrK X.prog X.w s.heap c ps
 |[],_,[],_,.nil=>⟨[],.nil,trivial⟩
 | _ :: _,_,p :: _,⟨⟨b,e,q⟩,r⟩,.cons h t => by
  subst e;cases h;obtain⟨ps,i,g⟩:=IG.prK I r t;obtain⟨its,a,j,_⟩:=I.tuple q;cases a with
  |cons f a=>
   cases a with
   |cons d a=>
    cases a;exact⟨(p.1,_)::ps,.cons ⟨rfl,d⟩ i,⟨b,_,rfl,j,K5 f⟩,g⟩
 |[],_,_::_,h,_=>h.elim
 |_::_,_,[],h,_=>h.elim
theorem IG.len:∀{xs:List V} {ps:List (Z7×V)},IG K H xs ps->xs.length=ps.length
 |[],[],_=>rfl
 |_::_,_::_,r=>by simp[IG.len r.2]
 |[],_::_,r=>r.elim
 |_::_,[],r=>r.elim
def Xm(K:As):RC:=λxs H Q=>∃(p:Tf) (ys:List V) (kvs:List (Z7×V)),xs=[.ref p]/\WT K H p ys/\IG K H ys kvs/\(kvs.map Cz).Nodup/\∀l:Tf,H l=none->Q (.ref l) (aN H l (.dK kvs))
theorem Zi(h:X.K=K)(hc:X.calm=true):ZR X (.type "dict") (Xm K):=by subst h;intro aa s σ H xs v Q I r h;obtain⟨p,ys,kvs,rfl,l,d,k,q⟩:=h;obtain⟨u,rfl,e⟩:=R7 r;cases e;obtain⟨its,c,j,w⟩:=I.list l;have x:=c.length;have m:=d.len;obtain⟨ps,i,f⟩:=d.prK I c;refine ET (I.ok.hd hc) j (by lia) f λg tk t kept=>?_;have n:M0 [] kvs=kvs:=K7 (acc:=[]) (by simpa using k);have b:=KV.merge i (kvs:=[]) (vs:=[]) .nil;rw[n] at b;exact⟨.ref s.heap.objs.size,_,I.laid (a:=s.heap.objs.size) (o:=.dK kvs) (t':=tk) kept (Ak _) (Uu (by lia) (beq_eq_false_iff_ne.mpr (Dn (Bk I.big))) b t),rfl,q _ (I.hok.fresh (Ak _))⟩
noncomputable def LA:cX->Option cX
 |.lst ds=>(R0 ds).bind λkds=>if(kds.map Cz).Nodup then some (.dct (kds.map Cz) (kds.map Ec)) else none
 |_=>none
def CalD(K:As)(r:RC)(o:cX->Option cX):Prop:=∀(H:Hp) (N M:Tf->Prop) (x:V) (d c:cX) (Q:VK),aX K N H M x d->o d=some c->
 (∀p (kvs:List (Z7×V)) ds,H p=none->b7 K N H (kvs.map Ec) ds->c=.dct (kvs.map Cz) ds->Q (.ref p) (aN H p (.dK kvs)))->r [x] H Q
theorem Xv:CalD K (Xm K) LA:=by
 intro H N M x d c Q j h k;cases d with
 |lst ds=>
  have h:((R0 ds).bind λkds=>if(kds.map Cz).Nodup then some (cX.dct (kds.map Cz) (kds.map Ec)) else none)=some c:=h;obtain⟨kds,h1,h⟩:=Aa.mp h;have h:(if(kds.map Cz).Nodup then some (cX.dct (kds.map Cz) (kds.map Ec)) else none)=some c:=h;split at h
  ·rename_i i
   cases h;obtain⟨a,xs,rfl,sq,r⟩:=j.lstE;obtain⟨kvs,g,e,f⟩:=GQ r h1;exact⟨a,xs,kvs,rfl,sq,g,by rw[e];exact i,λl b=>k l kvs _ b f (by rw[e])⟩
  ·cases h
 |_=>cases h
theorem mkDK{B:Bs}{O:Nat->Option Tf}{H1:Hp}{δ':Ev}{p:Tf}{pu:Bool}{kvs:List (Z7×V)}{ds:List cX}(S:Z4 K ml B O H1 σ δ')(f:Fr (OA O) H H1)(s:pu=true->aP H H1)(a:H1 p=none)(r:b7 K (Nn B O) H1 (kvs.map Ec) ds):ResN K ml B O H σ pu (aN H1 p (.dK kvs)) δ' p (.dct (kvs.map Cz) ds):=
 ⟨S.laid a,f.trans (cN a).fr,λz=>(s z).trans (cN a),.dct bZ ((r.away a _ _ V9).same (cN a)),S.new a,S.fresh a⟩
theorem LZ(r:X.K=K)(hc:X.calm=true)(n:Gl X "dict")(m:X.mg "dict"=none)(g:Bo "dict"=some (.type "dict"))(o:PE X a (TV K ml pa ta true fa))(l:("dict":Ti)≠ "__name__":=by decide)(e:(("dict":Ti)==("__debug__":Ti))=false:=by decide)(b:Aj (a::[]) X.env=(false,eval a X.env)::Aj [] X.env:=by rfl):PE X (.Call (.Name "dict" p') [a] [] pos) (TN K ml pa (f1 LA fa)):=
 (VV (Zi r hc) n m g (bC o Y7 b) l e b).imp λσ H Q h=>by obtain⟨B,O,δ,d,δ',S,q,k⟩:=h;obtain⟨x,h1,h2⟩:=ML q;refine⟨B,O,δ,x,δ',S,h1,λf H1 c=>Xv H1 _ _ f x d Q c.rep h2 λp kvs ds j i b=>?_⟩;subst b;exact k p _ (mkDK c.sta c.frm c.pur j i)
end L2
namespace L2
open PySem
section
variable{α β:Type}{d x y z c:cX}{δ δ1 δ':Ev}{fa fb fc:VF}{o o':cX->cX->Option cX}{i j k n:Nat}{s:Sl}{b:Bool}{ds:List cX}
noncomputable def q0(r:Option α)(δ:Ev):Option (α×Ev):=r.map λc=>(c,δ)
@[simp] theorem q0_s{a:α}:q0 (some a) δ=some (a,δ):=rfl
@[simp] theorem fC_e:fC d δ=some (d,δ):=rfl
noncomputable def qV:Option Sl->Ev->Option (cX×Ev)
 |some (.va d),δ=>some (d,δ)
 |_,_=>none
noncomputable def qO:Option Sl->Ev->Option (cX×Ev)
 |some (.va d),δ=>some (d,δ)
 |some (.ow d),δ=>some (d,δ)
 |_,_=>none
@[simp] theorem fV_e:fV i δ=qV δ[i]? δ:=by unfold fV qV;split<;>simp_all
@[simp] theorem fO_e:fO i δ=qO δ[i]? δ:=by unfold fO qO;split<;>simp_all
@[simp] theorem qV_s:qV (some (.va d)) δ=some (d,δ):=rfl
@[simp] theorem qO_v:qO (some (.va d)) δ=some (d,δ):=rfl
@[simp] theorem qO_o:qO (some (.ow d)) δ=some (d,δ):=rfl
noncomputable def q1(o:cX->Option cX)(r:Option (cX×Ev)):Option (cX×Ev):=r.bind λp=>q0 (o p.1) p.2
@[simp] theorem f1_e{o:cX->Option cX}:f1 o fa δ=q1 o (fa δ):=rfl
@[simp] theorem q1_s{o:cX->Option cX}:q1 o (some (x,δ))=q0 (o x) δ:=rfl
noncomputable def q2(o:cX->cX->Option cX)(r:Option (cX×Ev))(fb:VF):Option (cX×Ev):=r.bind λp=>(fb p.2).bind λq=>q0 (o p.1 q.1) q.2
noncomputable def q2b(o:cX->cX->Option cX)(x:cX)(r:Option (cX×Ev)):Option (cX×Ev):=r.bind λq=>q0 (o x q.1) q.2
@[simp] theorem f2_e:f2 o fa fb δ=q2 o (fa δ) fb:=rfl
@[simp] theorem q2_s:q2 o (some (x,δ)) fb=q2b o x (fb δ):=rfl
@[simp] theorem vT:q2b o x (some (y,δ))=q0 (o x y) δ:=rfl
noncomputable def q3(o o':cX->cX->Option cX)(r:Option (cX×Ev))(fb fc:VF):Option (cX×Ev):=r.bind λp=>(fb p.2).bind λq=>(o p.1 q.1).bind λz=>match z with
 |.bl true=>(fc q.2).bind λs=>(o' q.1 s.1).map λu=>(u,s.2)
 |.bl false=>some (.bl false,q.2)
 |_=>none
noncomputable def q3b(o o':cX->cX->Option cX)(x:cX)(r:Option (cX×Ev))(fc:VF):Option (cX×Ev):=q3 o o' (some (x,[])) (λ_=>r) fc
noncomputable def q3c(o':cX->cX->Option cX)(y:cX)(δ:Ev)(fc:VF):Option cX->Option (cX×Ev)
 |some (.bl true)=>q2b o' y (fc δ)
 |some (.bl false)=>some (.bl false,δ)
 |_=>none
@[simp] theorem f3_e:f3 o o' fa fb fc δ=q3 o o' (fa δ) fb fc:=rfl
@[simp] theorem q3_s:q3 o o' (some (x,δ)) fb fc=q3b o o' x (fb δ) fc:=rfl
@[simp] theorem rB:q3b o o' x (some (y,δ)) fc=q3c o' y δ fc (o x y):=by
 simp only[q3b,q3,Aw];cases o x y with
 |none=>rfl
 |some z=>cases z with
  |bl b=>cases b<;>rfl
  |_=>rfl
@[simp] theorem qG:q3c o' y δ fc (some (.bl true))=q2b o' y (fc δ):=rfl
@[simp] theorem vi:q3c o' y δ fc (some (.bl false))=some (.bl false,δ):=rfl
noncomputable def qc(r:Option (cX×Ev))(fs:MI):Option (List cX×Ev):=r.bind λp=>(fs p.2).map λq=>(p.1::q.1,q.2)
noncomputable def qcb(x:cX)(r:Option (List cX×Ev)):Option (List cX×Ev):=r.map λq=>(x::q.1,q.2)
@[simp] theorem vO:bV δ=some ([],δ):=rfl
@[simp] theorem qE{fs:MI}:cT fa fs δ=qc (fa δ) fs:=rfl
@[simp] theorem qc_s{fs:MI}:qc (some (x,δ)) fs=qcb x (fs δ):=rfl
@[simp] theorem w9:qcb x (some (ds,δ))=some (x::ds,δ):=rfl
noncomputable def qT(g:List cX->cX)(r:Option (List cX×Ev)):Option (cX×Ev):=r.bind λp=>if p.1.length<=16777216 then some (g p.1,p.2) else none
@[simp] theorem sW{fs:MI}:Z9 fs δ=qT .tup (fs δ):=rfl
@[simp] theorem vp{fs:MI}:X8 fs δ=qT .lst (fs δ):=rfl
@[simp] theorem qT_s{g:List cX->cX}:qT g (some (ds,δ))=if ds.length<=16777216 then some (g ds,δ) else none:=rfl
noncomputable def qB:Option (cX×Ev)->Option (Bool×Ev)
 |some (.bl k,δ)=>some (k,δ)
 |_=>none
@[simp] theorem fB_e:fB fa δ=qB (fa δ):=by
 unfold fB qB;cases fa δ with
 |none=>rfl
 |some p=>
  obtain⟨d,e⟩:=p;cases d<;>rfl
@[simp] theorem qB_s:qB (some (.bl b,δ))=some (b,δ):=rfl
variable{tb tb':VB}{g g':VS}
noncomputable def qAnd(r:Option (Bool×Ev))(y:VB):Option (Bool×Ev):=r.bind λp=>if p.1=true then y p.2 else some (false,p.2)
noncomputable def qOr(r:Option (Bool×Ev))(y:VB):Option (Bool×Ev):=r.bind λp=>if p.1=true then some (true,p.2) else y p.2
noncomputable def qNot(r:Option (Bool×Ev)):Option (Bool×Ev):=r.map λp=>(!p.1,p.2)
@[simp] theorem uI:N8 tb tb' δ=qAnd (tb δ) tb':=rfl
@[simp] theorem rJ:EI tb tb' δ=qOr (tb δ) tb':=rfl
@[simp] theorem vA:Q9 tb δ=qNot (tb δ):=rfl
@[simp] theorem EJ:W2 δ=some (true,δ):=rfl
@[simp] theorem vV:qAnd (some (true,δ)) tb=tb δ:=rfl
@[simp] theorem vL:qAnd (some (false,δ)) tb=some (false,δ):=rfl
@[simp] theorem tI:qOr (some (true,δ)) tb=some (true,δ):=rfl
@[simp] theorem ua:qOr (some (false,δ)) tb=tb δ:=rfl
@[simp] theorem vP:qNot (some (b,δ))=some (!b,δ):=rfl
noncomputable def qA(r:Option (cX×Ev))(y:VF):Option (cX×Ev):=r.bind λp=>match p.1 with
 |.bl true=>y p.2
 |.bl false=>some (.bl false,p.2)
 |_=>none
noncomputable def qR(r:Option (cX×Ev))(y:VF):Option (cX×Ev):=r.bind λp=>match p.1 with
 |.bl false=>y p.2
 |.bl true=>some (.bl true,p.2)
 |_=>none
noncomputable def qN(r:Option (cX×Ev)):Option (cX×Ev):=r.bind λp=>match p.1 with
 |.bl k=>some (.bl (!k),p.2)
 |_=>none
@[simp] theorem pM:SA fa fb δ=qA (fa δ) fb:=rfl
@[simp] theorem uo:fOr fa fb δ=qR (fa δ) fb:=rfl
@[simp] theorem tS:fNot fa δ=qN (fa δ):=rfl
@[simp] theorem qA_t:qA (some (.bl true,δ)) fb=fb δ:=rfl
@[simp] theorem qA_f:qA (some (.bl false,δ)) fb=some (.bl false,δ):=rfl
@[simp] theorem qR_t:qR (some (.bl true,δ)) fb=some (.bl true,δ):=rfl
@[simp] theorem qR_f:qR (some (.bl false,δ)) fb=fb δ:=rfl
@[simp] theorem qN_s:qN (some (.bl b,δ))=some (.bl (!b),δ):=rfl
noncomputable def qI(r:Option (Bool×Ev))(x y:VF):Option (cX×Ev):=r.bind λp=>if p.1=true then x p.2 else y p.2
@[simp] theorem sK:CO tb fa fb δ=qI (tb δ) fa fb:=rfl
@[simp] theorem qI_t:qI (some (true,δ)) fa fb=fa δ:=rfl
@[simp] theorem qI_f:qI (some (false,δ)) fa fb=fb δ:=rfl
noncomputable def qS(r:Option Ou)(g:VS):Option Ou:=r.bind λo=>match o with
 |.nx δ'=>g δ'
 |o=>some o
@[simp] theorem uJ:Z2 δ=some (.nx δ):=rfl
@[simp] theorem FH:cC g g' δ=qS (g δ) g':=rfl
@[simp] theorem qS_n:qS (some (.nx δ)) g=g δ:=rfl
@[simp] theorem qS_r:qS (some (.rt d δ)) g=some (.rt d δ):=rfl
@[simp] theorem qS_b:qS (some (.bk δ)) g=some (.bk δ):=rfl
@[simp] theorem qS_c:qS (some (.ct δ)) g=some (.ct δ):=rfl
noncomputable def qJ(r:Option (Bool×Ev))(x y:VS):Option Ou:=r.bind λp=>if p.1=true then x p.2 else y p.2
@[simp] theorem vI:XB tb g g' δ=qJ (tb δ) g g':=rfl
@[simp] theorem qJ_t:qJ (some (true,δ)) g g'=g δ:=rfl
@[simp] theorem qJ_f:qJ (some (false,δ)) g g'=g' δ:=rfl
noncomputable def qRet(r:Option (cX×Ev)):Option Ou:=r.map λp=>.rt p.1 p.2
noncomputable def Xi(r:Option (cX×Ev)):Option Ou:=r.map λp=>.nx p.2
@[simp] theorem vn:bU fa δ=qRet (fa δ):=rfl
@[simp] theorem pX:qRet (some (d,δ))=some (.rt d δ):=rfl
@[simp] theorem wg:DW fa δ=Xi (fa δ):=rfl
@[simp] theorem uK:Xi (some (d,δ))=some (.nx δ):=rfl
noncomputable def qx(f:cX->Sl)(r:Option (cX×Ev)):Option (Sl×Ev):=r.map λp=>(f p.1,p.2)
@[simp] theorem xV_e:xV fa δ=qx .va (fa δ):=rfl
@[simp] theorem xO_e:xO fa δ=qx .ow (fa δ):=rfl
@[simp] theorem qx_s{f:cX->Sl}:qx f (some (d,δ))=some (f d,δ):=rfl
noncomputable def qSet(i:Nat)(r:Option (Sl×Ev)):Option Ou:=r.bind λp=>if i<p.2.length then some (.nx (p.2.set i p.1)) else none
@[simp] theorem rN{x:VX}:Z3 i x δ=qSet i (x δ):=rfl
@[simp] theorem vN:qSet i (some (s,δ))=if i<δ.length then some (.nx (δ.set i s)) else none:=rfl
noncomputable def qP2(i j:Nat)(r:Option (Sl×Ev))(y:VX):Option Ou:=r.bind λp=>(y p.2).bind λq=>if i<q.2.length/\j<q.2.length then some (.nx ((q.2.set j q.1).set i p.1)) else none
noncomputable def qP2b(i j:Nat)(s:Sl)(r:Option (Sl×Ev)):Option Ou:=r.bind λq=>if i<q.2.length/\j<q.2.length then some (.nx ((q.2.set j q.1).set i s)) else none
@[simp] theorem rE{x y:VX}:HP i j x y δ=qP2 i j (x δ) y:=rfl
@[simp] theorem uQ{y:VX}:qP2 i j (some (s,δ)) y=qP2b i j s (y δ):=rfl
@[simp] theorem tT{s':Sl}:qP2b i j s (some (s',δ))=if i<δ.length/\j<δ.length then some (.nx ((δ.set j s').set i s)) else none:=rfl
noncomputable def qP3(i j k:Nat)(r:Option (Sl×Ev))(y z:VX):Option Ou:=r.bind λp=>(y p.2).bind λq=>(z q.2).bind λr=>if i<r.2.length/\j<r.2.length/\k<r.2.length then some (.nx (((r.2.set k r.1).set j q.1).set i p.1)) else none
noncomputable def qP3b(i j k:Nat)(s:Sl)(r:Option (Sl×Ev))(z:VX):Option Ou:=r.bind λq=>(z q.2).bind λr=>if i<r.2.length/\j<r.2.length/\k<r.2.length then some (.nx (((r.2.set k r.1).set j q.1).set i s)) else none
noncomputable def qP3c(i j k:Nat)(s s':Sl)(r:Option (Sl×Ev)):Option Ou:=r.bind λr=>if i<r.2.length/\j<r.2.length/\k<r.2.length then some (.nx (((r.2.set k r.1).set j s').set i s)) else none
@[simp] theorem pZ{x y z:VX}:NF i j k x y z δ=qP3 i j k (x δ) y z:=rfl
@[simp] theorem pI{y z:VX}:qP3 i j k (some (s,δ)) y z=qP3b i j k s (y δ) z:=rfl
@[simp] theorem w6{s':Sl}{z:VX}:qP3b i j k s (some (s',δ)) z=qP3c i j k s s' (z δ):=rfl
@[simp] theorem sU{s' a:Sl}:qP3c i j k s s' (some (a,δ))=if i<δ.length/\j<δ.length/\k<δ.length then some (.nx (((δ.set k a).set j s').set i s)) else none:=rfl
@[simp] theorem GK:gN i d δ=some (δ.set i (.va d)):=rfl
noncomputable def qg(r:Option Ev)(a:VGs)(ds:List cX):Option Ev:=r.bind λδ1=>a ds δ1
@[simp] theorem rR:YM [] δ=some δ:=rfl
@[simp] theorem sQ{gg:VG}{a:VGs}:bR gg a (d::ds) δ=qg (gg d δ) a ds:=rfl
@[simp] theorem qg_s{a:VGs}:qg (some δ) a ds=a ds δ:=rfl
@[simp] theorem pK{a:VGs}:NX n a (.tup ds) δ=if ds.length=n then a ds δ else none:=rfl
@[simp] theorem uV{a:VGs}:NX n a (.lst ds) δ=if ds.length=n then a ds δ else none:=rfl
noncomputable def qAsg(r:Option (cX×Ev))(gg:VG):Option Ou:=r.bind λp=>(gg p.1 p.2).map Ou.nx
@[simp] theorem wj{gg:VG}:MA fa gg δ=qAsg (fa δ) gg:=rfl
@[simp] theorem vm{gg:VG}:qAsg (some (d,δ)) gg=(gg d δ).map Ou.nx:=rfl
noncomputable def qM(i:Nat)(m:List cX->List cX->Option (List cX))(r:Option (List cX))(δ:Ev)(fs:MI):Option Ou:=r.bind λ_=>(fs δ).bind λp=>(WC p.2 i).bind λds=>(m ds p.1).map λa=>.nx (p.2.set i (.ow (.lst a)))
noncomputable def qMb(i:Nat)(m:List cX->List cX->Option (List cX))(r:Option (List cX×Ev)):Option Ou:=r.bind λp=>(WC p.2 i).bind λds=>(m ds p.1).map λa=>.nx (p.2.set i (.ow (.lst a)))
noncomputable def qMc(i:Nat)(m:List cX->List cX->Option (List cX))(es:List cX)(δ:Ev)(r:Option (List cX)):Option Ou:=r.bind λds=>(m ds es).map λa=>.nx (δ.set i (.ow (.lst a)))
noncomputable def qMd(i:Nat)(δ:Ev)(r:Option (List cX)):Option Ou:=r.map λa=>.nx (δ.set i (.ow (.lst a)))
@[simp] theorem v5{m:List cX->List cX->Option (List cX)}{fs:MI}:UE i m fs δ=qM i m (WC δ i) δ fs:=rfl
@[simp] theorem qM_s{m:List cX->List cX->Option (List cX)}{fs:MI}:qM i m (some ds) δ fs=qMb i m (fs δ):=rfl
@[simp] theorem uB{m:List cX->List cX->Option (List cX)}{es:List cX}:qMb i m (some (es,δ))=qMc i m es δ (WC δ i):=rfl
@[simp] theorem tW{m:List cX->List cX->Option (List cX)}{es:List cX}:qMc i m es δ (some ds)=qMd i δ (m ds es):=rfl
@[simp] theorem qD:qMd i δ (some ds)=some (.nx (δ.set i (.ow (.lst ds)))):=rfl
noncomputable def qOl:Option Sl->Option (List cX)
 |some (.ow (.lst ds))=>some ds
 |_=>none
@[simp] theorem vf:WC δ i=qOl δ[i]? :=by unfold WC qOl;split<;>simp_all
@[simp] theorem tV:qOl (some (.ow (.lst ds)))=some ds:=rfl
@[simp] theorem vh:SD ds [d]=if ds.length<16777216 then some (ds++[d]) else none:=rfl
noncomputable def qOd:Option Sl->Option (List Z7×List cX)
 |some (.ow (.dct ks ds))=>some (ks,ds)
 |_=>none
@[simp] theorem pW:W6 δ i=qOd δ[i]? :=by unfold W6 qOd;split<;>simp_all
@[simp] theorem sI{ks:List Z7}:qOd (some (.ow (.dct ks ds)))=some (ks,ds):=rfl
noncomputable def qL(i:Nat)(r:Option (cX×Ev))(a:VF):Option Ou:=r.bind λp=>(WC p.2 i).bind λ_=>(a p.2).bind λq=>(WC q.2 i).bind λds=>match q.1 with
 |.int k=>(K4 ds.length k).map λj=>.nx (q.2.set i (.ow (.lst (ds.set j p.1))))
 |_=>none
noncomputable def qLb(i:Nat)(x:cX)(r:Option (List cX))(δ:Ev)(a:VF):Option Ou:=r.bind λ_=>(a δ).bind λq=>(WC q.2 i).bind λds=>match q.1 with
 |.int k=>(K4 ds.length k).map λj=>.nx (q.2.set i (.ow (.lst (ds.set j x))))
 |_=>none
noncomputable def qLc(i:Nat)(x:cX)(r:Option (cX×Ev)):Option Ou:=r.bind λq=>(WC q.2 i).bind λds=>match q.1 with
 |.int k=>(K4 ds.length k).map λj=>.nx (q.2.set i (.ow (.lst (ds.set j x))))
 |_=>none
noncomputable def qLd(i:Nat)(x:cX)(k:Int)(δ:Ev)(r:Option (List cX)):Option Ou:=r.bind λds=>(K4 ds.length k).map λj=>.nx (δ.set i (.ow (.lst (ds.set j x))))
@[simp] theorem vF{b a:VF}:DY i b a δ=qL i (a δ) b:=rfl
@[simp] theorem qL_s{a:VF}:qL i (some (x,δ)) a=qLb i x (WC δ i) δ a:=rfl
@[simp] theorem qW{a:VF}:qLb i x (some ds) δ a=qLc i x (a δ):=rfl
@[simp] theorem sF{k:Int}:qLc i x (some (.int k,δ))=qLd i x k δ (WC δ i):=rfl
@[simp] theorem vK{k:Int}:qLd i x k δ (some ds)=(K4 ds.length k).map λj=>.nx (δ.set i (.ow (.lst (ds.set j x)))):=rfl
noncomputable def qi(r:Option (cX×Ev)):Option (List cX×Ev):=r.bind λp=>(W8 p.1).map λds=>(ds,p.2)
@[simp] theorem rF:U1 fa δ=qi (fa δ):=rfl
@[simp] theorem qi_t:qi (some (.tup ds,δ))=some (ds,δ):=rfl
@[simp] theorem qi_l:qi (some (.lst ds,δ))=some (ds,δ):=rfl
noncomputable def qr1:Option (cX×Ev)->Option (List cX×Ev)
 |some (.int j,δ)=>if -4611686018427387904<=j/\j<4611686018427387904 then some (aG 0 j.toNat,δ) else none
 |_=>none
@[simp] theorem sB:iR1 fa δ=qr1 (fa δ):=by
 unfold iR1 qr1;cases fa δ with
 |none=>rfl
 |some p=>
  obtain⟨d,e⟩:=p;cases d<;>rfl
@[simp] theorem uh{j:Int}:qr1 (some (.int j,δ))=if -4611686018427387904<=j/\j<4611686018427387904 then some (aG 0 j.toNat,δ) else none:=rfl
noncomputable def qe(r:Option (cX×Ev)):Option (List cX×Ev):=r.bind λp=>(W8 p.1).map λds=>(Y6 0 ds,p.2)
@[simp] theorem wm:QP fa δ=qe (fa δ):=rfl
@[simp] theorem qe_t:qe (some (.tup ds,δ))=some (Y6 0 ds,δ):=rfl
@[simp] theorem qe_l:qe (some (.lst ds,δ))=some (Y6 0 ds,δ):=rfl
noncomputable def qz(r:Option (cX×Ev))(g:VF):Option (List cX×Ev):=r.bind λp=>(g p.2).bind λq=>(W8 p.1).bind λds=>(W8 q.1).map λes=>(SF ds es,q.2)
noncomputable def qzb(x:cX)(r:Option (cX×Ev)):Option (List cX×Ev):=r.bind λq=>(W8 x).bind λds=>(W8 q.1).map λes=>(SF ds es,q.2)
@[simp] theorem tH:iZip fa fb δ=qz (fa δ) fb:=rfl
@[simp] theorem qz_s:qz (some (x,δ)) fb=qzb x (fb δ):=rfl
@[simp] theorem rP:qzb x (some (y,δ))=(W8 x).bind λds=>(W8 y).map λes=>(SF ds es,δ):=rfl
@[simp] theorem rH:W8 (.tup ds)=some ds:=rfl
@[simp] theorem uR:W8 (.lst ds)=some ds:=rfl
noncomputable def qF(r:Option (List cX×Ev))(gg:VG)(g:VS):Option Ou:=r.bind λp=>WY gg g p.1 p.2
@[simp] theorem jD{a:VI}{gg:VG}:OH a gg g δ=qF (a δ) gg g:=rfl
@[simp] theorem qF_s{gg:VG}:qF (some (ds,δ)) gg g=WY gg g ds δ:=rfl
noncomputable def qK(ix:List Nat)(nl:Nat)(r:Option (List cX×Ev))(gg:VG)(tb:VB)(fe:VF):Option (cX×Ev):=r.bind λp=>(ZT ix.length nl gg tb fe p.1 [] (a9 ix p.2)).map λq=>(.lst q.1,ZC ix q.2 p.2)
noncomputable def qKb(ix:List Nat)(δ:Ev)(r:Option (List cX×Ev)):Option (cX×Ev):=r.map λq=>(.lst q.1,ZC ix q.2 δ)
@[simp] theorem wb{ix:List Nat}{nl:Nat}{a:VI}{gg:VG}:ZL ix nl a gg tb fa δ=qK ix nl (a δ) gg tb fa:=rfl
@[simp] theorem qK_s{ix:List Nat}{nl:Nat}{gg:VG}:qK ix nl (some (ds,δ)) gg tb fa=qKb ix δ (ZT ix.length nl gg tb fa ds [] (a9 ix δ)):=rfl
@[simp] theorem tZ{ix:List Nat}:qKb ix δ (some (ds,δ1))=some (.lst ds,ZC ix δ1 δ):=rfl
variable{as:List AV}{fs:IJ}{mF:List Nat}{F:bQ}
noncomputable def qa(r:Option (cX×Ev))(fs:IJ):Option (List AV×Ev):=r.bind λp=>(fs p.2).map λq=>(.d p.1::q.1,q.2)
noncomputable def qab(x:AV)(r:Option (List AV×Ev)):Option (List AV×Ev):=r.map λq=>(x::q.1,q.2)
@[simp] theorem gL:bY δ=some ([],δ):=rfl
@[simp] theorem F5:aE fa fs δ=qa (fa δ) fs:=rfl
@[simp] theorem qa_s:qa (some (x,δ)) fs=qab (.d x) (fs δ):=rfl
@[simp] theorem Uo{a:AV}:qab a (some (as,δ))=some (a::as,δ):=rfl
noncomputable def qao(j:Nat)(r:Option cX)(δ:Ev)(fs:IJ):Option (List AV×Ev):=r.bind λ_=>qab (.o j) (fs δ)
@[simp] theorem aO_e:aO j fs δ=qao j (slot δ j) δ fs:=rfl
@[simp] theorem dF:qao j (some d) δ fs=qab (.o j) (fs δ):=rfl
noncomputable def qsl:Option Sl->Option cX
 |some (.va d)=>some d
 |some (.ow d)=>some d
 |_=>none
@[simp] theorem tG:slot δ j=qsl δ[j]? :=by unfold slot qsl;split<;>simp_all
@[simp] theorem vZ:qsl (some (.va d))=some d:=rfl
@[simp] theorem tN:qsl (some (.ow d))=some d:=rfl
@[simp] theorem ud:V7 δ []=some []:=rfl
@[simp] theorem vC:V7 δ (.d d::as)=(V7 δ as).map λds=>d::ds:=rfl
@[simp] theorem vy:V7 δ (.o j::as)=(slot δ j).bind λd=>(V7 δ as).map λds=>d::ds:=rfl
noncomputable def Uv(n:Nat)(mF:List Nat)(F:bQ)(r:Option (List AV×Ev)):Option (cX×Ev):=r.bind λp=>(V7 p.2 p.1).bind λds=>if ds.length=n/\UV mF p.1 p.2=true then(F ds).bind λq=>if V3 mF p.1 q.1 q.2=true then some (q.1,VY p.1 mF q.2 p.2) else none else none
noncomputable def qCb(n:Nat)(mF:List Nat)(F:bQ)(as:List AV)(δ:Ev)(r:Option (List cX)):Option (cX×Ev):=r.bind λds=>if ds.length=n/\UV mF as δ=true then(F ds).bind λq=>if V3 mF as q.1 q.2=true then some (q.1,VY as mF q.2 δ) else none else none
noncomputable def qCc(mF:List Nat)(as:List AV)(δ:Ev)(r:Option (cX×List cX)):Option (cX×Ev):=r.bind λq=>if V3 mF as q.1 q.2=true then some (q.1,VY as mF q.2 δ) else none
@[simp] theorem NW:cL n mF F fs δ=Uv n mF F (fs δ):=rfl
@[simp] theorem iH:Uv n mF F (some (as,δ))=qCb n mF F as δ (V7 δ as):=rfl
@[simp] theorem fM:qCb n mF F as δ (some ds)=if ds.length=n/\UV mF as δ=true then qCc mF as δ (F ds) else none:=rfl
@[simp] theorem gJ{os:List cX}:qCc mF as δ (some (d,os))=if V3 mF as d os=true then some (d,VY as mF os δ) else none:=rfl
@[simp] theorem tM:C3 δ as i=(match as[i]? with
 |some (.o j)=>match δ[j]? with
  |some (.ow _)=>true
  |_=>false
 |_=>false):=rfl
@[simp] theorem wl:UO []=[]:=rfl
@[simp] theorem tX:UO (.d d::as)=UO as:=rfl
@[simp] theorem sO:UO (.o j::as)=j::UO as:=rfl
@[simp] theorem rV:UV mF as δ=(mF.all (C3 δ as)&&decide (UO as).Nodup):=rfl
@[simp] theorem tR:WG mF [] i=true:=rfl
@[simp] theorem uM:WG mF (.d d::as) i=WG mF as (i+1):=rfl
@[simp] theorem uz:WG mF (.o j::as) i=(decide (i∈mF)&&WG mF as (i+1)):=rfl
@[simp] theorem uE{os:List cX}:V3 mF as d os=((WG mF as 0 || d.hard)&&(WG mF as 0 || os.all T8)&&decide (mF.length=os.length)):=rfl
@[simp] theorem uj{os:List cX}:VY as [] os δ=δ:=by cases os<;>rfl
@[simp] theorem vc{os:List cX}{is:List Nat}:VY as (i::is) (d::os) δ=(match as[i]? with
  |some (.o j)=>VY as is os (δ.set j (.ow d))
  |_=>VY as is os δ):=rfl
@[simp] theorem sY:dflt F d ds=F (ds++[d]):=rfl
noncomputable def qH(n:Nat)(mF:List Nat)(tb:List (Ti×bQ))(fs:IJ)(δ:Ev):Option Sl->Option (cX×Ev)
 |some (.va (.fn x))=>(WB tb x).bind λF=>cL n mF F fs δ
 |_=>none
@[simp] theorem tK{tb:List (Ti×bQ)}:MM n mF tb i fs δ=qH n mF tb fs δ δ[i]? :=by unfold MM qH;split<;>simp_all
@[simp] theorem qH_s{tb:List (Ti×bQ)}{x:Ti}:qH n mF tb fs δ (some (.va (.fn x)))=(WB tb x).bind λF=>cL n mF F fs δ:=rfl
@[simp] theorem rQ:pNo δ=some (none,δ):=rfl
noncomputable def qpS:Option (cX×Ev)->Option (Option Int×Ev)
 |some (.int i,δ)=>some (some i,δ)
 |_=>none
@[simp] theorem uN:BJ fa δ=qpS (fa δ):=by
 unfold BJ qpS;cases fa δ with
 |none=>rfl
 |some p=>
  obtain⟨d,e⟩:=p;cases d<;>rfl
@[simp] theorem pR{i:Int}:qpS (some (.int i,δ))=some (some i,δ):=rfl
noncomputable def qSl(r:Option (cX×Ev))(a b:VP):Option (cX×Ev):=r.bind λp=>(a p.2).bind λl=>(b l.2).bind λu=>(oSl p.1 l.1 u.1).map λc=>(c,u.2)
noncomputable def qSlb(x:cX)(r:Option (Option Int×Ev))(a:VP):Option (cX×Ev):=r.bind λl=>(a l.2).bind λu=>(oSl x l.1 u.1).map λc=>(c,u.2)
noncomputable def qSlc(x:cX)(l:Option Int)(r:Option (Option Int×Ev)):Option (cX×Ev):=r.bind λu=>q0 (oSl x l u.1) u.2
@[simp] theorem rX{a b:VP}:A5 fa a b δ=qSl (fa δ) a b:=rfl
@[simp] theorem sT{a b:VP}:qSl (some (x,δ)) a b=qSlb x (a δ) b:=rfl
@[simp] theorem uY{l:Option Int}{a:VP}:qSlb x (some (l,δ)) a=qSlc x l (a δ):=rfl
@[simp] theorem ug{l u:Option Int}:qSlc x l (some (u,δ))=q0 (oSl x l u) δ:=rfl
@[simp] theorem qZ{l u:Option Int}:oSl (.tup ds) l u=some (.tup (VL ds l u)):=rfl
@[simp] theorem uk{l u:Option Int}:oSl (.lst ds) l u=some (.lst (VL ds l u)):=rfl
noncomputable def qSt(i j:Nat):Option (cX×Ev)->Option Ou
 |some (.tup (d::ds),δ)=>some (.nx ((δ.set i (.va d)).set j (.va (.lst ds))))
 |_=>none
@[simp] theorem rW:LN i j fa δ=qSt i j (fa δ):=by
 unfold LN qSt;cases fa δ with
 |none=>rfl
 |some p=>
  obtain⟨d,e⟩:=p;cases d with
  |tup ds=>cases ds<;>rfl
  |_=>rfl
@[simp] theorem rA:qSt i j (some (.tup (d::ds),δ))=some (.nx ((δ.set i (.va d)).set j (.va (.lst ds)))):=rfl
noncomputable def qDg(i:Nat)(r:Option (List Z7×List cX))(δ:Ev)(fk a:VF):Option (cX×Ev):=r.bind λ_=>(fk δ).bind λp=>(a p.2).bind λq=>(VT p.1).bind λk=>(W6 q.2 i).map λz=>((bD z.1 z.2 k).getD q.1,q.2)
noncomputable def qDgb(i:Nat)(r:Option (cX×Ev))(a:VF):Option (cX×Ev):=r.bind λp=>(a p.2).bind λq=>(VT p.1).bind λk=>(W6 q.2 i).map λz=>((bD z.1 z.2 k).getD q.1,q.2)
noncomputable def qDgc(i:Nat)(x:cX)(r:Option (cX×Ev)):Option (cX×Ev):=r.bind λq=>(VT x).bind λk=>(W6 q.2 i).map λz=>((bD z.1 z.2 k).getD q.1,q.2)
@[simp] theorem uD:JC i fa fb δ=qDg i (W6 δ i) δ fa fb:=rfl
@[simp] theorem tL{z:List Z7×List cX}:qDg i (some z) δ fa fb=qDgb i (fa δ) fb:=rfl
@[simp] theorem pS:qDgb i (some (x,δ)) fb=qDgc i x (fb δ):=rfl
@[simp] theorem sN:qDgc i x (some (y,δ))=(VT x).bind λk=>(W6 δ i).map λz=>((bD z.1 z.2 k).getD y,δ):=rfl
noncomputable def qDp(i:Nat)(r:Option (cX×Ev))(fk:VF):Option Ou:=r.bind λp=>(W6 p.2 i).bind λ_=>(fk p.2).bind λq=>(VT q.1).bind λk=>(W6 q.2 i).bind λz=>if z.1.length<16777216/\z.1.Nodup then some (.nx (q.2.set i (.ow (let r:=X4 z.1 z.2 k p.1;.dct r.1 r.2)))) else none
noncomputable def qDpb(i:Nat)(x:cX)(r:Option (List Z7×List cX))(δ:Ev)(fk:VF):Option Ou:=r.bind λ_=>(fk δ).bind λq=>(VT q.1).bind λk=>(W6 q.2 i).bind λz=>if z.1.length<16777216/\z.1.Nodup then some (.nx (q.2.set i (.ow (let r:=X4 z.1 z.2 k x;.dct r.1 r.2)))) else none
noncomputable def qDpc(i:Nat)(x:cX)(r:Option (cX×Ev)):Option Ou:=r.bind λq=>(VT q.1).bind λk=>(W6 q.2 i).bind λz=>if z.1.length<16777216/\z.1.Nodup then some (.nx (q.2.set i (.ow (.dct (X4 z.1 z.2 k x).1 (X4 z.1 z.2 k x).2)))) else none
@[simp] theorem v6{fk a:VF}:HM i fk a δ=qDp i (a δ) fk:=rfl
@[simp] theorem vM{fk:VF}:qDp i (some (x,δ)) fk=qDpb i x (W6 δ i) δ fk:=rfl
@[simp] theorem vQ{z:List Z7×List cX}{fk:VF}:qDpb i x (some z) δ fk=qDpc i x (fk δ):=rfl
@[simp] theorem tP:qDpc i x (some (y,δ))=(VT y).bind λk=>(W6 δ i).bind λz=>if z.1.length<16777216/\z.1.Nodup then some (.nx (δ.set i (.ow (.dct (X4 z.1 z.2 k x).1 (X4 z.1 z.2 k x).2)))) else none:=rfl
@[simp] theorem sS{i:Int}:VT (.int i)=some (.inl i):=rfl
@[simp] theorem vx{s:Ti}:VT (.str s)=some (.inr s):=rfl
noncomputable def FD(ml:List Nat):Option Ou->Option (cX×List cX)
 |some (.rt d δ)=>(UC ml δ).map λos=>(d,os)
 |some (.nx δ)=>(UC ml δ).map λos=>(.non,os)
 |_=>none
theorem cJ{ml:List Nat}:aH n ml g ds=FD ml (g (cF ml n ds)):=by
 unfold aH FD;cases g (cF ml n ds) with
 |none=>rfl
 |some o=>cases o<;>rfl
@[simp] theorem ul{ml:List Nat}:FD ml (some (.rt d δ))=(UC ml δ).map λos=>(d,os):=rfl
@[simp] theorem qU{ml:List Nat}:FD ml (some (.nx δ))=(UC ml δ).map λos=>(.non,os):=rfl
noncomputable def qow:Option Sl->Option cX
 |some (.ow d)=>some d
 |_=>none
@[simp] theorem pU:UC [] δ=some []:=rfl
@[simp] theorem qC{ml:List Nat}:UC (i::ml) δ=(qow δ[i]?).bind λd=>(UC ml δ).map λos=>d::os:=by
 unfold UC;rw[Rg];cases h:(δ[i]? :Option Sl) with
 |none=>rfl
 | some s => cases s with
  |no=>rfl
  |va d=>rfl
  |ow d=>
   show(Option.bind _ λos=>some (d::os))=Option.map (λos=>d::os) _;cases (List.mapM _ ml:Option (List cX))<;>rfl
@[simp] theorem uX:qow (some (.ow d))=some d:=rfl
end
section
variable{i j:Int}{x y:Ti}{ds es:List cX}
@[simp] theorem oI_e{C:Int->Int->Bool}{g:Int->Int->cX}:oI C g (.int i) (.int j)=if C i j=true then some (g i j) else none:=rfl
@[simp] theorem pL:ZM (.int i) (.int j)=some (.int (i+j)):=rfl
@[simp] theorem vq:ZM (.tup ds) (.tup es)=if ds.length+es.length<=16777216 then some (.tup (ds++es)) else none:=rfl
@[simp] theorem ut:ZM (.lst ds) (.lst es)=if ds.length+es.length<=16777216 then some (.lst (ds++es)) else none:=rfl
@[simp] theorem ve{g:Int->Int->Int}:o2I g (.int i) (.int j)=some (.int (g i j)):=rfl
@[simp] theorem pN:YJ (.tup ds)=some (.int ds.length):=rfl
@[simp] theorem uF:YJ (.lst ds)=some (.int ds.length):=rfl
@[simp] theorem ui:LB (.tup ds)=some (.lst ds):=rfl
@[simp] theorem uw:LB (.lst ds)=some (.lst ds):=rfl
@[simp] theorem sA:U5 (.tup ds)=some (.tup ds):=rfl
@[simp] theorem v7:U5 (.lst ds)=some (.tup ds):=rfl
@[simp] theorem vX:cB (.tup ds) (.int i)=WU ds i:=rfl
@[simp] theorem gO:cB (.lst ds) (.int i)=WU ds i:=rfl
@[simp] theorem rM{ks:List Z7}:cB (.dct ks ds) (.int i)=bD ks ds (.inl i):=rfl
@[simp] theorem qP{ks:List Z7}:cB (.dct ks ds) (.str x)=bD ks ds (.inr x):=rfl
@[simp] theorem pQ:LD (.int i)=true:=rfl
@[simp] theorem vb:LD .non=true:=rfl
@[simp] theorem vz{b:Bool}:LD (.bl b)=true:=rfl
@[simp] theorem sP:PN "int" "bool"=some false:=by decide+kernel
@[simp] theorem qX:PN "int" "int"=some true:=by decide+kernel
@[simp] theorem uq:PN "tuple" "tuple"=some true:=by decide+kernel
@[simp] theorem pT:PN "str" "str"=some true:=by decide+kernel
@[simp] theorem um:PN "list" "list"=some true:=by decide+kernel
@[simp] theorem sZ{n:String}:QV (.int i) (.ty n)=(PN "int" n).map cX.bl:=rfl
@[simp] theorem tU{n:String}:QV (.tup ds) (.ty n)=(PN "tuple" n).map cX.bl:=rfl
@[simp] theorem uf{n:String}:QV (.lst ds) (.ty n)=(PN "list" n).map cX.bl:=rfl
@[simp] theorem tD{n:String}:QV (.str x) (.ty n)=(PN "str" n).map cX.bl:=rfl
@[simp] theorem uL:G5 .non .non=some (.bl true):=rfl
@[simp] theorem ur:G5 (.int i) .non=some (.bl false):=rfl
@[simp] theorem w5:G5 (.str x) .non=some (.bl false):=rfl
@[simp] theorem w8:G5 (.tup ds) .non=some (.bl false):=rfl
@[simp] theorem vg:UA .non .non=some (.bl false):=rfl
@[simp] theorem pJ:UA (.int i) .non=some (.bl true):=rfl
@[simp] theorem vd:UA (.str x) .non=some (.bl true):=rfl
@[simp] theorem vt:UA (.tup ds) .non=some (.bl true):=rfl
end
section
variable{d x:cX}{δ δ1:Ev}{r acc:List cX}{gg:VG}{tb:VB}{fe:VF}{n nl:Nat}{g:VS}
noncomputable def qk1(n nl:Nat)(gg:VG)(tb:VB)(fe:VF)(r acc:List cX)(o:Option Ev):Option (List cX×Ev):=o.bind λδ1=>(tb δ1).bind λp=>if p.1=true then(fe p.2).bind λq=>if acc.length<16777216 then ZT n nl gg tb fe r (acc++[q.1]) (q.2.take n) else none else ZT n nl gg tb fe r acc (p.2.take n)
noncomputable def qk2(n nl:Nat)(gg:VG)(tb:VB)(fe:VF)(r acc:List cX)(o:Option (Bool×Ev)):Option (List cX×Ev):=o.bind λp=>if p.1=true then(fe p.2).bind λq=>if acc.length<16777216 then ZT n nl gg tb fe r (acc++[q.1]) (q.2.take n) else none else ZT n nl gg tb fe r acc (p.2.take n)
noncomputable def qk3(n nl:Nat)(gg:VG)(tb:VB)(fe:VF)(r acc:List cX)(o:Option (cX×Ev)):Option (List cX×Ev):=o.bind λq=>if acc.length<16777216 then ZT n nl gg tb fe r (acc++[q.1]) (q.2.take n) else none
@[simp] theorem wa:ZT n nl gg tb fe [] acc δ=some (acc,δ):=rfl
@[simp] theorem SO:ZT n nl gg tb fe (d::r) acc δ=qk1 n nl gg tb fe r acc (gg d (δ++M4 nl)):=rfl
@[simp] theorem LI:qk1 n nl gg tb fe r acc (some δ)=qk2 n nl gg tb fe r acc (tb δ):=rfl
@[simp] theorem DL:qk2 n nl gg tb fe r acc (some (true,δ))=qk3 n nl gg tb fe r acc (fe δ):=rfl
@[simp] theorem Xn:qk2 n nl gg tb fe r acc (some (false,δ))=ZT n nl gg tb fe r acc (δ.take n):=rfl
@[simp] theorem DM:qk3 n nl gg tb fe r acc (some (x,δ))=if acc.length<16777216 then ZT n nl gg tb fe r (acc++[x]) (δ.take n) else none:=rfl
noncomputable def qf1(gg:VG)(g:VS)(r:List cX)(o:Option Ev):Option Ou:=o.bind λδ1=>(g δ1).bind (again (WY gg g r))
noncomputable def qf2(gg:VG)(g:VS)(r:List cX)(o:Option Ou):Option Ou:=o.bind (again (WY gg g r))
@[simp] theorem qQ:WY gg g [] δ=some (.nx δ):=rfl
@[simp] theorem RB:WY gg g (d::r) δ=qf1 gg g r (gg d δ):=rfl
@[simp] theorem NC:qf1 gg g r (some δ)=qf2 gg g r (g δ):=rfl
@[simp] theorem ND:qf2 gg g r (some (.nx δ))=WY gg g r δ:=rfl
@[simp] theorem sD:qf2 gg g r (some (.ct δ))=WY gg g r δ:=rfl
@[simp] theorem pP:qf2 gg g r (some (.bk δ))=some (.nx δ):=rfl
@[simp] theorem Zm:qf2 gg g r (some (.rt d δ))=some (.rt d δ):=rfl
@[simp] theorem uS{ss:Ev}:ZC [] ss δ=δ:=by cases ss<;>rfl
@[simp] theorem rC{i:Nat}{is:List Nat}{ss:Ev}:ZC (i::is) (.ow d::ss) δ=ZC is ss (δ.set i (.ow d)):=rfl
@[simp] theorem uc{i:Nat}{is:List Nat}{ss:Ev}:ZC (i::is) (.va d::ss) δ=ZC is ss δ:=rfl
@[simp] theorem sV{i:Nat}{is:List Nat}{ss:Ev}:ZC (i::is) (.no::ss) δ=ZC is ss δ:=rfl
end
@[simp] theorem C4:M4 1=[.no]:=rfl
@[simp] theorem Ug:M4 2=[.no,.no]:=rfl
@[simp] theorem vB:M4 3=[.no,.no,.no]:=rfl
@[simp] theorem tJ{i:Int}:aG i 0=[]:=rfl
@[simp] theorem rD:aG 0 1=[.int 0]:=rfl
@[simp] theorem uP:aG 0 2=[.int 0,.int 1]:=rfl
@[simp] theorem uZ:aG 0 3=[.int 0,.int 1,.int 2]:=rfl
@[simp] theorem vS:aG 0 4=[.int 0,.int 1,.int 2,.int 3]:=rfl
theorem Y0{α:Type}{xs:List α}{i:Int}(a:0<=i)(h1:i<xs.length):WU xs i=xs[i.toNat]? :=by unfold WU K4;rw[if_pos a,if_pos h1];rfl
theorem EH{α:Type}{xs:List α}{i:Int}(a:0<=i)(h1:i<xs.length):∃x∈xs,WU xs i=some x:=by
 rw[Y0 a h1];have h:i.toNat<xs.length:=by lia
 exact⟨xs[i.toNat],Hh _,Bf h⟩
section
variable{F:bQ}{fa fb fc:VF}{δ:Ev}{x y z d o:cX}{j:Nat}
noncomputable def BP(δ:Ev):Option (cX×List cX)->Option (cX×Ev)
 |some (d,[])=>some (d,δ)
 |_=>none
@[simp] theorem wn:BP δ (some (d,[]))=some (d,δ):=rfl
theorem EL{n:Nat}{ds:List cX}{as:List AV}(h:V7 δ as=some ds)(a:ds.length=n)(b:UO as=[])(c:WG [] as 0=true):qCb n [] F as δ (some ds)=BP δ (F ds):=by
 have hc:UV [] as δ=true:=by simp[b]
 rw[fM,if_pos ⟨a,hc⟩];cases F ds with
 |none=>rfl
 |some q=>
  obtain⟨r,os⟩:=q;rw[gJ];cases os with
  |nil=>simp[c,BP]
  |cons o os=>simp[BP]
noncomputable def qx1(F:bQ)(r:Option (cX×Ev)):Option (cX×Ev):=r.bind λp=>BP p.2 (F [p.1])
@[simp] theorem vD:qx1 F (some (x,δ))=BP δ (F [x]):=rfl
@[simp high] theorem call1:cL 1 [] F (aE fa bY) δ=qx1 F (fa δ):=by
 rw[NW,F5];cases fa δ with
 |none=>rfl
 |some p=>exact EL (as:=[.d p.1]) rfl rfl rfl rfl
noncomputable def qx2(F:bQ)(r:Option (cX×Ev))(fb:VF):Option (cX×Ev):=r.bind λp=>(fb p.2).bind λq=>BP q.2 (F [p.1,q.1])
noncomputable def qx2b(F:bQ)(x:cX)(r:Option (cX×Ev)):Option (cX×Ev):=r.bind λq=>BP q.2 (F [x,q.1])
@[simp] theorem fX:qx2 F (some (x,δ)) fb=qx2b F x (fb δ):=rfl
@[simp] theorem uu:qx2b F x (some (y,δ))=BP δ (F [x,y]):=rfl
@[simp high] theorem call2:cL 2 [] F (aE fa (aE fb bY)) δ=qx2 F (fa δ) fb:=by
 rw[NW,F5];cases fa δ with
 |none=>rfl
 |some p=>
  rw[qa_s,F5,fX];cases fb p.2 with
  |none=>rfl
  |some q=>exact EL (as:=[.d p.1,.d q.1]) rfl rfl rfl rfl
noncomputable def qx3(F:bQ)(r:Option (cX×Ev))(fb fc:VF):Option (cX×Ev):=r.bind λp=>(fb p.2).bind λq=>(fc q.2).bind λs=>BP s.2 (F [p.1,q.1,s.1])
noncomputable def qx3b(F:bQ)(x:cX)(r:Option (cX×Ev))(fc:VF):Option (cX×Ev):=r.bind λq=>(fc q.2).bind λs=>BP s.2 (F [x,q.1,s.1])
noncomputable def qx3c(F:bQ)(x y:cX)(r:Option (cX×Ev)):Option (cX×Ev):=r.bind λs=>BP s.2 (F [x,y,s.1])
@[simp] theorem oA:qx3 F (some (x,δ)) fb fc=qx3b F x (fb δ) fc:=rfl
@[simp] theorem kF:qx3b F x (some (y,δ)) fc=qx3c F x y (fc δ):=rfl
@[simp] theorem sG:qx3c F x y (some (z,δ))=BP δ (F [x,y,z]):=rfl
@[simp high] theorem call3:cL 3 [] F (aE fa (aE fb (aE fc bY))) δ=qx3 F (fa δ) fb fc:=by
 rw[NW,F5];cases fa δ with
 |none=>rfl
 |some p=>
  rw[qa_s,F5,oA];cases fb p.2 with
  |none=>rfl
  |some q=>
   rw[qa_s,F5,kF];cases fc q.2 with
   |none=>rfl
   |some s=>exact EL (as:=[.d p.1,.d q.1,.d s.1]) rfl rfl rfl rfl
noncomputable def qw3(j:Nat)(δ:Ev):Option (cX×List cX)->Option (cX×Ev)
 |some (r,[o])=>some (r,δ.set j (.ow o))
 |_=>none
noncomputable def qw2(F:bQ)(j:Nat)(x y:cX)(δ:Ev):Option Sl->Option (cX×Ev)
 |some (.ow d)=>qw3 j δ (F [x,d,y])
 |_=>none
noncomputable def qwb(F:bQ)(j:Nat)(x:cX)(r:Option (cX×Ev)):Option (cX×Ev):=r.bind λq=>qw2 F j x q.1 q.2 q.2[j]?
noncomputable def qwa(F:bQ)(j:Nat)(x:cX)(δ:Ev)(fb:VF)(s:Option cX):Option (cX×Ev):=s.bind λ_=>qwb F j x (fb δ)
noncomputable def qw(F:bQ)(j:Nat)(r:Option (cX×Ev))(fb:VF):Option (cX×Ev):=r.bind λp=>qwa F j p.1 p.2 fb (slot p.2 j)
@[simp] theorem sX:qw3 j δ (some (x,[o]))=some (x,δ.set j (.ow o)):=rfl
@[simp] theorem vY:qw2 F j x y δ (some (.ow d))=qw3 j δ (F [x,d,y]):=rfl
@[simp] theorem mZ:qwb F j x (some (y,δ))=qw2 F j x y δ δ[j]? :=rfl
@[simp] theorem lH:qwa F j x δ fb (some d)=qwb F j x (fb δ):=rfl
@[simp] theorem qw_s:qw F j (some (x,δ)) fb=qwa F j x δ fb (slot δ j):=rfl
@[simp high] theorem callO:cL 3 [1] F (aE fa (aO j (aE fb bY))) δ=qw F j (fa δ) fb:=by
 rw[NW,F5];cases fa δ with
 |none=>rfl
 |some p=>
  obtain⟨x,δ1⟩:=p;rw[qa_s,aO_e,qw_s];cases h:slot δ1 j with
  |none=>rfl
  |some a=>
   rw[dF,F5,lH];cases fb δ1 with
   |none=>rfl
   |some q=>
    obtain⟨y,δ2⟩:=q;rw[mZ,qa_s,gL,Uo,Uo,Uo,iH];cases h2:δ2[j]? with
    |none=>simp[h2,qsl,qCb,qw2]
    |some s=>
     cases s with
     |no=>simp[h2,qsl,qCb,qw2]
     |va d=>simp[h2,qw2]
     |ow d=>
      simp[h2];cases F [x,d,y] with
      |none=>rfl
      |some r=>
       obtain⟨v,os⟩:=r;cases os with
       |nil=>simp[qw3]
       |cons o os=>
        cases os with
        |nil=>simp
        |cons o2 os=>simp[qw3]
end
def aQ:cX:=.int 999
def CJ:cX:=.tup [.str "plus",.str "minus",.str "times",.str "least",.str "most",.str "less",.str "over"]
def V4:cX:=.dct [.inr "plus",.inr "minus",.inr "times",.inr "least",.inr "most",.inr "less",.inr "over"] [.fn "plus",.fn "minus",.fn "times",.fn "least",.fn "most",.fn "less",.fn "over"]
def TU:cX:=.int 64
def TR:cX:=.int 40
def UU:cX:=.int 63
def QH:cX:=.tup [.str "row",.str "row"]
def RZ:cX:=.dct [.inr "number",.inr "pick",.inr "load",.inr "take",.inr "store",.inr "put"] [.tup [.str "word"],.tup [.str "row",.str "row",.str "row"],.tup [.str "place"],.tup [.str "place",.str "row",.str "row"],.tup [.str "place",.str "row"],.tup [.str "place",.str "row",.str "row"]]
def ZA:cX:=.tup [.str "load",.str "take"]
def bI:cX:=.tup [.str "store",.str "put"]
def UT:cX:=.int 64
def RF:VS:=
   (cC (XB (EI (fB (f2 QV (fV 0) (fC (.ty "bool")))) (Q9 (fB (f2 QV (fV 0) (fC (.ty "int"))))))
   (bU (fC (.bl false)))
   Z2)
   (bU (f3 oLe oLe (fV 1) (fV 0) (fV 2))))
def aR:bQ:=aH 3 [] RF
def EY:VS:=
   (bU (f2 OE (f2 ZM (fV 0) (fV 1)) (f2 ZM (fC aQ) (fC (.int 1)))))
def O0:bQ:=aH 2 [] EY
def JH:VS:=
   (bU (f2 OE (f2 L9 (fV 0) (fV 1)) (f2 ZM (fC aQ) (fC (.int 1)))))
def SI:bQ:=aH 2 [] JH
def JJ:VS:=
   (bU (f2 OE (f2 PX (fV 0) (fV 1)) (f2 ZM (fC aQ) (fC (.int 1)))))
def SJ:bQ:=aH 2 [] JJ
def JG:VS:=
   (bU (f2 oMin (fV 0) (fV 1)))
def SH:bQ:=aH 2 [] JG
def EV:VS:=
   (bU (f2 oMax (fV 0) (fV 1)))
def OY:bQ:=aH 2 [] EV
def EU:VS:=
   (bU (CO (fB (f2 oLt (fV 0) (fV 1))) (fC (.int 1)) (fC (.int 0))))
def OX:bQ:=aH 2 [] EU
def JI:VS:=
   (bU (CO (fB (f2 WR (fV 1) (fC (.int 0)))) (fC .non) (f2 G4 (fV 0) (fV 1))))
def TL:bQ:=aH 2 [] JI
def EX:VS:=
   (bU (CO (fB (f2 OF (fV 0) (fC (.int 0)))) (fV 1) (fV 2)))
def OZ:bQ:=aH 3 [] EX
def JF:VS:=
   (cC (XB (fB (f2 WR (fV 0) (fC (.str "pick"))))
   (bU (cL 3 [] OZ (aE (f2 cB (fV 1) (fC (.int 0))) (aE (f2 cB (fV 1) (fC (.int 1))) (aE (f2 cB (fV 1) (fC (.int 2))) bY)))))
   Z2)
   (cC (Z3 2 (xV (f2 cB (fC V4) (fV 0))))
   (bU (MM 2 [] [("plus",O0),("minus",SI),("times",SJ),("least",SH),("most",OY),("less",OX),("over",TL)] 2 (aE (f2 cB (fV 1) (fC (.int 0))) (aE (f2 cB (fV 1) (fC (.int 1))) bY))))))
def V1:bQ:=aH 3 [] JF
def MQ:VS:=
   (cC (XB (fB (f2 (aS false) (fV 0) (fC CJ)))
   (bU (fC QH))
   Z2)
   (bU (f2 Wh (fC RZ) (fV 0))))
def aC:bQ:=aH 1 [] MQ
def UZ:VS:=
   (bU (f2 (aS true) (f2 cB (fV 0) (fC (.int 0))) (fC bI)))
def YQ:bQ:=aH 1 [] UZ
def ZN:VS:=
   (bU (CO (EI (fB (f2 (aS false) (f2 cB (fV 0) (fC (.int 0))) (fC ZA))) (fB (f2 (aS false) (f2 cB (fV 0) (fC (.int 0))) (fC bI)))) (f2 cB (fV 0) (fC (.int 1))) (fC .non)))
def b5:bQ:=aH 1 [] ZN
def MP:VS:=
   (cC (LN 1 2 (fV 0))
   (bU (ZL [] 2 (iZip (cL 1 [] aC (aE (fV 1) bY)) (fV 2)) (NX 2 (bR (gN 0) (bR (gN 1) YM))) (fB (f2 WR (fV 0) (fC (.str "row")))) (fV 1))))
def Z1:bQ:=aH 3 [] MP
def RL:VS:=
   (bU (SA (cL 3 [] aR (aE (fV 0) (aE (fC (.int 0)) (aE (f2 L9 (f1 YJ (fV 1)) (fC (.int 1))) bY)))) (f2 cB (fV 1) (fV 0))))
def XJ:bQ:=aH 2 [] RL
def MN:VS:=
   (cC (XB (fB (f2 WR (fV 0) (fC (.str "word"))))
   (bU (cL 3 [] aR (aE (fV 1) (aE (fC (.int 0)) (aE (fC aQ) bY)))))
   Z2)
   (cC (XB (fB (f2 WR (fV 0) (fC (.str "place"))))
   (bU (cL 3 [] aR (aE (fV 1) (aE (fC (.int 0)) (aE (fC UU) bY)))))
   Z2)
   (bU (cL 2 [] XJ (aE (fV 1) (aE (fV 2) bY))))))
def V2:bQ:=aH 3 [] MN
def MO:VS:=
   (cC (XB (EI (Q9 (fB (f2 QV (fV 0) (fC (.ty "tuple"))))) (fB (f2 WR (f1 YJ (fV 0)) (fC (.int 0)))))
   (bU (fC (.bl false)))
   Z2)
   (cC (LN 2 3 (fV 0))
   (cC (Z3 4 (xV (CO (fB (f2 QV (fV 2) (fC (.ty "str")))) (cL 1 [] aC (aE (fV 2) bY)) (fC .non))))
   (cC (XB (EI (fB (f2 G5 (fV 4) (fC .non))) (fB (f2 OF (f1 YJ (fV 4)) (f1 YJ (fV 3)))))
   (bU (fC (.bl false)))
   Z2)
   (bU (f1 oAll (ZL [1] 2 (iZip (fV 4) (fV 3)) (NX 2 (bR (gN 1) (bR (gN 2) YM))) W2 (cL 3 [] V2 (aE (fV 1) (aE (fV 2) (aE (fV 0) bY)))))))))))
def VC:bQ:=aH 5 [] MO
def XY:VS:=
   (cC (XB (Q9 (fB (cL 2 [] VC (aE (fV 4) (aO 3 bY)))))
   (bU (fC (.bl false)))
   Z2)
   (UE 3 SD (cT (cL 1 [] YQ (aE (fV 4) bY)) bV)))
def RD:VS:=
   (cC (XB (EI (Q9 (fB (f2 QV (fV 0) (fC (.ty "tuple"))))) (fB (f2 OF (f1 YJ (fV 0)) (fC (.int 2)))))
   (bU (fC (.bl false)))
   Z2)
   (cC (MA (fV 0) (NX 2 (bR (gN 1) (bR (gN 2) YM))))
   (cC (XB (Q9 (fB (cL 3 [] aR (aE (fV 1) (aE (fC (.int 0)) (aE (fC TU) bY))))))
   (bU (fC (.bl false)))
   Z2)
   (cC (XB (EI (Q9 (fB (f2 QV (fV 2) (fC (.ty "tuple"))))) (fB (f2 oGt (f1 YJ (fV 2)) (fC TR))))
   (bU (fC (.bl false)))
   Z2)
   (cC (Z3 3 (xO (X8 bV)))
   (cC (OH (U1 (fV 2)) (gN 4)
   XY)
   (bU (fC (.bl true)))))))))
def YX:bQ:=aH 5 [] RD
def MR:VS:=
   (bU (f2 (aS false) (f2 cB (fV 0) (fC (.int 0))) (fC bI)))
def YG:bQ:=aH 1 [] MR
def XQ:VS:=
   (bU (SA (f2 WR (f2 cB (fV 0) (fC (.int 0))) (fC (.str "number"))) (f2 OF (f2 cB (fV 0) (fC (.int 1))) (fC (.int 0)))))
def ZV:bQ:=aH 1 [] XQ
def TY:VS:=
   (cC (MA (fV 0) (NX 2 (bR (gN 2) (bR (gN 3) YM))))
   (cC (Z3 4 (xV (f2 cB (fV 3) (fV 1))))
   (cC (XB (fB (f2 WR (f2 cB (fV 4) (fC (.int 0))) (fC (.str "over"))))
   (bU (fNot (cL 1 [] ZV (aE (f2 cB (fV 3) (f2 cB (fV 4) (fC (.int 2)))) bY))))
   Z2)
   (cC (Z3 5 (xV (cL 1 [] b5 (aE (fV 4) bY))))
   (bU (SA (f2 UA (fV 5) (fC .non)) (f2 oGe (fV 5) (fV 2))))))))
def YW:bQ:=aH 6 [] TY
def Y1:VS:=
   (bU (SA (f2 WR (cL 1 [] b5 (aE (fV 0) bY)) (cL 1 [] b5 (aE (fV 1) bY))) (fOr (cL 1 [] YG (aE (fV 0) bY)) (cL 1 [] YG (aE (fV 1) bY)))))
def aT:bQ:=aH 2 [] Y1
def T5:VS:=
   (cC (Z3 3 (xV (f2 cB (fV 0) (fC (.int 1)))))
   (cC (XB (EI (fB (f2 (aS false) (fV 1) (cL 1 [] Z1 (aE (f2 cB (fV 3) (fV 2)) bY)))) (fB (cL 2 [] aT (aE (f2 cB (fV 3) (fV 1)) (aE (f2 cB (fV 3) (fV 2)) bY)))))
   (bU (fC (.bl true)))
   Z2)
   (cC (HP 4 5 (xV (cL 2 [] YW (aE (fV 0) (aE (fV 1) bY)))) (xV (cL 2 [] YW (aE (fV 0) (aE (fV 2) bY)))))
   (cC (XB (N8 (fB (fV 4)) (fB (fV 5)))
   (bU (fC (.bl true)))
   Z2)
   (bU (fOr (SA (fV 4) (cL 1 [] YG (aE (f2 cB (fV 3) (fV 2)) bY))) (SA (fV 5) (cL 1 [] YG (aE (f2 cB (fV 3) (fV 1)) bY)))))))))
def Z6:bQ:=aH 6 [] T5
def U0:VS:=
   (cC (Z3 1 (xV (f1 YJ (f2 cB (fV 0) (fC (.int 1))))))
   (cC (Z3 2 (xV (PJ [1] 2 (iR1 (fV 1)) (gN 1) W2 (iR2 (f2 ZM (fV 1) (fC (.int 1))) (fV 0)) (gN 2) W2 (Z9 (cT (fV 1) (cT (fV 2) bV))))))
   (bU (ZL [0] 2 (U1 (fV 2)) (NX 2 (bR (gN 1) (bR (gN 2) YM))) (fB (cL 3 [] Z6 (aE (fV 0) (aE (fV 1) (aE (fV 2) bY))))) (Z9 (cT (fV 1) (cT (fV 2) bV)))))))
def YR:bQ:=aH 3 [] U0
def EW:VS:=
   (cC (XB (Q9 (fB (cL 1 [] YX (aE (fV 0) bY))))
   (λ_=>none)
   Z2)
   (bU (cL 1 [] YR (aE (fV 0) bY))))
def WF:bQ:=aH 1 [] EW
def RE:VS:=
   (cC (XB (EI (Q9 (fB (f2 QV (fV 0) (fC (.ty "list"))))) (Q9 (fB (f3 oLe oLe (fV 1) (f1 YJ (fV 0)) (fC UT)))))
   (bU (fC (.bl false)))
   Z2)
   (bU (f1 oAll (ZL [] 1 (U1 (fV 0)) (gN 0) W2 (cL 3 [] aR (aE (fV 0) (aE (fC (.int 0)) (aE (fC aQ) bY))))))))
def XH:bQ:=aH 2 [] RE
def SW:VS:=
   (cC (XB (fB (f2 WR (fV 0) (fC (.str "take"))))
   (bU (f2 OF (f2 cB (fV 1) (fC (.int 0))) (fC (.int 0))))
   Z2)
   (cC (XB (fB (f2 WR (fV 0) (fC (.str "put"))))
   (bU (f2 OF (f2 cB (fV 1) (fC (.int 1))) (fC (.int 0))))
   Z2)
   (bU (fC (.bl true)))))
def Y9:bQ:=aH 2 [] SW
def aW:VS:=
   (cC (XB (Q9 (fB (cL 2 [] Y9 (aE (fV 0) (aE (fV 2) bY)))))
   (bU (Z9 (cT (CO (fB (f2 WR (fV 0) (fC (.str "take")))) (f2 cB (fV 2) (fC (.int 1))) (fC .non)) (cT (fC .non) bV))))
   Z2)
   (cC (XB (fB (f2 oGe (fV 1) (f1 YJ (fO 3))))
   (bU (Z9 (cT (fC .non) (cT (fC (.str "beyond")) bV))))
   Z2)
   (cC (XB (fB (f2 (aS false) (fV 0) (fC bI)))
   (cC (DY 3 (fV 1) (f2 cB (fV 2) (fC (.int 0))))
   (bU (Z9 (cT (fC .non) (cT (fC .non) bV)))))
   Z2)
   (bU (Z9 (cT (f2 cB (fO 3) (fV 1)) (cT (fC .non) bV)))))))
def bK:bQ:=aH 4 [3] aW
def VO:VS:=
   (cC (Z3 4 (xV (f2 cB (fV 0) (fC (.int 0)))))
   (cC (XB (fB (f2 WR (fV 4) (fC (.str "number"))))
   (bU (Z9 (cT (f2 cB (fV 0) (fC (.int 1))) (cT (fC .non) bV))))
   Z2)
   (cC (Z3 5 (xV (cL 1 [] b5 (aE (fV 0) bY))))
   (cC (XB (fB (f2 UA (fV 5) (fC .non)))
   (bU (cL 4 [3] bK (aE (fV 4) (aE (f2 ZM (fV 5) (fV 3)) (aE (fV 1) (aO 2 bY))))))
   Z2)
   (cC (Z3 6 (xV (cL 2 [] V1 (aE (fV 4) (aE (fV 1) bY)))))
   (bU (Z9 (cT (fV 6) (cT (CO (fB (f2 G5 (fV 6) (fC .non))) (fC (.str "nought")) (fC .non)) bV)))))))))
def ZI:bQ:=aH 7 [2] VO
def YC:VS:=
   (cC (MA (cL 3 [2] (dflt ZI (.int 0)) (aE (fV 4) (aE (ZL [2] 1 (U1 (cL 1 [] Z1 (aE (fV 4) bY))) (gN 1) W2 (f2 cB (fO 0) (fV 1))) (aO 1 bY)))) (NX 2 (bR (gN 5) (bR (gN 6) YM))))
   (cC (XB (fB (f2 UA (fV 6) (fC .non)))
   (bU (Z9 (cT (fO 2) (cT (Z9 (cT (fV 3) (cT (fV 6) bV))) bV))))
   Z2)
   (UE 2 SD (cT (fV 5) bV))))
def SV:VS:=
   (cC (Z3 2 (xO (X8 bV)))
   (cC (OH (QP (fV 0)) (NX 2 (bR (gN 3) (bR (gN 4) YM)))
   YC)
   (bU (Z9 (cT (fO 2) (cT (fC .non) bV))))))
def XG:bQ:=aH 7 [1] SV
def TZ:VS:=
   (cC (XB (Q9 (fB (cL 1 [] YX (aE (fV 0) bY))))
   (λ_=>none)
   Z2)
   (XB (Q9 (fB (cL 2 [] XH (aE (fV 1) (aE (f2 cB (fV 0) (fC (.int 0))) bY)))))
   (λ_=>none)
   Z2))
def X9:bQ:=aH 2 [] TZ
def Ua:VS:=
   (cC (DW (cL 2 [] X9 (aE (fV 0) (aE (fV 1) bY))))
   (cC (Z3 2 (xO (f1 LB (fV 1))))
   (cC (MA (cL 2 [1] XG (aE (f2 cB (fV 0) (fC (.int 1))) (aO 2 bY))) (NX 2 (bR (gN 3) (bR (gN 4) YM))))
   (bU (Z9 (cT (fO 2) (cT (fV 4) bV)))))))
def QA:bQ:=aH 5 [] Ua
def UQ:VS:=
   (Z3 2 (xV (f2 G4 (fV 2) (fC (.int 1000003)))))
def V6:VS:=
   (cC (XB (fB (f2 oLt (fV 1) (f1 YJ (fV 0))))
   (bU (f2 cB (fV 0) (fV 1)))
   Z2)
   (cC (XB (fB (f2 WR (fV 0) (X8 bV)))
   (bU (fC (.int 0)))
   Z2)
   (cC (Z3 2 (xV (f2 cB (fV 0) (f2 OE (fV 1) (f1 YJ (fV 0))))))
   (cC (OH (iR1 (f2 oMin (f2 G4 (fV 1) (f1 YJ (fV 0))) (fC (.int 60)))) (gN 3)
   UQ)
   (bU (f2 ZM (f2 ZM (f2 PX (f2 cB (fV 0) (f2 OE (fV 1) (f1 YJ (fV 0)))) (fC (.int 31))) (fV 1)) (f2 PX (fV 2) (fC (.int 101)))))))))
def ZX:bQ:=aH 4 [] V6
def T3:VS:=
   (cC (Z3 3 (xV (f2 OE (f2 ZM (f2 ZM (f2 PX (cL 2 [] ZX (aE (fV 0) (aE (fV 1) bY))) (fC (.int 1103515245))) (f2 PX (fC (.int 7919)) (fV 1))) (fC (.int 12345))) (fC (.int 2147483647)))))
   (bU (f2 OE (f2 OE (f2 OE (f2 oPow (fV 3) (fC (.int 5))) (fC (.int 2147483647))) (fC (.int 999983))) (fV 2))))
def YB:bQ:=aH 4 [] T3
def RG:VS:=
   (cC (UE 1 SD (cT (fC (.int 0)) bV))
   (bU (cL 3 [] YB (aE (fV 0) (aE (f1 YJ (fO 1)) (aE (fV 2) bY))))))
def bX:bQ:=aH 3 [1] RG
def RJ:VS:=
   (bU (f2 cB (fV 2) (cL 3 [1] bX (aE (fV 0) (aO 1 (aE (f1 YJ (fV 2)) bY))))))
def bP:bQ:=aH 3 [1] RJ
def T4:VS:=
   (cC (HM 2 (fV 3) (f2 OE (f2 ZM (JC 2 (fV 3) (cL 3 [1] bX (aE (fV 0) (aO 1 (aE (fV 4) bY))))) (cL 3 [1] bP (aE (fV 0) (aO 1 (aE (X8 (cT (fC (.int 1)) (cT (fC (.int 1)) (cT (fC (.int 1)) (cT (fC (.int 0)) (cT (fC (.int 3)) bV)))))) bY))))) (fV 4)))
   (bU (f2 cB (fO 2) (fV 3))))
def Z5:bQ:=aH 5 [1,2] T4
def PL:VS:=
   (cC (Z3 5 (xV (cL 3 [1] bX (aE (fV 0) (aO 1 (aE (fC (.int 13)) bY))))))
   (cC (XB (EI (fB (f2 WR (fV 2) (X8 bV))) (fB (f2 WR (fV 5) (fC (.int 0)))))
   (cC (XB (fB (f2 WR (cL 3 [1] bX (aE (fV 0) (aO 1 (aE (fC (.int 2)) bY)))) (fC (.int 0))))
   (bU (Z9 (cT (fC (.str "number")) (cT (cL 3 [1] bP (aE (fV 0) (aO 1 (aE (X8 (cT (fC (.int 0)) (cT (fC (.int 1)) (cT (fC (.int 2)) (cT (fC (.int 5)) (cT (fC (.int 999)) (cT (cL 3 [1] bX (aE (fV 0) (aO 1 (aE (fC (.int 1000)) bY)))) bV))))))) bY)))) bV))))
   Z2)
   (bU (Z9 (cT (fC (.str "load")) (cT (cL 5 [1,2] Z5 (aE (fV 0) (aO 1 (aO 3 (aE (fC (.str "load")) (aE (fV 4) bY)))))) bV)))))
   Z2)
   (cC (MA (ZL [0,1,2] 1 (iR1 (fC (.int 3))) (gN 3) W2 (f2 cB (fV 2) (f2 oMax (fC (.int 0)) (f2 L9 (f2 L9 (f1 YJ (fV 2)) (fC (.int 1))) (cL 3 [1] bX (aE (fV 0) (aO 1 (aE (fC (.int 6)) bY)))))))) (NX 3 (bR (gN 6) (bR (gN 7) (bR (gN 8) YM)))))
   (cC (XB (fB (f2 (aS false) (fV 5) (Z9 (cT (fC (.int 1)) (cT (fC (.int 2)) bV)))))
   (bU (Z9 (cT (fC (.str "load")) (cT (cL 5 [1,2] Z5 (aE (fV 0) (aO 1 (aO 3 (aE (fC (.str "load")) (aE (fV 4) bY)))))) bV))))
   Z2)
   (cC (XB (fB (f2 WR (fV 5) (fC (.int 3))))
   (bU (Z9 (cT (fC (.str "take")) (cT (cL 5 [1,2] Z5 (aE (fV 0) (aO 1 (aO 3 (aE (fC (.str "take")) (aE (fV 4) bY)))))) (cT (fV 8) (cT (fV 6) bV))))))
   Z2)
   (cC (XB (fB (f2 (aS false) (fV 5) (Z9 (cT (fC (.int 4)) (cT (fC (.int 5)) bV)))))
   (bU (Z9 (cT (fC (.str "store")) (cT (cL 5 [1,2] Z5 (aE (fV 0) (aO 1 (aO 3 (aE (fC (.str "store")) (aE (fV 4) bY)))))) (cT (fV 6) bV)))))
   Z2)
   (cC (XB (fB (f2 WR (fV 5) (fC (.int 6))))
   (bU (Z9 (cT (fC (.str "put")) (cT (cL 5 [1,2] Z5 (aE (fV 0) (aO 1 (aO 3 (aE (fC (.str "put")) (aE (fV 4) bY)))))) (cT (fV 6) (cT (fV 8) bV))))))
   Z2)
   (cC (XB (fB (f2 WR (fV 5) (fC (.int 7))))
   (bU (Z9 (cT (fC (.str "pick")) (cT (fV 8) (cT (fV 6) (cT (fV 7) bV))))))
   Z2)
   (bU (Z9 (cT (f2 cB (X8 (cT (fC (.str "over")) (cT (fC (.str "plus")) (cT (fC (.str "minus")) (cT (fC (.str "times")) (cT (fC (.str "least")) (cT (fC (.str "most")) (cT (fC (.str "less")) bV)))))))) (cL 3 [1] bX (aE (fV 0) (aO 1 (aE (fC (.int 7)) bY))))) (cT (fV 6) (cT (fV 7) bV)))))))))))))
def WP:bQ:=aH 9 [1,3] PL
def YS:VS:=
   (cC (Z3 10 (xV (f2 ZM (f2 E4 (fV 3) (fV 9)) (cL 3 [1] bP (aE (fV 0) (aO 1 (aE (X8 (cT (fC (.int 1)) (cT (fC (.int 1)) (cT (fC (.int 1)) (cT (fC (.int 1)) (cT (f1 G6 (fC (.int 1))) (cT (fC (.int 0)) (cT (fC (.int 2)) bV)))))))) bY)))))))
   (UE 8 SD (cT (CO (N8 (fB (f3 oLe oLt (fC (.int 0)) (fV 10) (f1 YJ (fV 3)))) (fB (f2 OF (f2 cB (fV 3) (fV 10)) (f2 L9 (f1 YJ (fV 2)) (fC (.int 1)))))) (f2 cB (fV 3) (fV 10)) (fV 9)) bV)))
def UY:VS:=
   (cC (Z3 6 (xV (f2 cB (fV 2) (f1 G6 (fC (.int 1))))))
   (cC (Z3 7 (xV (CO (fB (f2 (aS false) (f2 cB (fV 6) (fC (.int 0))) (Z9 (cT (fC (.str "load")) (cT (fC (.str "take")) (cT (fC (.str "store")) (cT (fC (.str "put")) bV))))))) (fC (.int 2)) (fC (.int 1)))))
   (cC (Z3 8 (xO (X8 bV)))
   (cC (OH (U1 (A5 (fV 6) (BJ (fV 7)) pNo)) (gN 9)
   YS)
   (cC (XB (fB (f2 WR (fV 7) (fC (.int 1))))
   (bU (f2 ZM (A5 (fV 6) pNo (BJ (fC (.int 1)))) (f1 U5 (fO 8))))
   Z2)
   (cC (HM 4 (f2 cB (fV 6) (fC (.int 0))) (f2 OE (f2 ZM (f2 cB (fV 6) (fC (.int 1))) (fC (.int 1))) (fV 5)))
   (bU (f2 ZM (Z9 (cT (f2 cB (fV 6) (fC (.int 0))) (cT (f2 cB (fO 4) (f2 cB (fV 6) (fC (.int 0)))) bV))) (f1 U5 (fO 8))))))))))
def ZE:bQ:=aH 11 [1,4] UY
def YT:VS:=
   (XB (N8 (fB (f2 oLt (f1 YJ (fO 4)) (fV 2))) (fB (f2 OF (f2 cB (f2 cB (fO 4) (f1 G6 (fC (.int 1)))) (fC (.int 0))) (fC (.str "number")))))
   (cC (UE 4 SD (cT (cL 6 [1,4] ZE (aE (fV 0) (aO 1 (aO 4 (aO 5 (aO 6 (aE (fV 3) bY))))))) bV))
   (XB (fB (f2 (aS true) (f2 cB (f2 cB (fO 4) (f1 G6 (fC (.int 1)))) (fC (.int 0))) (Z9 (cT (fC (.str "store")) (cT (fC (.str "put")) bV)))))
   (UE 5 SD (cT (f2 L9 (f1 YJ (fO 4)) (fC (.int 1))) bV))
   Z2))
   Z2)
def WX:VS:=
   (cC (UE 4 SD (cT (cL 5 [1,3] WP (aE (fV 0) (aO 1 (aO 5 (aO 6 (aE (fV 3) bY)))))) bV))
   (cC (XB (fB (f2 (aS true) (f2 cB (f2 cB (fO 4) (f1 G6 (fC (.int 1)))) (fC (.int 0))) (Z9 (cT (fC (.str "store")) (cT (fC (.str "put")) bV)))))
   (UE 5 SD (cT (f2 L9 (f1 YJ (fO 4)) (fC (.int 1))) bV))
   Z2)
   (OH (iR1 (cL 3 [1] bP (aE (fV 0) (aO 1 (aE (X8 (cT (fC (.int 0)) (cT (fC (.int 1)) (cT (fC (.int 1)) (cT (fC (.int 2)) (cT (fC (.int 3)) bV)))))) bY))))) (gN 7)
   YT)))
def RK:VS:=
   (cC (NF 4 5 6 (xO (X8 bV)) (xO (X8 bV)) (xO (fC (.dct [] []))))
   (cC (RV (fB (f2 oLt (f1 YJ (fO 4)) (fV 2)))
   WX)
   (bU (f1 U5 (fO 4)))))
def XI:bQ:=aH 8 [1] RK
def OM:VS:=
   (cC (XB (fB (f2 WR (f2 cB (fV 0) (fC (.int 0))) (fC (.str "number"))))
   (bU (X8 bV))
   Z2)
   (bU (CO (fB (f2 (aS false) (f2 cB (fV 0) (fC (.int 0))) (Z9 (cT (fC (.str "load")) (cT (fC (.str "take")) (cT (fC (.str "store")) (cT (fC (.str "put")) bV))))))) (f1 LB (A5 (fV 0) (BJ (fC (.int 2))) pNo)) (f1 LB (A5 (fV 0) (BJ (fC (.int 1))) pNo)))))
def bA:bQ:=aH 1 [] OM
def PK:VS:=
   (cC (Z3 2 (xV (f2 cB (f2 cB (fV 0) (fC (.int 1))) (fV 1))))
   (cC (XB (fB (f2 (aS false) (f2 cB (fV 2) (fC (.int 0))) (Z9 (cT (fC (.str "load")) (cT (fC (.str "take")) (cT (fC (.str "store")) (cT (fC (.str "put")) bV)))))))
   (bU (f2 oGe (f2 cB (fV 2) (fC (.int 1))) (f2 cB (fV 0) (fC (.int 0)))))
   Z2)
   (bU (SA (f2 WR (f2 cB (fV 2) (fC (.int 0))) (fC (.str "over"))) (f2 (aS true) (A5 (f2 cB (f2 cB (fV 0) (fC (.int 1))) (f2 cB (fV 2) (fC (.int 2)))) pNo (BJ (fC (.int 2)))) (ZL [] 1 (iR2 (fC (.int 1)) (fC (.int 1000))) (gN 0) W2 (Z9 (cT (fC (.str "number")) (cT (fV 0) bV)))))))))
def YO:bQ:=aH 3 [] PK
def WV:VS:=
   (cC (Z3 7 (xV (ZL [] 1 (U1 (Z9 (cT (fV 6) (cT (fV 4) bV)))) (gN 0) (fB (f2 (aS false) (f2 cB (fV 0) (fC (.int 0))) (Z9 (cT (fC (.str "store")) (cT (fC (.str "put")) bV))))) (fV 0))))
   (cC (Z3 8 (xO (X8 (cT (f2 (aS false) (fV 5) (cL 1 [] bA (aE (fV 4) bY))) (cT (SA (cL 2 [] YO (aE (fV 0) (aE (fV 5) bY))) (cL 2 [] YO (aE (fV 0) (aE (fV 3) bY)))) bV)))))
   (cC (UE 8 SD (cT (SA (f2 (aS false) (f2 cB (fV 6) (fC (.int 0))) (fV 2)) (SA (f2 (aS false) (f2 cB (fV 4) (fC (.int 0))) (fV 2)) (SA (f2 WR (f2 cB (fV 6) (fC (.int 1))) (f2 cB (fV 4) (fC (.int 1)))) (f2 OF (fV 7) (X8 bV))))) bV))
   (cC (UE 8 SD (cT (SA (cL 2 [] YO (aE (fV 0) (aE (fV 5) bY))) (f2 (aS false) (f2 cB (fV 4) (fC (.int 0))) (Z9 (cT (fC (.str "store")) (cT (fC (.str "put")) bV))))) bV))
   (cC (UE 8 SD (cT (SA (cL 2 [] YO (aE (fV 0) (aE (fV 3) bY))) (f2 (aS false) (f2 cB (fV 6) (fC (.int 0))) (Z9 (cT (fC (.str "store")) (cT (fC (.str "put")) bV))))) bV))
   (XB (fB (f2 (aS false) (fC (.bl true)) (fO 8)))
   (UE 1 SD (cT (Z9 (cT (fV 5) (cT (fV 3) bV))) bV))
   Z2))))))
def WW:VS:=
   (OH (QP (A5 (f2 cB (fV 0) (fC (.int 1))) pNo (BJ (fV 3)))) (NX 2 (bR (gN 5) (bR (gN 6) YM)))
   WV)
def RH:VS:=
   (cC (HP 1 2 (xO (X8 bV)) (xV (Z9 (cT (fC (.str "load")) (cT (fC (.str "take")) (cT (fC (.str "store")) (cT (fC (.str "put")) bV)))))))
   (cC (OH (QP (f2 cB (fV 0) (fC (.int 1)))) (NX 2 (bR (gN 3) (bR (gN 4) YM)))
   WW)
   (bU (f1 E5 (fO 1)))))
def YZ:bQ:=aH 9 [] RH
def ZK:VS:=
   (cC (Z3 6 (xV (ZL [3,4] 1 (U1 (fO 4)) (gN 2) (fB (f2 WR (ZL [1,2] 2 (U1 (fV 0)) (NX 2 (bR (gN 2) (bR (gN 3) YM))) (N8 (fB (f2 WR (fV 3) (fV 1))) (fB (f2 (aS false) (fV 2) (fO 0)))) (fC (.int 1))) (X8 bV))) (fV 2))))
   (cC (UE 5 SD (cT (cL 3 [1] bP (aE (fV 0) (aO 1 (aE (fV 6) bY)))) bV))
   (UE 4 mRem (cT (f2 cB (fO 5) (f1 G6 (fC (.int 1)))) bV))))
def X1:VS:=
   (cC (NF 3 4 5 (xV (cL 1 [] YZ (aE (fV 2) bY))) (xO (SU (f1 YJ (f2 cB (fV 2) (fC (.int 1)))))) (xO (X8 bV)))
   (cC (RV (fB (f2 OF (fO 4) (X8 bV)))
   ZK)
   (bU (fO 5))))
def aY:bQ:=aH 7 [1] X1
def aA:VS:=
   (cC (XB (fB (f2 WR (f2 cB (fV 0) (fC (.int 0))) (fC (.str "number"))))
   (bU (fV 0))
   Z2)
   (cC (Z3 2 (xV (CO (fB (f2 (aS false) (f2 cB (fV 0) (fC (.int 0))) (Z9 (cT (fC (.str "load")) (cT (fC (.str "take")) (cT (fC (.str "store")) (cT (fC (.str "put")) bV))))))) (fC (.int 2)) (fC (.int 1)))))
   (bU (f2 ZM (A5 (fV 0) pNo (BJ (fV 2))) (f1 U5 (ZL [1] 1 (U1 (A5 (fV 0) (BJ (fV 2)) pNo)) (gN 1) W2 (f2 cB (fV 0) (fV 1))))))))
def b8:bQ:=aH 3 [] aA
def V8:VS:=
   (cC (Z3 3 (xV (cL 3 [1] bP (aE (fV 0) (aO 1 (aE (X8 (cT (fC (.int 3)) (cT (fC (.int 6)) (cT (fC (.int 9)) (cT (fC (.int 64)) bV))))) bY))))))
   (cC (Z3 4 (xV (cL 3 [1] bP (aE (fV 0) (aO 1 (aE (X8 (cT (fC (.int 0)) (cT (fV 3) (cT (fV 3) (cT (cL 3 [1] bX (aE (fV 0) (aO 1 (aE (f2 ZM (fV 3) (fC (.int 1))) bY)))) bV))))) bY))))))
   (cC (Z3 5 (xV (Z9 (cT (fV 4) (cT (cL 4 [1] XI (aE (fV 0) (aO 1 (aE (cL 3 [1] bX (aE (fV 0) (aO 1 (aE (f2 ZM (fV 2) (fC (.int 1))) bY)))) (aE (fV 3) bY))))) bV)))))
   (cC (XB (fB (f2 oGt (cL 3 [1] bX (aE (fV 0) (aO 1 (aE (fC (.int 3)) bY)))) (fC (.int 0))))
   (bU (fV 5))
   Z2)
   (cC (Z3 6 (xV (cL 3 [1] aY (aE (fV 0) (aO 1 (aE (fV 5) bY))))))
   (cC (Z3 7 (xV (f1 LA (ZL [] 2 (QP (fV 6)) (NX 2 (bR (gN 0) (bR (gN 1) YM))) W2 (Z9 (cT (fV 1) (cT (fV 0) bV)))))))
   (bU (Z9 (cT (fV 4) (cT (f1 U5 (ZL [5,7] 1 (U1 (fV 6)) (gN 2) W2 (cL 2 [] b8 (aE (f2 cB (f2 cB (fV 0) (fC (.int 1))) (fV 2)) (aE (fV 1) bY))))) bV))))))))))
def YY:bQ:=aH 8 [1] V8
def T0:VS:=
   (cC (Z3 3 (xV (cL 3 [1] bP (aE (fV 0) (aO 1 (aE (X8 (cT (fV 2) (cT (f2 oMin (fC (.int 64)) (f2 ZM (fV 2) (cL 3 [1] bX (aE (fV 0) (aO 1 (aE (fC (.int 9)) bY)))))) (cT (fC (.int 64)) bV)))) bY))))))
   (cC (Z3 4 (xV (cL 3 [1] bP (aE (fV 0) (aO 1 (aE (X8 (cT (fC (.int 2)) (cT (fC (.int 4)) (cT (fC (.int 1000)) bV)))) bY))))))
   (bU (ZL [0,1,4] 1 (iR1 (fV 3)) (gN 3) W2 (cL 3 [1] bX (aE (fV 0) (aO 1 (aE (fV 2) bY))))))))
def YA:bQ:=aH 5 [1] T0
def IL:VS:=
   (cC (Z3 9 (xV (cL 3 [1] YA (aE (fV 0) (aO 1 (aE (f2 cB (fV 2) (fC (.int 0))) bY))))))
   (cC (MA (cL 2 [] QA (aE (fV 2) (aE (fV 9) bY))) (NX 2 (bR (gN 10) (bR (gN 11) YM))))
   (cC (MA (cL 2 [] QA (aE (fV 5) (aE (fV 9) bY))) (NX 2 (bR (gN 12) (bR (gN 13) YM))))
   (cC (XB (fB (f2 UA (fV 13) (fC .non)))
   (Z3 13 (xV (Z9 (cT (f2 cB (fV 3) (f2 cB (fV 13) (fC (.int 0)))) (cT (f2 cB (fV 13) (fC (.int 1))) bV)))))
   Z2)
   (XB (EI (fB (f2 OF (fV 10) (fV 12))) (fB (f2 OF (fV 13) (fV 11))))
   (bU (fC (.bl false)))
   Z2)))))
def NS:VS:=
   (XB (EI (fB (f2 oGt (f2 cB (fV 4) (fV 6)) (f2 cB (fV 4) (fV 7)))) (fB (f2 (aS true) (Z9 (cT (f2 cB (fV 4) (fV 6)) (cT (f2 cB (fV 4) (fV 7)) bV))) (cL 1 [] WF (aE (fV 5) bY)))))
   (bU (fC (.bl false)))
   Z2)
def zCT:VS:=
   (cC (Z3 1 (xO (X8 bV)))
   (cC (Z3 2 (xV (cL 3 [1] YY (aE (fV 0) (aO 1 (aE (fC (.int 12)) bY))))))
   (cC (XB (fB (f2 OF (cL 1 [] WF (aE (fV 2) bY)) (cL 1 [] YZ (aE (fV 2) bY))))
   (bU (fC (.bl false)))
   Z2)
   (cC (Z3 3 (xV (cL 3 [1] aY (aE (fV 0) (aO 1 (aE (fV 2) bY))))))
   (cC (Z3 4 (xV (f1 LA (ZL [] 2 (QP (fV 3)) (NX 2 (bR (gN 0) (bR (gN 1) YM))) W2 (Z9 (cT (fV 1) (cT (fV 0) bV)))))))
   (cC (Z3 5 (xV (Z9 (cT (f2 cB (fV 2) (fC (.int 0))) (cT (f1 U5 (ZL [2,4] 1 (U1 (fV 3)) (gN 2) W2 (cL 2 [] b8 (aE (f2 cB (f2 cB (fV 0) (fC (.int 1))) (fV 2)) (aE (fV 1) bY))))) bV)))))
   (cC (OH (U1 (cL 1 [] WF (aE (fV 2) bY))) (NX 2 (bR (gN 6) (bR (gN 7) YM)))
   NS)
   (cC (OH (iR1 (fC (.int 3))) (gN 8)
   IL)
   (bU (f2 WR (f1 YJ (cL 1 [] WF (aE (fV 5) bY))) (f1 YJ (cL 1 [] WF (aE (fV 2) bY)))))))))))))
def J9:bQ:=aH 14 [] zCT
end L2
namespace RR
open PySem L2
structure Txt(K:As)(mg:Ti->Option Te):Prop where
 fnm:∀x a,Lp K Tn x=some (some (.ref a))->mg x=some (.ref a)
 n_len:mg "len"=none
 n_range:mg "range"=none
 n_min:mg "min"=none
 n_max:mg "max"=none
 U2:mg "list"=none
 n_tuple:mg "tuple"=none
 n_sorted:mg "sorted"=none
 n_isinstance:mg "isinstance"=none
 n_bool:mg "bool"=none
 n_int:mg "int"=none
 n_str:mg "str"=none
 n_enumerate:mg "enumerate"=none
 n_zip:mg "zip"=none
 n_all:mg "all"=none
 n_dict:mg "dict"=none
 v_DEEDS:∃u v,mg "DEEDS"=some u/\bO v u/\∀N H M,aX K N H M v CJ
 v_DEED_PARTS:∃u v,mg "DEED_PARTS"=some u/\bO v u/\∀N H M,aX K N H M v QH
 v_MADE:∃u v,mg "MADE"=some u/\bO v u/\∀N H M,aX K N H M v V4
 v_MOST_CELLS:∃u v,mg "MOST_CELLS"=some u/\bO v u/\∀N H M,aX K N H M v UT
 v_MOST_PLACE:∃u v,mg "MOST_PLACE"=some u/\bO v u/\∀N H M,aX K N H M v UU
 v_MOST_ROWS:∃u v,mg "MOST_ROWS"=some u/\bO v u/\∀N H M,aX K N H M v TR
 v_MOST_SURE:∃u v,mg "MOST_SURE"=some u/\bO v u/\∀N H M,aX K N H M v TU
 v_MOST_WORD:∃u v,mg "MOST_WORD"=some u/\bO v u/\∀N H M,aX K N H M v aQ
 v_OTHER_PARTS:∃u v,mg "OTHER_PARTS"=some u/\bO v u/\∀N H M,aX K N H M v RZ
 v_READERS:∃u v,mg "READERS"=some u/\bO v u/\∀N H M,aX K N H M v ZA
 v_WRITERS:∃u v,mg "WRITERS"=some u/\bO v u/\∀N H M,aX K N H M v bI
section
variable{P:Br}{w:Tl}{K:As}{mg:Ti->Option Te}{base:Tp}{f:Tf}{fd:Fk}
noncomputable abbrev Nx0:List Ti:=["thing","low","high"]
noncomputable abbrev Qx0:List Ti:=["thing","low","high"]
theorem kC:cI Nx0 Qx0 (cQ (top 7)):=ZW
theorem iI(F:XW K "is_whole" "is_whole" (top 7) f fd)(T:Txt K mg):aU P w K mg base CX0 1 f fd Qx0 (spV K [] 3 aR):=
 WI P w K mg base Nx0 Qx0 0 RF [] F kC λ_ _ _ _ _ _ c b a=>by
  refine(cV ?_ (cS ?_))
  ·exact(bE (RX (UJ (Y5 (FZ T.n_isinstance (vv 0) (vty T.n_bool hG))) (WO (XA (Y5 (FZ T.n_isinstance (vv 0) (vty T.n_int Yk)))))))
   (cS (cM W1))
   cD)
  ·exact(cM (kP G9 G9 s_le s_le (vv 1) (vv 0) (vv 2)))
noncomputable abbrev Nx1:List Ti:=["a","b"]
noncomputable abbrev Qx1:List Ti:=["a","b"]
theorem mB:cI Nx1 Qx1 (cQ (top 8)):=ZW
theorem iK(F:XW K "plus" "plus" (top 8) f fd)(T:Txt K mg):aU P w K mg base CX0 1 f fd Qx1 (spV K [] 2 O0):=
 WI P w K mg base Nx1 Qx1 0 EY [] F mB λ_ _ _ _ _ _ c b a=>by exact(cS (cM (YN WJ UF (ZZ (X2 (K:=K) rfl) ZF (vv 0) (vv 1)) (ZZ (X2 (K:=K) rfl) ZF (aL (by rfl) T.v_MOST_WORD) cU))))
noncomputable abbrev Nx2:List Ti:=["a","b"]
noncomputable abbrev Qx2:List Ti:=["a","b"]
theorem mV:cI Nx2 Qx2 (cQ (top 9)):=ZW
theorem oU(F:XW K "minus" "minus" (top 9) f fd)(T:Txt K mg):aU P w K mg base CX0 1 f fd Qx2 (spV K [] 2 SI):=
 WI P w K mg base Nx2 Qx2 0 JH [] F mV λ_ _ _ _ _ _ c b a=>by exact(cS (cM (YN WJ UF (YN RT NG (vv 0) (vv 1)) (ZZ (X2 (K:=K) rfl) ZF (aL (by rfl) T.v_MOST_WORD) cU))))
noncomputable abbrev Nx3:List Ti:=["a","b"]
noncomputable abbrev Qx3:List Ti:=["a","b"]
theorem Yq:cI Nx3 Qx3 (cQ (top 10)):=ZW
theorem Xs(F:XW K "times" "times" (top 10) f fd)(T:Txt K mg):aU P w K mg base CX0 1 f fd Qx3 (spV K [] 2 SJ):=
 WI P w K mg base Nx3 Qx3 0 JJ [] F Yq λ_ _ _ _ _ _ c b a=>by exact(cS (cM (YN WJ UF (ZZ (MW (K:=K) rfl) QI (vv 0) (vv 1)) (ZZ (X2 (K:=K) rfl) ZF (aL (by rfl) T.v_MOST_WORD) cU))))
noncomputable abbrev Nx4:List Ti:=["a","b"]
noncomputable abbrev Qx4:List Ti:=["a","b"]
theorem eP:cI Nx4 Qx4 (cQ (top 11)):=ZW
theorem oP(F:XW K "least" "least" (top 11) f fd)(T:Txt K mg):aU P w K mg base CX0 1 f fd Qx4 (spV K [] 2 SH):=
 WI P w K mg base Nx4 Qx4 0 JG [] F eP λ_ _ _ _ _ _ c b a=>by exact(cS (cM (LW (PB rfl) Tz (by rfl) T.n_min EK (vv 0) (vv 1))))
noncomputable abbrev Nx5:List Ti:=["a","b"]
noncomputable abbrev Qx5:List Ti:=["a","b"]
theorem mW:cI Nx5 Qx5 (cQ (top 12)):=ZW
theorem jV(F:XW K "most" "most" (top 12) f fd)(T:Txt K mg):aU P w K mg base CX0 1 f fd Qx5 (spV K [] 2 OY):=
 WI P w K mg base Nx5 Qx5 0 EV [] F mW λ_ _ _ _ _ _ c b a=>by exact(cS (cM (LW (KL rfl) Vf (by rfl) T.n_max Wg (vv 0) (vv 1))))
noncomputable abbrev Nx6:List Ti:=["a","b"]
noncomputable abbrev Qx6:List Ti:=["a","b"]
theorem pE:cI Nx6 Qx6 (cQ (top 13)):=ZW
theorem fH(F:XW K "less" "less" (top 13) f fd)(T:Txt K mg):aU P w K mg base CX0 1 f fd Qx6 (spV K [] 2 OX):=
 WI P w K mg base Nx6 Qx6 0 EU [] F pE λ_ _ _ _ _ _ c b a=>by exact(cS (cM (UI (bL HA s_lt (vv 0) (vv 1) (aV _)) cU cU)))
noncomputable abbrev Nx7:List Ti:=["a","b"]
noncomputable abbrev Qx7:List Ti:=["a","b"]
theorem mE:cI Nx7 Qx7 (cQ (top 14)):=ZW
theorem nI(F:XW K "over" "over" (top 14) f fd)(T:Txt K mg):aU P w K mg base CX0 1 f fd Qx7 (spV K [] 2 TL):=
 WI P w K mg base Nx7 Qx7 0 JI [] F mE λ_ _ _ _ _ _ c b a=>by exact(cS (cM (UI (WN b (vv 1) cU) Y8 (YN JO FJ (vv 0) (vv 1)))))
noncomputable abbrev Nx8:List Ti:=["c","a","b"]
noncomputable abbrev Qx8:List Ti:=["c","a","b"]
theorem mO:cI Nx8 Qx8 (cQ (top 15)):=ZW
theorem Zw(F:XW K "pick" "pick" (top 15) f fd)(T:Txt K mg):aU P w K mg base CX0 1 f fd Qx8 (spV K [] 3 OZ):=
 WI P w K mg base Nx8 Qx8 0 EX [] F mO λ_ _ _ _ _ _ c b a=>by exact(cS (cM (UI (bL (PQ (K:=K) rfl b) PZ (vv 0) cU (aV _)) (vv 1) (vv 2))))
noncomputable abbrev Nx9:List Ti:=["deed","words","made"]
noncomputable abbrev Qx9:List Ti:=["deed","words"]
theorem zF5:cI Nx9 Qx9 (cQ (top 17)):=ZW
theorem kN(F:XW K "done" "done" (top 17) f fd)(T:Txt K mg)(c:cA P w K mg base "plus" 1 Qx1 [] O0 f_x1)(d:cA P w K mg base "minus" 1 Qx2 [] SI f_x2)(e:cA P w K mg base "times" 1 Qx3 [] SJ f_x3)(g:cA P w K mg base "least" 1 Qx4 [] SH f_x4)(h:cA P w K mg base "most" 1 Qx5 [] OY f_x5)(i:cA P w K mg base "less" 1 Qx6 [] OX f_x6)(j:cA P w K mg base "over" 1 Qx7 [] TL f_x7)(k:cA P w K mg base "pick" 1 Qx8 [] OZ f_x8):aU P w K mg base CX0 2 f fd Qx9 (spV K [] 2 V1):=
 WI P w K mg base Nx9 Qx9 1 JF [] F zF5 λ_ _ _ _ _ _ b l a=>by
  refine(cV ?_ (cV ?_ (cS ?_)))
  ·exact(bE (WN l (vv 0) cH)
   (cS (cM (bS k b (cR (cO (ZU a (vv 1) cU)) (cR (cO (ZU a (vv 1) cU)) (cR (cO (ZU a (vv 1) cU)) cP))))))
   cD)
  ·exact(bH zF5.nd (Z8 (cO (ZU a (aL (by rfl) T.v_MADE) (vv 0)))))
  ·exact(cM (Zj (WL (K:=K) rfl T.fnm b c (by decide) (WL (K:=K) rfl T.fnm b d (by decide) (WL (K:=K) rfl T.fnm b e (by decide) (WL (K:=K) rfl T.fnm b g (by decide) (WL (K:=K) rfl T.fnm b h (by decide) (WL (K:=K) rfl T.fnm b i (by decide) (WL (K:=K) rfl T.fnm b j (by decide) eX))))))) (pv 2) (cR (cO (ZU a (vv 1) cU)) (cR (cO (ZU a (vv 1) cU)) cP))))
noncomputable abbrev Nx10:List Ti:=["deed"]
noncomputable abbrev AE:List Ti:=["deed"]
theorem kW:cI Nx10 AE (cQ (top 26)):=ZW
theorem kU(F:XW K "parts_of" "parts_of" (top 26) f fd)(T:Txt K mg):aU P w K mg base CX0 1 f fd AE (spV K [] 1 aC):=
 WI P w K mg base Nx10 AE 0 MQ [] F kW λ_ _ _ _ _ _ c b a=>by
  refine(cV ?_ (cS ?_))
  ·exact (bE (bL (VR (K := K) rfl b) (ZD (neg := false)) (vv 0) (aL (by rfl) T.v_DEEDS) (by with_unfolding_all rfl))
   (cS (cM (aL (by rfl) T.v_DEED_PARTS)))
   cD)
  ·exact(cM (iW rfl a (aL (by rfl) T.v_OTHER_PARTS) (vv 0) ⟨rfl,rfl,rfl,rfl⟩))
noncomputable abbrev Nx11:List Ti:=["row"]
noncomputable abbrev Qx11:List Ti:=["row"]
theorem jE:cI Nx11 Qx11 (cQ (top 27)):=ZW
theorem lW(F:XW K "makes_word" "makes_word" (top 27) f fd)(T:Txt K mg):aU P w K mg base CX0 1 f fd Qx11 (spV K [] 1 YQ):=
 WI P w K mg base Nx11 Qx11 0 UZ [] F jE λ_ _ _ _ _ _ c b a=>by exact(cS (cM (YL (QR (K:=K) rfl b) (ZD (neg:=true)) (ZU a (vv 0) cU) (aL (by rfl) T.v_WRITERS) (by with_unfolding_all rfl))))
noncomputable abbrev Nx12:List Ti:=["row"]
noncomputable abbrev EE:List Ti:=["row"]
theorem eM:cI Nx12 EE (cQ (top 28)):=ZW
theorem iP(F:XW K "place_of" "place_of" (top 28) f fd)(T:Txt K mg):aU P w K mg base CX0 1 f fd EE (spV K [] 1 b5):=
 WI P w K mg base Nx12 EE 0 ZN [] F eM λ_ _ _ _ _ _ c b a=>by exact(cS (cM (UI (RX (UJ (bL (VR (K:=K) rfl b) (ZD (neg:=false)) (ZU a (vv 0) cU) (aL (by rfl) T.v_READERS) (by with_unfolding_all rfl)) (WO (bL (VR (K:=K) rfl b) (ZD (neg:=false)) (ZU a (vv 0) cU) (aL (by rfl) T.v_WRITERS) (by with_unfolding_all rfl))))) (ZU a (vv 0) cU) Y8)))
noncomputable abbrev Nx13:List Ti:=["row","deed","rest"]
noncomputable abbrev AF:List Ti:=["row"]
theorem zB1:cI Nx13 AF (cQ (top 29)):=ZW
theorem iL(F:XW K "names_of" "names_of" (top 29) f fd)(T:Txt K mg)(e:cA P w K mg base "parts_of" 1 AE [] aC f_x10):aU P w K mg base CX0 2 f fd AF (spV K [] 1 Z1):=
 WI P w K mg base Nx13 AF 1 MP [] F zB1 λ_ _ _ _ _ _ d c b=>by
  refine(cV ?_ (cS ?_))
  ·exact(D9 (i:=1) (j:=2) rfl rfl zB1.nd rfl rfl (by decide) (Mx rfl) (Mx rfl) (vv 0))
  ·exact(cM (a8 (ZQ ["part","given"] [] 2 (We rfl (by rfl) T.n_zip (cO (bS e d (cR (vv 1) cP))) (vv 2)) (λa _ _ _ _=>⟨(Y4 (K:=K) rfl rfl (b6 (cG a) (b6 (cG a) ZP))),(NO (WN c (vv 0) cH)),(vv 1)⟩))))
noncomputable abbrev Nx14:List Ti:=["thing","able"]
noncomputable abbrev Qx14:List Ti:=["thing","able"]
theorem oO:cI Nx14 Qx14 (cQ (top 30)):=ZW
theorem pD(F:XW K "may_name" "may_name" (top 30) f fd)(T:Txt K mg)(c:cA P w K mg base "is_whole" 1 Qx0 [] aR f_x0):aU P w K mg base CX0 2 f fd Qx14 (spV K [] 2 XJ):=
 WI P w K mg base Nx14 Qx14 1 RL [] F oO λ_ _ _ _ _ _ b d a=>by exact(cS (cM (XU (bS c b (cR (vv 0) (cR cU (cR (cO (YN RT NG (W9 T.n_len (vv 1)) cU)) cP)))) (XV (ZU a (vv 1) (vv 0))))))
noncomputable abbrev Nx15:List Ti:=["part","thing","able"]
noncomputable abbrev Qx15:List Ti:=["part","thing","able"]
theorem nE:cI Nx15 Qx15 (cQ (top 31)):=ZW
theorem hU(F:XW K "fits" "fits" (top 31) f fd)(T:Txt K mg)(c:cA P w K mg base "is_whole" 1 Qx0 [] aR f_x0)(d:cA P w K mg base "may_name" 2 Qx14 [] XJ f_x14):aU P w K mg base CX0 3 f fd Qx15 (spV K [] 3 V2):=
 WI P w K mg base Nx15 Qx15 2 MN [] F nE λ_ _ _ _ _ _ a b e=>by
  refine(cV ?_ (cV ?_ (cS ?_)))
  ·exact(bE (WN b (vv 0) cH)
   (cS (cM (bS c a (cR (vv 1) (cR cU (cR (cO (aL (by rfl) T.v_MOST_WORD)) cP))))))
   cD)
  ·exact(bE (WN b (vv 0) cH)
   (cS (cM (bS c a (cR (vv 1) (cR cU (cR (cO (aL (by rfl) T.v_MOST_PLACE)) cP))))))
   cD)
  ·exact(cM (bS d a (cR (vv 1) (cR (vv 2) cP))))
noncomputable abbrev Nx16:List Ti:=["thing","able","deed","rest","parts"]
noncomputable abbrev Qx16:List Ti:=["thing","able"]
theorem FK:cI Nx16 Qx16 (cQ (top 32)):=ZW
theorem Zd(F:XW K "is_row" "is_row" (top 32) f fd)(T:Txt K mg)(g:cA P w K mg base "parts_of" 1 AE [] aC f_x10)(d:cA P w K mg base "fits" 3 Qx15 [] V2 f_x15):aU P w K mg base CX0 4 f fd Qx16 (spV K [] 2 VC):=
 WI P w K mg base Nx16 Qx16 3 MO [] F FK λ_ _ _ _ _ _ b a e=>by
  refine(cV ?_ (cV ?_ (cV ?_ (cV ?_ (cS ?_)))))
  ·exact(bE (RX (UJ (XA (Y5 (FZ T.n_isinstance (vv 0) (vty T.n_tuple XZ)))) (WO (WN a (W9 T.n_len (vv 0)) cU))))
   (cS (cM W1))
   cD)
  ·exact(D9 (i:=2) (j:=3) rfl rfl FK.nd rfl rfl (by decide) (Mx rfl) (Mx rfl) (vv 0))
  ·exact(bH FK.nd (Z8 (cO (UI (Y5 (FZ T.n_isinstance (vv 2) (vty T.n_str hV))) (bS g b (cR (vv 2) cP)) Y8))))
  ·exact(bE (RX (UJ (bL Vm Uy (vv 4) Y8 (aV _)) (WO (bL (PQ (K:=K) rfl a) PZ (W9 T.n_len (vv 4)) (W9 T.n_len (vv 3)) (aV _)))))
   (cS (cM W1))
   cD)
  ·exact(cM (Ue (kAll (K:=K) rfl rfl) Ux (by rfl) T.n_all Wl (a8 (ZQ ["able","part","given"] [1] 2 (We rfl (by rfl) T.n_zip (vv 4) (vv 3)) (λc _ _ _ _=>⟨(Y4 (K:=K) rfl rfl (b6 (cG c) (b6 (cG c) ZP))),XT,(cO (bS d b (cR (vv 1) (cR (vv 2) (cR (vv 0) cP)))))⟩)))))
noncomputable abbrev Nx17:List Ti:=["thing","sure","rows","able","row"]
noncomputable abbrev AG:List Ti:=["thing"]
theorem NH:cI Nx17 AG (cQ (top 33)):=ZW
theorem lO(F:XW K "is_block" "is_block" (top 33) f fd)(T:Txt K mg)(g:cA P w K mg base "is_whole" 1 Qx0 [] aR f_x0)(b:cA P w K mg base "makes_word" 1 Qx11 [] YQ f_x11)(c:cA P w K mg base "is_row" 4 Qx16 [] VC f_x16):aU P w K mg base CX0 5 f fd AG (spV K [] 1 YX):=
 WI P w K mg base Nx17 AG 4 RD [] F NH λ_ _ _ _ _ _ a e d=>by
  refine(cV ?_ (cV ?_ (cV ?_ (cV ?_ (cV ?_ (cV ?_ (cS ?_)))))))
  ·exact(bE (RX (UJ (XA (Y5 (FZ T.n_isinstance (vv 0) (vty T.n_tuple XZ)))) (WO (bL (PQ (K:=K) rfl e) PZ (W9 T.n_len (vv 0)) cU (aV _)))))
   (cS (cM W1))
   cD)
  ·exact(RW (vv 0) (Y4 (K:=K) rfl rfl (b6 (cG NH.nd) (b6 (cG NH.nd) ZP))))
  ·exact (bE (XA (Y5 (bS g a (cR (vv 1) (cR cU (cR (cO (aL (by rfl) T.v_MOST_SURE)) cP))))))
   (cS (cM W1))
   cD)
  ·exact (bE (RX (UJ (XA (Y5 (FZ T.n_isinstance (vv 2) (vty T.n_tuple XZ)))) (WO (bL Ui s_gt (W9 T.n_len (vv 2)) (aL (by rfl) T.v_MOST_ROWS) (aV _)))))
   (cS (cM W1))
   cD)
  ·exact(bH NH.nd (US (Z0 (bW cK))))
  ·exact(U9 Dz rfl (WM rfl (vv 2)) (cG NH.nd)
   (cV (bE (XA (Y5 (bS c a (cR (vv 4) (bB (pv 3) cP)))))
   (cS (cM W1))
   cD)
   (cS (X6 (K:=K) rfl Bm Bn aF XR (pv 3) (bW (cW (bS b a (cR (vv 4) cP)) cK))))))
  ·exact(cM W1)
noncomputable abbrev Nx18:List Ti:=["row"]
noncomputable abbrev AH:List Ti:=["row"]
theorem kR:cI Nx18 AH (cQ (top 35)):=ZW
theorem jC(F:XW K "writes" "writes" (top 35) f fd)(T:Txt K mg):aU P w K mg base CX0 1 f fd AH (spV K [] 1 YG):=
 WI P w K mg base Nx18 AH 0 MR [] F kR λ_ _ _ _ _ _ c b a=>by exact(cS (cM (YL (VR (K:=K) rfl b) (ZD (neg:=false)) (ZU a (vv 0) cU) (aL (by rfl) T.v_WRITERS) (by with_unfolding_all rfl))))
noncomputable abbrev Nx19:List Ti:=["row"]
noncomputable abbrev Qx19:List Ti:=["row"]
theorem Yc:cI Nx19 Qx19 (cQ (top 36)):=ZW
theorem Zh(F:XW K "is_safe_number" "is_safe_number" (top 36) f fd)(T:Txt K mg):aU P w K mg base CX0 1 f fd Qx19 (spV K [] 1 ZV):=
 WI P w K mg base Nx19 Qx19 0 XQ [] F Yc λ_ _ _ _ _ _ c b a=>by exact(cS (cM (XU (veq b (ZU a (vv 0) cU) cH) (XV (YL (PQ (K:=K) rfl b) PZ (ZU a (vv 0) cU) cU (aV _))))))
noncomputable abbrev Nx20:List Ti:=["block","at","sure","rows","row","place"]
noncomputable abbrev Qx20:List Ti:=["block","at"]
theorem NI:cI Nx20 Qx20 (cQ (top 37)):=ZW
theorem pB(F:XW K "can_fault" "can_fault" (top 37) f fd)(T:Txt K mg)(e:cA P w K mg base "place_of" 1 EE [] b5 f_x12)(c:cA P w K mg base "is_safe_number" 1 Qx19 [] ZV f_x19):aU P w K mg base CX0 2 f fd Qx20 (spV K [] 2 YW):=
 WI P w K mg base Nx20 Qx20 1 TY [] F NI λ_ _ _ _ _ _ b d a=>by
  refine(cV ?_ (cV ?_ (cV ?_ (cV ?_ (cS ?_)))))
  ·exact(RW (vv 0) (Y4 (K:=K) rfl rfl (b6 (cG NI.nd) (b6 (cG NI.nd) ZP))))
  ·exact(bH NI.nd (Z8 (cO (ZU a (vv 3) (vv 1)))))
  ·exact(bE (WN d (ZU a (vv 4) cU) cH)
   (cS (cM (Zo (bS c b (cR (cO (ZU a (vv 3) (ZU a (vv 4) cU))) cP)))))
   cD)
  ·exact(bH NI.nd (Z8 (cO (bS e b (cR (vv 4) cP)))))
  ·exact(cM (XU (YL N3 JV (vv 5) Y8 (aV _)) (XV (YL Um s_ge (vv 5) (vv 2) (aV _)))))
noncomputable abbrev Nx21:List Ti:=["row","other"]
noncomputable abbrev Qx21:List Ti:=["row","other"]
theorem mP:cI Nx21 Qx21 (cQ (top 38)):=ZW
theorem Zs(F:XW K "share_written_cell" "share_written_cell" (top 38) f fd)(T:Txt K mg)(c:cA P w K mg base "place_of" 1 EE [] b5 f_x12)(b:cA P w K mg base "writes" 1 AH [] YG f_x18):aU P w K mg base CX0 2 f fd Qx21 (spV K [] 2 aT):=
 WI P w K mg base Nx21 Qx21 1 Y1 [] F mP λ_ _ _ _ _ _ a e d=>by exact(cS (cM (XU (veq e (bS c a (cR (vv 0) cP)) (bS c a (cR (vv 1) cP))) (XV (Vv (bS b a (cR (vv 0) cP)) (XV (bS b a (cR (vv 1) cP))))))))
noncomputable abbrev Nx22:List Ti:=["block","first","second","rows","first_faults","second_faults"]
noncomputable abbrev Qx22:List Ti:=["block","first","second"]
theorem FL:cI Nx22 Qx22 (cQ (top 39)):=ZW
theorem Zl(F:XW K "must_stay" "must_stay" (top 39) f fd)(T:Txt K mg)(h:cA P w K mg base "names_of" 2 AF [] Z1 f_x13)(d:cA P w K mg base "writes" 1 AH [] YG f_x18)(c:cA P w K mg base "can_fault" 2 Qx20 [] YW f_x20)(e:cA P w K mg base "share_written_cell" 2 Qx21 [] aT f_x21):aU P w K mg base CX0 3 f fd Qx22 (spV K [] 3 Z6):=
 WI P w K mg base Nx22 Qx22 2 T5 [] F FL λ_ _ _ _ _ _ b g a=>by
  refine(cV ?_ (cV ?_ (cV ?_ (cV ?_ (cS ?_)))))
  ·exact(bH FL.nd (Z8 (cO (ZU a (vv 0) cU))))
  ·exact (bE (RX (UJ (bL (VR (K := K) rfl g) (ZD (neg := false)) (vv 1) (bS h b (cR (cO (ZU a (vv 3) (vv 2))) cP)) (by with_unfolding_all rfl)) (WO (Y5 (bS e b (cR (cO (ZU a (vv 3) (vv 1))) (cR (cO (ZU a (vv 3) (vv 2))) cP)))))))
   (cS (cM W1))
   cD)
  ·exact(D8 (i:=4) (j:=5) rfl FL.nd rfl rfl (by decide) rfl rfl (Z8 (cO (bS c b (cR (vv 0) (cR (vv 1) cP))))) (Z8 (cO (bS c b (cR (vv 0) (cR (vv 2) cP))))) rfl)
  ·exact(bE (RX (J6 (Y5 (vv 4)) (N6 (Y5 (vv 5)))))
   (cS (cM W1))
   cD)
  ·exact(cM (Vv (XU (vv 4) (XV (bS d b (cR (cO (ZU a (vv 3) (vv 2))) cP)))) (XV (XU (vv 5) (XV (bS d b (cR (cO (ZU a (vv 3) (vv 1))) cP)))))))
noncomputable abbrev Nx23:List Ti:=["block","many","pairs"]
noncomputable abbrev Qx23:List Ti:=["block"]
theorem FM:cI Nx23 Qx23 (cQ (top 40)):=ZW
theorem jB(F:XW K "must_pairs" "must_pairs" (top 40) f fd)(T:Txt K mg)(c:cA P w K mg base "must_stay" 3 Qx22 [] Z6 f_x22):aU P w K mg base CX0 4 f fd Qx23 (spV K [] 1 YR):=
 WI P w K mg base Nx23 Qx23 3 U0 [] F FM λ_ _ _ _ _ _ d e a=>by
  refine(cV ?_ (cV ?_ (cS ?_)))
  ·exact(bH FM.nd (Z8 (cO (W9 T.n_len (ZU a (vv 0) cU)))))
  ·exact(dW (i:=2) false FM.nd rfl rfl (N':=["many","first","second"]) (ix:=[1]) (nl:=2) rfl rfl (by rfl) rfl (by decide) (WS (by rfl) T.n_range (vv 1)) (λcl s1 H1 fp=>⟨(cG (show(["many","first","second"]:List Ti).Nodup by decide+kernel)),XT,(LY (by rfl) T.n_range (ZZ (X2 (K:=K) rfl) ZF (vv 1) cU) (vv 0)),(cG (show(["many","first","second"]:List Ti).Nodup by decide+kernel)),XT,(cO (bT (cW (vv 1) (cW (vv 2) cK))))⟩))
  ·exact(cM (a8 (ZQ ["block","first","second"] [0] 2 (WM rfl (vv 2)) (λb _ _ _ _=>⟨(Y4 (K:=K) rfl rfl (b6 (cG b) (b6 (cG b) ZP))),(NO (Y5 (bS c d (cR (vv 0) (cR (vv 1) (cR (vv 2) cP)))))),(cO (bT (cW (vv 1) (cW (vv 2) cK))))⟩))))
noncomputable abbrev Nx24:List Ti:=["block"]
noncomputable abbrev Qx24:List Ti:=["block"]
theorem gX:cI Nx24 Qx24 (cQ (top 41)):=ZW
theorem fY(F:XW K "must" "must" (top 41) f fd)(T:Txt K mg)(d:cA P w K mg base "is_block" 5 AG [] YX f_x17)(b:cA P w K mg base "must_pairs" 4 Qx23 [] YR f_x23):aU P w K mg base CX0 6 f fd Qx24 (spV K [] 1 WF):=
 WI P w K mg base Nx24 Qx24 5 EW [] F gX λ_ _ _ _ _ _ a e c=>by
  refine(cV ?_ (cS ?_))
  ·exact(bE (XA (Y5 (bS d a (cR (vv 0) cP))))
   (cS NP)
   cD)
  ·exact(cM (bS b a (cR (vv 0) cP)))
noncomputable abbrev Nx25:List Ti:=["thing","sure"]
noncomputable abbrev Qx25:List Ti:=["thing","sure"]
theorem mU:cI Nx25 Qx25 (cQ (top 44)):=ZW
theorem lK(F:XW K "is_cells" "is_cells" (top 44) f fd)(T:Txt K mg)(d:cA P w K mg base "is_whole" 1 Qx0 [] aR f_x0):aU P w K mg base CX0 2 f fd Qx25 (spV K [] 2 XH):=
 WI P w K mg base Nx25 Qx25 1 RE [] F mU λ_ _ _ _ _ _ b e a=>by
  refine(cV ?_ (cS ?_))
  ·exact (bE (RX (UJ (XA (Y5 (FZ T.n_isinstance (vv 0) (vty T.U2 QG)))) (WO (XA (IA G9 G9 s_le s_le (vv 1) (W9 T.n_len (vv 0)) (aL (by rfl) T.v_MOST_CELLS))))))
   (cS (cM W1))
   cD)
  ·exact(cM (Ue (kAll (K:=K) rfl rfl) Ux (by rfl) T.n_all Wl (a8 (ZQ ["word"] [] 1 (WM rfl (vv 0)) (λc _ _ _ _=>⟨(cG c),XT,(cO (bS d b (cR (vv 0) (cR cU (cR (cO (aL (by rfl) T.v_MOST_WORD)) cP)))))⟩)))))
noncomputable abbrev Nx26:List Ti:=["deed","words"]
noncomputable abbrev Qx26:List Ti:=["deed","words"]
theorem fS:cI Nx26 Qx26 (cQ (top 45)):=ZW
theorem fR(F:XW K "touches" "touches" (top 45) f fd)(T:Txt K mg):aU P w K mg base CX0 1 f fd Qx26 (spV K [] 2 Y9):=
 WI P w K mg base Nx26 Qx26 0 SW [] F fS λ_ _ _ _ _ _ c b a=>by
  refine(cV ?_ (cV ?_ (cS ?_)))
  ·exact(bE (WN b (vv 0) cH)
   (cS (cM (YL (PQ (K:=K) rfl b) PZ (ZU a (vv 1) cU) cU (aV _))))
   cD)
  ·exact(bE (WN b (vv 0) cH)
   (cS (cM (YL (PQ (K:=K) rfl b) PZ (ZU a (vv 1) cU) cU (aV _))))
   cD)
  ·exact(cM W1)
noncomputable abbrev Nx27:List Ti:=["deed","place","words","cells"]
noncomputable abbrev Qx27:List Ti:=["deed","place","words","cells"]
theorem Yl:cI Nx27 Qx27 (cQ (top 46)):=ZW
theorem oZ(F:XW K "do_on_cell" "do_on_cell" (top 46) f fd)(T:Txt K mg)(c:cA P w K mg base "touches" 1 Qx26 [] Y9 f_x26):aU P w K mg base CX0 2 f fd Qx27 (spV K [3] 4 bK):=
 WI P w K mg base Nx27 Qx27 1 aW [3] F Yl λ_ _ _ _ _ _ d b a=>by
  refine(cV ?_ (cV ?_ (cV ?_ (cS ?_))))
  ·exact(bE (XA (Y5 (bS c d (cR (vv 0) (cR (vv 2) cP)))))
   (cS (cM (bT (cW (UI (WN b (vv 0) cH) (ZU a (vv 2) cU) Y8) (cW Y8 cK)))))
   cD)
  ·exact(bE (bL Um s_ge (vv 1) (W9 T.n_len (vo 3)) (aV _))
   (cS (cM (bT (cW Y8 (cW cH cK)))))
   cD)
  ·exact (bE (bL (VR (K := K) rfl b) (ZD (neg := false)) (vv 0) (aL (by rfl) T.v_WRITERS) (by with_unfolding_all rfl))
   (cV (jT rfl (pv 3) (vv 1) (cO (ZU a (vv 2) cU)))
   (cS (cM (bT (cW Y8 (cW Y8 cK))))))
   cD)
  ·exact(cM (bT (cW (ZU a (vo 3) (vv 1)) (cW Y8 cK))))
noncomputable abbrev Nx28:List Ti:=["row","words","cells","shift","deed","place","word"]
noncomputable abbrev IH:List Ti:=["row","words","cells","shift"]
theorem JW:cI Nx28 IH (cQ (top 47)):=ZW
theorem Xk{Td:Tf}(F:EB K "do_row" "do_row" (top 47) (.ref Td) f fd)(T:Txt K mg)(c:cA P w K mg base "done" 2 Qx9 [] V1 f_x9)(i:cA P w K mg base "place_of" 1 EE [] b5 f_x12)(e:cA P w K mg base "do_on_cell" 2 Qx27 [3] bK f_x27):aU P w K mg base CX0 3 f fd IH (spV K [2] 4 ZI):=
 EB.okV (P:=P) (w:=w) (mg:=mg) (base:=base) (K:=K) (N:=Nx28) (ps:=IH) (k:=2) (g:=VO) (ml:=[2]) F JW (by decide) λh A outer s H E b=>by
  have d:=b.units;have a:=Wv b;refine(cV ?_ (cV ?_ (cV ?_ (cV ?_ (cV ?_ (cS ?_))))))
  ·exact(bH JW.nd (Z8 (cO (ZU a (vv 0) cU))))
  ·exact(bE (WN d (vv 4) cH)
   (cS (cM (bT (cW (ZU a (vv 0) cU) (cW Y8 cK)))))
   cD)
  ·exact(bH JW.nd (Z8 (cO (bS i b (cR (vv 0) cP)))))
  ·exact(bE (bL N3 JV (vv 5) Y8 (aV _))
   (cS (cM (bS e b (cR (vv 4) (cR (cO (ZZ (X2 (K:=K) rfl) ZF (vv 5) (vv 3))) (cR (vv 1) (bB (pv 2) cP)))))))
   cD)
  ·exact(bH JW.nd (Z8 (cO (bS c b (cR (vv 4) (cR (vv 1) cP))))))
  ·exact(cM (bT (cW (vv 6) (cW (UI (bL Vm Uy (vv 6) Y8 (aV _)) cH Y8) cK))))
noncomputable abbrev Nx29:List Ti:=["rows","cells","words","at","row","word","why"]
noncomputable abbrev Qx29:List Ti:=["rows","cells"]
theorem P0:cI Nx29 Qx29 (cQ (top 48)):=ZW
theorem gM(F:XW K "do_rows" "do_rows" (top 48) f fd)(T:Txt K mg)(g:cA P w K mg base "names_of" 2 AF [] Z1 f_x13)(h:cA P w K mg base "do_row" 3 IH [2] ZI f_x28)(e:DefD P w K mg base "do_row" 3 IH (spV K [2] 4 ZI) f_x28 (.int 0)):aU P w K mg base CX0 4 f fd Qx29 (spV K [1] 2 XG):=
 WI P w K mg base Nx29 Qx29 3 SV [1] F P0 λ_ _ _ _ _ _ b i a=>by
  refine(cV ?_ (cV ?_ (cS ?_)))
  ·exact(bH P0.nd (US (Z0 (bW cK))))
  ·exact (U9 Dz rfl (Q5 rfl (by rfl) T.n_enumerate (vv 0)) (Y4 (K := K) rfl rfl (b6 (cG P0.nd) (b6 (cG P0.nd) ZP)))
   (cV (RW (cO (kX (K:=K) (v:=(.int 0)) (d:=(.int 0)) rfl e (λ_ _ _=>(.int _)) (λ_=>nofun) b (by decide) (by rfl) (cR (vv 4) (cR (a8 (ZQ ["words","name"] [2] 1 (WM rfl (cO (bS g b (cR (vv 4) cP)))) (λc _ _ _ _=>⟨(cG c),XT,(cO (ZU a (vo 0) (vv 1)))⟩))) (bB (pv 1) cP))))) (Y4 (K:=K) rfl rfl (b6 (cG P0.nd) (b6 (cG P0.nd) ZP))))
   (cV (bE (bL N3 JV (vv 6) Y8 (aV _))
   (cS (cM (bT (NM (pv 2) (cW (bT (cW (vv 3) (cW (vv 6) cK))) cK)))))
   cD)
   (cS (X6 (K:=K) rfl Bm Bn aF XR (pv 2) (bW (cW (vv 5) cK)))))))
  ·exact(cM (bT (NM (pv 2) (cW Y8 cK))))
noncomputable abbrev Nx30:List Ti:=["block","cells"]
noncomputable abbrev Qx30:List Ti:=["block","cells"]
theorem eZ:cI Nx30 Qx30 (cQ (top 49)):=ZW
theorem oY(F:XW K "check_run" "check_run" (top 49) f fd)(T:Txt K mg)(d:cA P w K mg base "is_block" 5 AG [] YX f_x17)(c:cA P w K mg base "is_cells" 2 Qx25 [] XH f_x25):aU P w K mg base CX0 6 f fd Qx30 (spV K [] 2 X9):=
 WI P w K mg base Nx30 Qx30 5 TZ [] F eZ λ_ _ _ _ _ _ b e a=>by
  refine(cV ?_ (cS ?_))
  ·exact(bE (XA (Y5 (bS d b (cR (vv 0) cP))))
   (cS NP)
   cD)
  ·exact(bE (XA (Y5 (bS c b (cR (vv 1) (cR (cO (ZU a (vv 0) cU)) cP)))))
   (cS NP)
   cD)
noncomputable abbrev Nx31:List Ti:=["block","cells","then","words","fault"]
noncomputable abbrev Qx31:List Ti:=["block","cells"]
theorem JX:cI Nx31 Qx31 (cQ (top 50)):=ZW
theorem Ye(F:XW K "run" "run" (top 50) f fd)(T:Txt K mg)(c:cA P w K mg base "do_rows" 4 Qx29 [1] XG f_x29)(d:cA P w K mg base "check_run" 6 Qx30 [] X9 f_x30):aU P w K mg base CX0 7 f fd Qx31 (spV K [] 2 QA):=
 WI P w K mg base Nx31 Qx31 6 Ua [] F JX λ_ _ _ _ _ _ b e a=>by
  refine(cV ?_ (cV ?_ (cV ?_ (cS ?_))))
  ·exact(kJ (bS d b (cR (vv 0) (cR (vv 1) cP))))
  ·exact(bH JX.nd (US (Uj (EZ (K:=K) rfl) U2 (by rfl) T.U2 QG (vv 1))))
  ·exact(RW (cO (bS c b (cR (cO (ZU a (vv 0) cU)) (bB (pv 2) cP)))) (Y4 (K:=K) rfl rfl (b6 (cG JX.nd) (b6 (cG JX.nd) ZP))))
  ·exact(cM (bT (NM (pv 2) (cW (vv 4) cK))))
noncomputable abbrev Nx32:List Ti:=["_law_script","_law_k","_law_rest","_law_again"]
noncomputable abbrev Qx32:List Ti:=["_law_script","_law_k"]
theorem JY:cI Nx32 Qx32 (cQ (top 52)):=ZW
theorem iS(F:XW K "_law_cell_at" "_law_cell_at" (top 52) f fd)(T:Txt K mg):aU P w K mg base CX0 1 f fd Qx32 (spV K [] 2 ZX):=
 WI P w K mg base Nx32 Qx32 0 V6 [] F JY λ_ _ _ _ _ _ c b a=>by
  refine(cV ?_ (cV ?_ (cV ?_ (cV ?_ (cS ?_)))))
  ·exact(bE (bL HA s_lt (vv 1) (W9 T.n_len (vv 0)) (aV _))
   (cS (cM (ZU a (vv 0) (vv 1))))
   cD)
  ·exact(bE (WN b (vv 0) (a8 (Z0 (bW cK))))
   (cS (cM cU))
   cD)
  ·exact(bH JY.nd (Z8 (cO (ZU a (vv 0) (YN WJ UF (vv 1) (W9 T.n_len (vv 0)))))))
  ·exact (U9 Dz rfl (WS (by rfl) T.n_range (LW (PB rfl) Tz (by rfl) T.n_min EK (YN JO FJ (vv 1) (W9 T.n_len (vv 0))) cU)) (cG JY.nd)
   (cS (bH JY.nd (Z8 (cO (YN JO FJ (vv 2) cU))))))
  ·exact(cM (ZZ (X2 (K:=K) rfl) ZF (ZZ (X2 (K:=K) rfl) ZF (ZZ (MW (K:=K) rfl) QI (ZU a (vv 0) (YN WJ UF (vv 1) (W9 T.n_len (vv 0)))) cU) (vv 1)) (ZZ (MW (K:=K) rfl) QI (vv 2) cU)))
noncomputable abbrev Nx33:List Ti:=["_law_script","_law_k","_law_bound","_law_drawn"]
noncomputable abbrev Qx33:List Ti:=["_law_script","_law_k","_law_bound"]
theorem zB0:cI Nx33 Qx33 (cQ (top 53)):=ZW
theorem dO(F:XW K "_law_mixed" "_law_mixed" (top 53) f fd)(T:Txt K mg)(a:cA P w K mg base "_law_cell_at" 1 Qx32 [] ZX f_x32):aU P w K mg base CX0 2 f fd Qx33 (spV K [] 3 YB):=
 WI P w K mg base Nx33 Qx33 1 T3 [] F zB0 λ_ _ _ _ _ _ c d b=>by
  refine(cV ?_ (cS ?_))
  ·exact(bH zB0.nd (Z8 (cO (YN WJ UF (ZZ (X2 (K:=K) rfl) ZF (ZZ (X2 (K:=K) rfl) ZF (ZZ (MW (K:=K) rfl) QI (bS a c (cR (vv 0) (cR (vv 1) cP))) cU) (ZZ (MW (K:=K) rfl) QI cU (vv 1))) cU) cU))))
  ·exact(cM (YN WJ UF (YN WJ UF (YN WJ UF (YN lZ kH (vv 3) cU) cU) cU) (vv 2)))
noncomputable abbrev Nx34:List Ti:=["_law_script","_law_town","_law_bound"]
noncomputable abbrev II:List Ti:=["_law_script","_law_town","_law_bound"]
theorem eY:cI Nx34 II (cQ (top 54)):=ZW
theorem kD(F:XW K "_law_draw" "_law_draw" (top 54) f fd)(T:Txt K mg)(a:cA P w K mg base "_law_mixed" 2 Qx33 [] YB f_x33):aU P w K mg base CX0 3 f fd II (spV K [1] 3 bX):=
 WI P w K mg base Nx34 II 2 RG [1] F eY λ_ _ _ _ _ _ c d b=>by
  refine(cV ?_ (cS ?_))
  ·exact(X6 (K:=K) rfl Bm Bn aF XR (pv 1) (bW (cW cU cK)))
  ·exact(cM (bS a c (cR (vv 0) (cR (cO (W9 T.n_len (vo 1))) (cR (vv 2) cP)))))
noncomputable abbrev Nx35:List Ti:=["_law_script","_law_town","_law_some"]
noncomputable abbrev MG:List Ti:=["_law_script","_law_town","_law_some"]
theorem eC:cI Nx35 MG (cQ (top 55)):=ZW
theorem cY(F:XW K "_law_pick" "_law_pick" (top 55) f fd)(T:Txt K mg)(c:cA P w K mg base "_law_draw" 3 II [1] bX f_x34):aU P w K mg base CX0 4 f fd MG (spV K [1] 3 bP):=
 WI P w K mg base Nx35 MG 3 RJ [1] F eC λ_ _ _ _ _ _ b d a=>by exact(cS (cM (ZU a (vv 2) (bS c b (cR (vv 0) (bB (pv 1) (cR (cO (W9 T.n_len (vv 2))) cP)))))))
noncomputable abbrev Nx36:List Ti:=["_law_script","_law_town","_law_seen","_law_deed","_law_room"]
noncomputable abbrev Qx36:List Ti:=["_law_script","_law_town","_law_seen","_law_deed","_law_room"]
theorem iC:cI Nx36 Qx36 (cQ (top 56)):=ZW
theorem Xq(F:XW K "_law_place" "_law_place" (top 56) f fd)(T:Txt K mg)(c:cA P w K mg base "_law_draw" 3 II [1] bX f_x34)(d:cA P w K mg base "_law_pick" 4 MG [1] bP f_x35):aU P w K mg base CX0 5 f fd Qx36 (spV K [1,2] 5 Z5):=
 WI P w K mg base Nx36 Qx36 4 T4 [1,2] F iC λ_ _ _ _ _ _ b e a=>by
  refine(cV ?_ (cS ?_))
  ·exact(D7 a (pv 2) (vv 3) (cO (YN WJ UF (ZZ (X2 (K:=K) rfl) ZF (lQ a (pv 2) (vv 3) (cO (bS c b (cR (vv 0) (bB (pv 1) (cR (vv 4) cP))))) ⟨rfl,rfl,rfl,rfl⟩) (bS d b (cR (vv 0) (bB (pv 1) (cR (a8 (Z0 (bW (cW cU (cW cU (cW cU (cW cU (cW cU cK)))))))) cP))))) (vv 4))) rfl)
  ·exact(cM (ZU a (vo 2) (vv 3)))
noncomputable abbrev Nx37:List Ti:=["_law_script","_law_town","_law_made","_law_seen","_law_room","_law_kind","_law_a","_law_b","_law_c"]
noncomputable abbrev Qx37:List Ti:=["_law_script","_law_town","_law_made","_law_seen","_law_room"]
theorem NJ:cI Nx37 Qx37 (cQ (top 57)):=ZW
theorem kL(F:XW K "_law_row" "_law_row" (top 57) f fd)(T:Txt K mg)(e:cA P w K mg base "_law_draw" 3 II [1] bX f_x34)(h:cA P w K mg base "_law_pick" 4 MG [1] bP f_x35)(d:cA P w K mg base "_law_place" 5 Qx36 [1,2] Z5 f_x36):aU P w K mg base CX0 6 f fd Qx37 (spV K [1,3] 5 WP):=
 WI P w K mg base Nx37 Qx37 5 PL [1,3] F NJ λ_ _ _ _ _ _ a b c=>by
  refine(cV ?_ (cV ?_ (cV ?_ (cV ?_ (cV ?_ (cV ?_ (cV ?_ (cV ?_ (cS ?_)))))))))
  ·exact(bH NJ.nd (Z8 (cO (bS e a (cR (vv 0) (bB (pv 1) (cR cU cP)))))))
  ·exact(bE (RX (UJ (WN b (vv 2) (a8 (Z0 (bW cK)))) (WO (WN b (vv 5) cU))))
   (cV (bE (WN b (bS e a (cR (vv 0) (bB (pv 1) (cR cU cP)))) cU)
   (cS (cM (bT (cW cH (cW (bS h a (cR (vv 0) (bB (pv 1) (cR (a8 (Z0 (bW (cW cU (cW cU (cW cU (cW cU (cW cU (cW (bS e a (cR (vv 0) (bB (pv 1) (cR cU cP)))) cK))))))))) cP)))) cK)))))
   cD)
   (cS (cM (bT (cW cH (cW (bS d a (cR (vv 0) (bB (pv 1) (bB (pv 3) (cR cH (cR (vv 4) cP)))))) cK))))))
   cD)
  ·exact(RW (a8 (ZQ ["_law_script","_law_town","_law_made","_law_k"] [0,1,2] 1 (WS (by rfl) T.n_range cU) (λg _ _ _ _=>⟨(cG g),XT,(cO (ZU c (vv 2) (LW (KL rfl) Vf (by rfl) T.n_max Wg cU (YN RT NG (YN RT NG (W9 T.n_len (vv 2)) cU) (bS e a (cR (vv 0) (bB (pv 1) (cR cU cP))))))))⟩))) (Y4 (K:=K) rfl rfl (b6 (cG NJ.nd) (b6 (cG NJ.nd) (b6 (cG NJ.nd) ZP)))))
  ·exact (bE (bL (VR (K := K) rfl b) (ZD (neg := false)) (vv 5) (bT (cW cU (cW cU cK))) (by with_unfolding_all rfl))
   (cS (cM (bT (cW cH (cW (bS d a (cR (vv 0) (bB (pv 1) (bB (pv 3) (cR cH (cR (vv 4) cP)))))) cK)))))
   cD)
  ·exact(bE (WN b (vv 5) cU)
   (cS (cM (bT (cW cH (cW (bS d a (cR (vv 0) (bB (pv 1) (bB (pv 3) (cR cH (cR (vv 4) cP)))))) (cW (vv 8) (cW (vv 6) cK)))))))
   cD)
  ·exact (bE (bL (VR (K := K) rfl b) (ZD (neg := false)) (vv 5) (bT (cW cU (cW cU cK))) (by with_unfolding_all rfl))
   (cS (cM (bT (cW cH (cW (bS d a (cR (vv 0) (bB (pv 1) (bB (pv 3) (cR cH (cR (vv 4) cP)))))) (cW (vv 6) cK))))))
   cD)
  ·exact(bE (WN b (vv 5) cU)
   (cS (cM (bT (cW cH (cW (bS d a (cR (vv 0) (bB (pv 1) (bB (pv 3) (cR cH (cR (vv 4) cP)))))) (cW (vv 6) (cW (vv 8) cK)))))))
   cD)
  ·exact(bE (WN b (vv 5) cU)
   (cS (cM (bT (cW cH (cW (vv 8) (cW (vv 6) (cW (vv 7) cK)))))))
   cD)
  ·exact(cM (bT (cW (ZU c (a8 (Z0 (bW (cW cH (cW cH (cW cH (cW cH (cW cH (cW cH (cW cH cK)))))))))) (bS e a (cR (vv 0) (bB (pv 1) (cR cU cP))))) (cW (vv 6) (cW (vv 7) cK)))))
noncomputable abbrev Nx39:List Ti:=["_law_script","_law_town","_law_rows_here","_law_made","_law_seen","_law_room","_law_last","_law_first","_law_names_here","_law_name","_law_at"]
noncomputable abbrev Qx39:List Ti:=["_law_script","_law_town","_law_rows_here","_law_made","_law_seen","_law_room"]
theorem P1:cI Nx39 Qx39 (cQ (top 59)):=ZW
theorem eB(F:XW K "_law_next" "_law_next" (top 59) f fd)(T:Txt K mg)(d:cA P w K mg base "_law_pick" 4 MG [1] bP f_x35):aU P w K mg base CX0 5 f fd Qx39 (spV K [1,4] 6 ZE):=
 WI P w K mg base Nx39 Qx39 4 UY [1,4] F P1 λ_ _ _ _ _ _ c b a=>by
  refine(cV ?_ (cV ?_ (cV ?_ (cV ?_ (cV ?_ (cV ?_ (cS ?_)))))))
  ·exact(bH P1.nd (Z8 (cO (ZU a (vv 2) (P7 cU)))))
  ·exact(bH P1.nd (Z8 (cO (UI (bL (VR (K:=K) rfl b) (ZD (neg:=false)) (ZU a (vv 6) cU) (bT (cW cH (cW cH (cW cH (cW cH cK))))) (by with_unfolding_all rfl)) cU cU))))
  ·exact(bH P1.nd (US (Z0 (bW cK))))
  ·exact(U9 Dz rfl (WM rfl (cO (OT rfl (vv 6) (OV (vv 7)) OU))) (cG P1.nd)
   (cV (bH P1.nd (Z8 (cO (ZZ (X2 (K:=K) rfl) ZF (mR rfl (vv 3) (vv 9)) (bS d c (cR (vv 0) (bB (pv 1) (cR (a8 (Z0 (bW (cW cU (cW cU (cW cU (cW cU (cW (P7 cU) (cW cU (cW cU cK)))))))))) cP))))))))
   (cS (X6 (K:=K) rfl Bm Bn aF XR (pv 8) (bW (cW (UI (RX (J6 (IA G9 HA s_le s_lt cU (vv 10) (W9 T.n_len (vv 3))) (N6 (bL (PQ (K:=K) rfl b) PZ (ZU a (vv 3) (vv 10)) (YN RT NG (W9 T.n_len (vv 2)) cU) (aV _))))) (ZU a (vv 3) (vv 10)) (vv 9)) cK))))))
  ·exact(bE (WN b (vv 7) cU)
   (cS (cM (ZZ (X2 (K:=K) rfl) ZF (OT rfl (vv 6) OU (OV cU)) (LX (SY (K:=K) rfl) SN (by rfl) T.n_tuple XZ (vo 8)))))
   cD)
  ·exact(D7 a (pv 4) (ZU a (vv 6) cU) (cO (YN WJ UF (ZZ (X2 (K:=K) rfl) ZF (ZU a (vv 6) cU) cU) (vv 5))) rfl)
  ·exact(cM (ZZ (X2 (K:=K) rfl) ZF (bT (cW (ZU a (vv 6) cU) (cW (ZU a (vo 4) (ZU a (vv 6) cU)) cK))) (LX (SY (K:=K) rfl) SN (by rfl) T.n_tuple XZ (vo 8))))
noncomputable abbrev Nx38:List Ti:=["_law_script","_law_town","_law_many","_law_room","_law_rows_here","_law_made","_law_seen","_law_again"]
noncomputable abbrev Qx38:List Ti:=["_law_script","_law_town","_law_many","_law_room"]
theorem FN:cI Nx38 Qx38 (cQ (top 58)):=ZW
theorem gE(F:XW K "_law_rows" "_law_rows" (top 58) f fd)(T:Txt K mg)(g:cA P w K mg base "_law_pick" 4 MG [1] bP f_x35)(d:cA P w K mg base "_law_row" 6 Qx37 [1,3] WP f_x37)(e:cA P w K mg base "_law_next" 5 Qx39 [1,4] ZE f_x39):aU P w K mg base CX0 7 f fd Qx38 (spV K [1] 4 XI):=
 WI P w K mg base Nx38 Qx38 6 RK [1] F FN λ_ _ _ _ _ _ c b a=>by
  refine(cV ?_ (cV ?_ (cS ?_)))
  ·exact(Zt (i:=4) (j:=5) (k:=6) rfl FN.nd rfl rfl rfl (by decide) (by decide) (by decide) rfl rfl rfl (US (Z0 (bW cK))) (US (Z0 (bW cK))) (US Yd) rfl)
  ·exact(HZ Dz (bL HA s_lt (W9 T.n_len (vo 4)) (vv 2) (aV _))
   (cV (X6 (K:=K) rfl Bm Bn aF XR (pv 4) (bW (cW (bS d c (cR (vv 0) (bB (pv 1) (bB (pv 5) (bB (pv 6) (cR (vv 3) cP)))))) cK)))
   (cV (bE (bL (QR (K:=K) rfl b) (ZD (neg:=true)) (ZU a (ZU a (vo 4) (P7 cU)) cU) (bT (cW cH (cW cH cK))) (by with_unfolding_all rfl))
   (cS (X6 (K:=K) rfl Bm Bn aF XR (pv 5) (bW (cW (YN RT NG (W9 T.n_len (vo 4)) cU) cK))))
   cD)
   (cS (U9 Dz rfl (WS (by rfl) T.n_range (bS g c (cR (vv 0) (bB (pv 1) (cR (a8 (Z0 (bW (cW cU (cW cU (cW cU (cW cU (cW cU cK)))))))) cP))))) (cG FN.nd)
   (cS (bE (RX (J6 (bL HA s_lt (W9 T.n_len (vo 4)) (vv 2) (aV _)) (N6 (bL (PQ (K:=K) rfl b) PZ (ZU a (ZU a (vo 4) (P7 cU)) cU) cH (aV _)))))
   (cV (X6 (K:=K) rfl Bm Bn aF XR (pv 4) (bW (cW (bS e c (cR (vv 0) (bB (pv 1) (bB (pv 4) (bB (pv 5) (bB (pv 6) (cR (vv 3) cP))))))) cK)))
   (cS (bE (bL (QR (K:=K) rfl b) (ZD (neg:=true)) (ZU a (ZU a (vo 4) (P7 cU)) cU) (bT (cW cH (cW cH cK))) (by with_unfolding_all rfl))
   (cS (X6 (K:=K) rfl Bm Bn aF XR (pv 5) (bW (cW (YN RT NG (W9 T.n_len (vo 4)) cU) cK))))
   cD)))
   cD)))))))
  ·exact(cM (LX (SY (K:=K) rfl) SN (by rfl) T.n_tuple XZ (vo 4)))
noncomputable abbrev Nx42:List Ti:=["_law_row_here"]
noncomputable abbrev Qx42:List Ti:=["_law_row_here"]
theorem oG:cI Nx42 Qx42 (cQ (top 62)):=ZW
theorem lB(F:XW K "_law_names" "_law_names" (top 62) f fd)(T:Txt K mg):aU P w K mg base CX0 1 f fd Qx42 (spV K [] 1 bA):=
 WI P w K mg base Nx42 Qx42 0 OM [] F oG λ_ _ _ _ _ _ c b a=>by
  refine(cV ?_ (cS ?_))
  ·exact(bE (WN b (ZU a (vv 0) cU) cH)
   (cS (cM (a8 (Z0 (bW cK)))))
   cD)
  ·exact(cM (UI (bL (VR (K:=K) rfl b) (ZD (neg:=false)) (ZU a (vv 0) cU) (bT (cW cH (cW cH (cW cH (cW cH cK))))) (by with_unfolding_all rfl)) (a8 (Uj (EZ (K:=K) rfl) U2 (by rfl) T.U2 QG (Uc (OT rfl (vv 0) (OV cU) OU)))) (a8 (Uj (EZ (K:=K) rfl) U2 (by rfl) T.U2 QG (Uc (OT rfl (vv 0) (OV cU) OU))))))
noncomputable abbrev Nx43:List Ti:=["_law_block_here","_law_row_here","_law_here"]
noncomputable abbrev Qx43:List Ti:=["_law_block_here","_law_row_here"]
theorem zAZ:cI Nx43 Qx43 (cQ (top 63)):=ZW
theorem eS(F:XW K "_law_may" "_law_may" (top 63) f fd)(T:Txt K mg):aU P w K mg base CX0 1 f fd Qx43 (spV K [] 2 YO):=
 WI P w K mg base Nx43 Qx43 0 PK [] F zAZ λ_ _ _ _ _ _ d b a=>by
  refine(cV ?_ (cV ?_ (cS ?_)))
  ·exact(bH zAZ.nd (Z8 (cO (ZU a (ZU a (vv 0) cU) (vv 1)))))
  ·exact (bE (bL (VR (K := K) rfl b) (ZD (neg := false)) (ZU a (vv 2) cU) (bT (cW cH (cW cH (cW cH (cW cH cK))))) (by with_unfolding_all rfl))
   (cS (cM (YL Um s_ge (ZU a (vv 2) cU) (ZU a (vv 0) cU) (aV _))))
   cD)
  ·exact(cM (XU (veq b (ZU a (vv 2) cU) cH) (XV (YL (QR (K:=K) rfl b) (ZD (neg:=true)) (OT rfl (ZU a (ZU a (vv 0) cU) (ZU a (vv 2) cU)) OU (OV cU)) (a8 (ZQ ["_law_k"] [] 1 (LY (by rfl) T.n_range cU cU) (λc _ _ _ _=>⟨(cG c),XT,(cO (bT (cW cH (cW (vv 0) cK))))⟩))) (by with_unfolding_all rfl)))))
noncomputable abbrev Nx44:List Ti:=["_law_block_here","_law_made","_law_cells_here","_law_two","_law_there","_law_one","_law_here","_law_writes","_law_reasons"]
noncomputable abbrev AI:List Ti:=["_law_block_here"]
theorem UG:cI Nx44 AI (cQ (top 64)):=ZW
theorem fK(F:XW K "_law_must" "_law_must" (top 64) f fd)(T:Txt K mg)(e:cA P w K mg base "_law_names" 1 Qx42 [] bA f_x42)(d:cA P w K mg base "_law_may" 1 Qx43 [] YO f_x43):aU P w K mg base CX0 2 f fd AI (spV K [] 1 YZ):=
 WI P w K mg base Nx44 AI 1 RH [] F UG λ_ _ _ _ _ _ c b a=>by
  refine(cV ?_ (cV ?_ (cS ?_)))
  ·exact(D8 (i:=1) (j:=2) rfl UG.nd rfl rfl (by decide) rfl rfl (US (Z0 (bW cK))) (Z8 (cO (bT (cW cH (cW cH (cW cH (cW cH cK))))))) rfl)
  ·exact (U9 Dz rfl (Q5 rfl (by rfl) T.n_enumerate (cO (ZU a (vv 0) cU))) (Y4 (K := K) rfl rfl (b6 (cG UG.nd) (b6 (cG UG.nd) ZP)))
   (cS (U9 Dz rfl (Q5 rfl (by rfl) T.n_enumerate (cO (OT rfl (ZU a (vv 0) cU) OU (OV (vv 3))))) (Y4 (K:=K) rfl rfl (b6 (cG UG.nd) (b6 (cG UG.nd) ZP)))
   (cV (gU false UG.nd ["_law_row_here"] [] 1 (WM rfl (cO (bT (cW (vv 6) (cW (vv 4) cK))))) (λg _ _ _ _=>⟨(cG g),(NO (bL (VR (K:=K) rfl b) (ZD (neg:=false)) (ZU a (vv 0) cU) (bT (cW cH (cW cH cK))) (by with_unfolding_all rfl))),(vv 0)⟩))
   (cV (bH UG.nd (US (Z0 (bW (cW (YL (VR (K:=K) rfl b) (ZD (neg:=false)) (vv 5) (bS e c (cR (vv 4) cP)) (by with_unfolding_all rfl)) (cW (XU (bS d c (cR (vv 0) (cR (vv 5) cP))) (XV (bS d c (cR (vv 0) (cR (vv 3) cP))))) cK))))))
   (cV (X6 (K:=K) rfl Bm Bn aF XR (pv 8) (bW (cW (XU (YL (VR (K:=K) rfl b) (ZD (neg:=false)) (ZU a (vv 6) cU) (vv 2) (by with_unfolding_all rfl)) (XU (YL (VR (K:=K) rfl b) (ZD (neg:=false)) (ZU a (vv 4) cU) (vv 2) (by with_unfolding_all rfl)) (XU (veq b (ZU a (vv 6) cU) (ZU a (vv 4) cU)) (XV (YL (PQ (K:=K) rfl b) PZ (vv 7) (a8 (Z0 (bW cK))) (aV _)))))) cK)))
   (cV (X6 (K:=K) rfl Bm Bn aF XR (pv 8) (bW (cW (XU (bS d c (cR (vv 0) (cR (vv 5) cP))) (XV (YL (VR (K:=K) rfl b) (ZD (neg:=false)) (ZU a (vv 4) cU) (bT (cW cH (cW cH cK))) (by with_unfolding_all rfl)))) cK)))
   (cV (X6 (K:=K) rfl Bm Bn aF XR (pv 8) (bW (cW (XU (bS d c (cR (vv 0) (cR (vv 3) cP))) (XV (YL (VR (K:=K) rfl b) (ZD (neg:=false)) (ZU a (vv 6) cU) (bT (cW cH (cW cH cK))) (by with_unfolding_all rfl)))) cK)))
   (cS (bE (bL (VR (K:=K) rfl b) (ZD (neg:=false)) W1 (vo 8) (by with_unfolding_all rfl))
   (cS (X6 (K:=K) rfl Bm Bn aF XR (pv 1) (bW (cW (bT (cW (vv 5) (cW (vv 3) cK))) cK))))
   cD))))))))))
  ·exact(cM (a8 (mH (Yj (K:=K) rfl) Xr (by rfl) T.n_sorted AO (Uc (vo 1)))))
noncomputable abbrev Nx45:List Ti:=["_law_script","_law_town","_law_block_here","_law_pairs","_law_left","_law_made","_law_ready"]
noncomputable abbrev AJ:List Ti:=["_law_script","_law_town","_law_block_here"]
theorem FP:cI Nx45 AJ (cQ (top 65)):=ZW
theorem iN(F:XW K "_law_mixed_order" "_law_mixed_order" (top 65) f fd)(T:Txt K mg)(g:cA P w K mg base "_law_pick" 4 MG [1] bP f_x35)(e:cA P w K mg base "_law_must" 2 AI [] YZ f_x44):aU P w K mg base CX0 5 f fd AJ (spV K [1] 3 aY):=
 WI P w K mg base Nx45 AJ 4 X1 [1] F FP λ_ _ _ _ _ _ d b a=>by
  refine(cV ?_ (cV ?_ (cS ?_)))
  ·exact(eF (i:=3) (j:=4) (k:=5) rfl rfl FP.nd rfl rfl rfl (by decide) (by decide) (by decide) (My rfl) (My rfl) (Mx rfl) (Z8 (cO (bS e d (cR (vv 2) cP)))) (US (CB rfl (by rfl) T.U2 QG (by rfl) T.n_range gA (W9 T.n_len (ZU a (vv 2) cU)))) (US (Z0 (bW cK))))
  ·exact(HZ Dz (bL (PQ (K:=K) rfl b) PZ (vo 4) (a8 (Z0 (bW cK))) (aV _))
   (cV (lJ false FP.nd ["_law_pairs","_law_left","_law_row_here"] [3,4] 1 (fF rfl (vo 4)) (λc _ _ _ _=>⟨(cG c),(NO (WN b (a8 (ZQ ["_law_left","_law_row_here","_law_one","_law_two"] [1,2] 2 (WM rfl (vv 0)) (λc _ _ _ _=>⟨(Y4 (K:=K) rfl rfl (b6 (cG c) (b6 (cG c) ZP))),(NO (RX (J6 (WN b (vv 3) (vv 1)) (N6 (bL (VR (K:=K) rfl b) (ZD (neg:=false)) (vv 2) (vo 0) (by with_unfolding_all rfl)))))),cU⟩))) (a8 (Z0 (bW cK))))),(vv 2)⟩))
   (cV (X6 (K:=K) rfl Bm Bn aF XR (pv 5) (bW (cW (bS g d (cR (vv 0) (bB (pv 1) (cR (vv 6) cP)))) cK)))
   (cS (X6 (K:=K) rfl PySem.F.slot_list_remove PySem.F.type_list_remove BG kQ (pv 4) (bW (cW (ZU a (vo 5) (P7 cU)) cK)))))))
  ·exact(Yv (pv 5))
noncomputable abbrev Nx46:List Ti:=["_law_row_here","_law_names_here","_law_first"]
noncomputable abbrev AK:List Ti:=["_law_row_here","_law_names_here"]
theorem zAY:cI Nx46 AK (cQ (top 66)):=ZW
theorem nO(F:XW K "_law_renamed" "_law_renamed" (top 66) f fd)(T:Txt K mg):aU P w K mg base CX0 1 f fd AK (spV K [] 2 b8):=
 WI P w K mg base Nx46 AK 0 aA [] F zAY λ_ _ _ _ _ _ d b a=>by
  refine(cV ?_ (cV ?_ (cS ?_)))
  ·exact(bE (WN b (ZU a (vv 0) cU) cH)
   (cS (cM (vv 0)))
   cD)
  ·exact(bH zAY.nd (Z8 (cO (UI (bL (VR (K:=K) rfl b) (ZD (neg:=false)) (ZU a (vv 0) cU) (bT (cW cH (cW cH (cW cH (cW cH cK))))) (by with_unfolding_all rfl)) cU cU))))
  ·exact(cM (ZZ (X2 (K:=K) rfl) ZF (OT rfl (vv 0) OU (OV (vv 2))) (LX (SY (K:=K) rfl) SN (by rfl) T.n_tuple XZ (a8 (ZQ ["_law_names_here","_law_name"] [1] 1 (WM rfl (cO (OT rfl (vv 0) (OV (vv 2)) OU))) (λc _ _ _ _=>⟨(cG c),XT,(cO (ZU a (vv 0) (vv 1)))⟩))))))
noncomputable abbrev Nx40:List Ti:=["_law_script","_law_town","_law_most","_law_room","_law_sure","_law_block_here","_law_order_there","_law_names_here"]
noncomputable abbrev Qx40:List Ti:=["_law_script","_law_town","_law_most"]
theorem P2:cI Nx40 Qx40 (cQ (top 60)):=ZW
theorem eN(F:XW K "_law_block" "_law_block" (top 60) f fd)(T:Txt K mg)(d:cA P w K mg base "_law_draw" 3 II [1] bX f_x34)(e:cA P w K mg base "_law_pick" 4 MG [1] bP f_x35)(g:cA P w K mg base "_law_rows" 7 Qx38 [1] XI f_x38)(h:cA P w K mg base "_law_mixed_order" 5 AJ [1] aY f_x45)(i:cA P w K mg base "_law_renamed" 1 AK [] b8 f_x46):aU P w K mg base CX0 8 f fd Qx40 (spV K [1] 3 YY):=
 WI P w K mg base Nx40 Qx40 7 V8 [1] F P2 λ_ _ _ _ _ _ a j b=>by
  refine(cV ?_ (cV ?_ (cV ?_ (cV ?_ (cV ?_ (cV ?_ (cS ?_)))))))
  ·exact(bH P2.nd (Z8 (cO (bS e a (cR (vv 0) (bB (pv 1) (cR (a8 (Z0 (bW (cW cU (cW cU (cW cU (cW cU cK))))))) cP)))))))
  ·exact(bH P2.nd (Z8 (cO (bS e a (cR (vv 0) (bB (pv 1) (cR (a8 (Z0 (bW (cW cU (cW (vv 3) (cW (vv 3) (cW (bS d a (cR (vv 0) (bB (pv 1) (cR (cO (ZZ (X2 (K:=K) rfl) ZF (vv 3) cU)) cP)))) cK))))))) cP)))))))
  ·exact(bH P2.nd (Z8 (cO (bT (cW (vv 4) (cW (bS g a (cR (vv 0) (bB (pv 1) (cR (cO (bS d a (cR (vv 0) (bB (pv 1) (cR (cO (ZZ (X2 (K:=K) rfl) ZF (vv 2) cU)) cP))))) (cR (vv 3) cP))))) cK))))))
  ·exact(bE (bL Ui s_gt (bS d a (cR (vv 0) (bB (pv 1) (cR cU cP)))) cU (aV _))
   (cS (cM (vv 5)))
   cD)
  ·exact(bH P2.nd (Z8 (cO (bS h a (cR (vv 0) (bB (pv 1) (cR (vv 5) cP)))))))
  ·exact(bH P2.nd (Z8 (a8 (LZ rfl rfl (by rfl) T.n_dict CI (a8 (ZQ ["_law_number","_law_row_here"] [] 2 (Q5 rfl (by rfl) T.n_enumerate (vv 6)) (λc _ _ _ _=>⟨(Y4 (K:=K) rfl rfl (b6 (cG c) (b6 (cG c) ZP))),XT,(cO (bT (cW (vv 1) (cW (vv 0) cK))))⟩)))))))
  ·exact(cM (bT (cW (vv 4) (cW (LX (SY (K:=K) rfl) SN (by rfl) T.n_tuple XZ (a8 (ZQ ["_law_block_here","_law_names_here","_law_row_here"] [5,7] 1 (WM rfl (vv 6)) (λc _ _ _ _=>⟨(cG c),XT,(cO (bS i a (cR (cO (ZU b (ZU b (vv 0) cU) (vv 2))) (cR (vv 1) cP))))⟩)))) cK))))
noncomputable abbrev Nx41:List Ti:=["_law_script","_law_town","_law_low","_law_many","_law_small"]
noncomputable abbrev Qx41:List Ti:=["_law_script","_law_town","_law_low"]
theorem FO:cI Nx41 Qx41 (cQ (top 61)):=ZW
theorem dQ(F:XW K "_law_cells" "_law_cells" (top 61) f fd)(T:Txt K mg)(b:cA P w K mg base "_law_draw" 3 II [1] bX f_x34)(c:cA P w K mg base "_law_pick" 4 MG [1] bP f_x35):aU P w K mg base CX0 5 f fd Qx41 (spV K [1] 3 YA):=
 WI P w K mg base Nx41 Qx41 4 T0 [1] F FO λ_ _ _ _ _ _ a g d=>by
  refine(cV ?_ (cV ?_ (cS ?_)))
  ·exact(bH FO.nd (Z8 (cO (bS c a (cR (vv 0) (bB (pv 1) (cR (a8 (Z0 (bW (cW (vv 2) (cW (LW (PB rfl) Tz (by rfl) T.n_min EK cU (ZZ (X2 (K:=K) rfl) ZF (vv 2) (bS b a (cR (vv 0) (bB (pv 1) (cR cU cP)))))) (cW cU cK)))))) cP)))))))
  ·exact(bH FO.nd (Z8 (cO (bS c a (cR (vv 0) (bB (pv 1) (cR (a8 (Z0 (bW (cW cU (cW cU (cW cU cK)))))) cP)))))))
  ·exact(cM (a8 (ZQ ["_law_script","_law_town","_law_small","_law_k"] [0,1,4] 1 (WS (by rfl) T.n_range (vv 3)) (λe _ _ _ _=>⟨(cG e),XT,(cO (bS b a (cR (vv 0) (bB (pv 1) (cR (vv 2) cP)))))⟩))))
noncomputable abbrev Nx47:List Ti:=["_law_script","_law_town","_law_block_here","_law_order_there","_law_names_here","_law_other","_law_one","_law_two","_law_again","_law_cells_here","_law_later","_law_fault","_law_there","_law_wrong"]
noncomputable abbrev Qx47:List Ti:=["_law_script"]
theorem YE:cI Nx47 Qx47 (cQ (top 67)):=ZW
theorem jO(F:XW K "law" "law" (top 67) f fd)(T:Txt K mg)(d:cA P w K mg base "must" 6 Qx24 [] WF f_x24)(g:cA P w K mg base "run" 7 Qx31 [] QA f_x31)(h:cA P w K mg base "_law_block" 8 Qx40 [1] YY f_x40)(i:cA P w K mg base "_law_cells" 5 Qx41 [1] YA f_x41)(j:cA P w K mg base "_law_must" 2 AI [] YZ f_x44)(k:cA P w K mg base "_law_mixed_order" 5 AJ [1] aY f_x45)(l:cA P w K mg base "_law_renamed" 1 AK [] b8 f_x46):aU P w K mg base CX0 9 f fd Qx47 (spV K [] 1 J9):=
 WI P w K mg base Nx47 Qx47 8 zCT [] F YE λ_ _ _ _ _ _ b c a=>by
  refine(cV ?_ (cV ?_ (cV ?_ (cV ?_ (cV ?_ (cV ?_ (cV ?_ (cV ?_ (cS ?_)))))))))
  ·exact(bH YE.nd (US (Z0 (bW cK))))
  ·exact(bH YE.nd (Z8 (cO (bS h b (cR (vv 0) (bB (pv 1) (cR cU cP)))))))
  ·exact(bE (bL (PQ (K:=K) rfl c) PZ (bS d b (cR (vv 2) cP)) (bS j b (cR (vv 2) cP)) (aV _))
   (cS (cM W1))
   cD)
  ·exact(bH YE.nd (Z8 (cO (bS k b (cR (vv 0) (bB (pv 1) (cR (vv 2) cP)))))))
  ·exact(bH YE.nd (Z8 (a8 (LZ rfl rfl (by rfl) T.n_dict CI (a8 (ZQ ["_law_number","_law_row_here"] [] 2 (Q5 rfl (by rfl) T.n_enumerate (vv 3)) (λe _ _ _ _=>⟨(Y4 (K:=K) rfl rfl (b6 (cG e) (b6 (cG e) ZP))),XT,(cO (bT (cW (vv 1) (cW (vv 0) cK))))⟩)))))))
  ·exact(bH YE.nd (Z8 (cO (bT (cW (ZU a (vv 2) cU) (cW (LX (SY (K:=K) rfl) SN (by rfl) T.n_tuple XZ (a8 (ZQ ["_law_block_here","_law_names_here","_law_row_here"] [2,4] 1 (WM rfl (vv 3)) (λe _ _ _ _=>⟨(cG e),XT,(cO (bS l b (cR (cO (ZU a (ZU a (vv 0) cU) (vv 2))) (cR (vv 1) cP))))⟩)))) cK))))))
  ·exact(U9 Dz rfl (WM rfl (cO (bS d b (cR (vv 2) cP)))) (Y4 (K:=K) rfl rfl (b6 (cG YE.nd) (b6 (cG YE.nd) ZP)))
   (cS (bE (RX (UJ (bL Ui s_gt (ZU a (vv 4) (vv 6)) (ZU a (vv 4) (vv 7)) (aV _)) (WO (bL (QR (K:=K) rfl c) (ZD (neg:=true)) (bT (cW (ZU a (vv 4) (vv 6)) (cW (ZU a (vv 4) (vv 7)) cK))) (bS d b (cR (vv 5) cP)) (by with_unfolding_all rfl)))))
   (cS (cM W1))
   cD)))
  ·exact (U9 Dz rfl (WS (by rfl) T.n_range cU) (cG YE.nd)
   (cV (bH YE.nd (Z8 (cO (bS i b (cR (vv 0) (bB (pv 1) (cR (cO (ZU a (vv 2) cU)) cP)))))))
   (cV (RW (cO (bS g b (cR (vv 2) (cR (vv 9) cP)))) (Y4 (K:=K) rfl rfl (b6 (cG YE.nd) (b6 (cG YE.nd) ZP))))
   (cV (RW (cO (bS g b (cR (vv 5) (cR (vv 9) cP)))) (Y4 (K:=K) rfl rfl (b6 (cG YE.nd) (b6 (cG YE.nd) ZP))))
   (cV (bE (bL N3 JV (vv 13) Y8 (aV _))
   (cS (bH YE.nd (Z8 (cO (bT (cW (ZU a (vv 3) (ZU a (vv 13) cU)) (cW (ZU a (vv 13) cU) cK)))))))
   cD)
   (cS (bE (RX (UJ (bL (PQ (K:=K) rfl c) PZ (vv 10) (vv 12) (aV _)) (WO (bL (PQ (K:=K) rfl c) PZ (vv 13) (vv 11) (aV _)))))
   (cS (cM W1))
   cD)))))))
  ·exact(cM (veq c (W9 T.n_len (bS d b (cR (vv 5) cP))) (W9 T.n_len (bS d b (cR (vv 2) cP)))))
end
end RR
namespace L2
open PySem
theorem bM(a b:String):Am a=Am b↔a=b:=by
 refine⟨λh=>?_,λh=>by rw[h]⟩;rw[Ie,Ie] at h;injection h with h;have h2:a.toList.map Pb=b.toList.map Pb:=by simpa using h
 have f:a.toList=b.toList:=by
  have inj:∀(l m:List Char),l.map Pb=m.map Pb->l=m:=by
   intro l;induction l with
   |nil=>intro m h;cases m with
    |nil=>rfl
    |cons=>cases h
   | cons c l d => intro m h;cases m with
    |nil=>cases h
    |cons e m=>
     simp only[Bg,Hz] at h;rw[d m h.2,Char.toNat_inj.mp h.1]
  exact inj _ _ h2
 exact String.toList_inj.mp f
theorem BZ(a:String):Si (Am a)=true:=by
 unfold Si;rw[Ie];simp only[List.all_toArray,Sh,Ix,Je,decide_eq_true_eq];intro c _;have:=c.valid;rcases this with h|⟨_,h⟩
 ·show c.val.toNat<1114112
  have:c.val.toNat<55296:=h;lia
 ·exact h
def RS(k:Nat)(d:cX):Prop:=d.isD=true/\d.pd.canLay0=true/\d.pd.depth<=k
theorem ZH{k:Nat}{i:Int}:RS k (.int i):=⟨rfl,rfl,Cy _⟩
theorem Vj{k:Nat}{i:Bool}:RS k (.bl i):=⟨rfl,rfl,Cy _⟩
theorem QW{k:Nat}:RS k .non:=⟨rfl,rfl,Cy _⟩
theorem YV{k:Nat}{a:String}:RS k (.str (Am a)):=⟨rfl,by simp[cX.pd,Gg,BZ],Cy _⟩
theorem JN{k:Nat}:∀{ds:List cX},(∀d∈ds,RS k d)->GO ds=true/\Ik (pds ds)=true/\Fj (pds ds)<=k
 |[],_=>⟨rfl,rfl,Cy _⟩
 |d::ds,h=>by obtain⟨f,a2,i⟩:=h d Ap;obtain⟨c,b,g⟩:=JN λe a=>h e (Ao _ a);refine⟨by simp[GO,f,c],by simp[pds,Ik,a2,b],?_⟩;simp only[pds,Fj];lia
theorem SZ{k:Nat}{ds:List cX}(h:∀d∈ds,RS k d):RS (k+1) (.tup ds):=by obtain⟨a,b,c⟩:=JN h;exact⟨by simpa[cX.isD] using a,by simpa[cX.pd,Gg] using b,by simp only[cX.pd,Iu];lia⟩
theorem X3{k:Nat}{ds:List cX}(h:∀d∈ds,RS k d):RS (k+1) (.lst ds):=by obtain⟨a,b,c⟩:=JN h;exact⟨by simpa[cX.isD] using a,by simpa[cX.pd,Gg] using b,by simp only[cX.pd,Iu];lia⟩
theorem RS.ok{k:Nat}{d:cX}(h:RS k d)(a:k<=64:=by decide):LD d=true:=by unfold LD Ey;simp only[h.1,h.2.1,Ll,Ag,decide_eq_true_eq];have:=h.2.2;lia
@[simp] theorem rT{a:String}:LD (.str (Am a))=true:=(YV (k:=0)).ok
theorem YF{k:Nat}:∀d∈([]:List cX),RS k d:=λ_ h=>nomatch h
theorem aK{k:Nat}{d:cX}{ds:List cX}(h:RS k d)(t:∀d∈ds,RS k d):∀e∈d::ds,RS k e:=λe a=>by
 rcases Ai.mp a with z|z
 ·rw[z];exact h
 ·exact t e z
@[simp] theorem Wm{i j:Int}:L8 (.int i) (.int j)=decide (i=j):=by show(i==j)=_;rw[Mp]
@[simp] theorem jU{a b:String}:L8 (.str (Am a)) (.str (Am b))=decide (a=b):=by show(Am a==Am b)=_;rw[Mp];simp only[bM]
@[simp] theorem iM:L8 (.tup []) (.tup [])=true:=(rfl)
@[simp] theorem Ym{d e:cX}{ds es:List cX}:L8 (.tup (d::ds)) (.tup (e::es))=(L8 d e&&L8 (.tup ds) (.tup es)):=(rfl)
@[simp] theorem uU{i j:Int}:WR (.int i) (.int j)=some (.bl (decide (i=j))):=by unfold WR;simp
@[simp] theorem rK{i j:Int}:OF (.int i) (.int j)=some (.bl (!decide (i=j))):=by unfold OF;simp
@[simp] theorem uC{a b:String}:WR (.str (Am a)) (.str (Am b))=some (.bl (decide (a=b))):=by unfold WR;simp
@[simp] theorem uT{a b:String}:OF (.str (Am a)) (.str (Am b))=some (.bl (!decide (a=b))):=by unfold OF;simp
theorem C5{j k:Nat}{d e:cX}(h:RS j d)(h':RS k e)(b:j<=64:=by decide)(a:k<=64:=by decide):WR d e=some (.bl (L8 d e)):=by unfold WR;rw[h.ok b,h'.ok a];rfl
theorem LC{j k:Nat}{d e:cX}(h:RS j d)(h':RS k e)(b:j<=64:=by decide)(a:k<=64:=by decide):OF d e=some (.bl (!L8 d e)):=by unfold OF;rw[h.ok b,h'.ok a];rfl
theorem Uh{j k:Nat}{neg:Bool}{d:cX}{ds:List cX}(h:RS j d)(h':∀e∈ds,RS k e)(b:j<=64:=by decide)(a:k+1<=64:=by decide):aS neg d (.tup ds)=some (.bl (if neg then !MD d ds else MD d ds)):=by unfold aS;simp[h.ok b,(SZ h').ok a]
theorem M5{j k:Nat}{neg:Bool}{d:cX}{ds:List cX}(h:RS j d)(h':∀e∈ds,RS k e)(b:j<=64:=by decide)(a:k+1<=64:=by decide):aS neg d (.lst ds)=some (.bl (if neg then !MD d ds else MD d ds)):=by unfold aS;simp[h.ok b,(X3 h').ok a]
@[simp] theorem uG{d:cX}:MD d []=false:=(rfl)
@[simp] theorem CQ{d e:cX}{ds:List cX}:MD d (e::ds)=(L8 e d || MD d ds):=(rfl)
@[simp] theorem MS{neg:Bool}{a b c:String}:aS neg (.str (Am a)) (.tup [.str (Am b),.str (Am c)])=some (.bl (if neg then !(decide (b=a) || decide (c=a)) else decide (b=a) || decide (c=a))):=by rw[Uh (j:=0) YV (aK (YV (k:=0)) (aK YV YF))];simp
@[simp] theorem CT{neg:Bool}{a b c d e:String}:aS neg (.str (Am a)) (.tup [.str (Am b),.str (Am c),.str (Am d),.str (Am e)])=some (.bl (if neg then !(decide (b=a) || (decide (c=a) || (decide (d=a) || decide (e=a)))) else decide (b=a) || (decide (c=a) || (decide (d=a) || decide (e=a))))):=by rw[Uh (j:=0) YV (aK (YV (k:=0)) (aK YV (aK YV (aK YV YF))))];simp
@[simp] theorem vW{neg:Bool}{a b c:Int}:aS neg (.int a) (.tup [.int b,.int c])=some (.bl (if neg then !(decide (b=a) || decide (c=a)) else decide (b=a) || decide (c=a))):=by rw[Uh (j:=0) ZH (aK (ZH (k:=0)) (aK ZH YF))];simp
theorem QN{k:Nat}{d:cX}(h:RS k d):L8 d d=true:=PySem.SeqAt.eqv_refl _ h.2.1
noncomputable def XM(ns:List Int):cX:=.lst (ns.map .int)
noncomputable def X7(n:Nat):cX:=.lst (Bi n (.int 0))
theorem K2:∀ns:List Int,GO (ns.map cX.int)=true
 |[]=>rfl
 |n::ns=>by simp[GO,cX.isD,K2 ns]
theorem HD:∀ns:List Int,pds (ns.map cX.int)=ns.map Oq
 |[]=>rfl
 |n::ns=>by simp[pds,cX.pd,HD ns]
theorem Zv(ns:List Int):LD (.lst (ns.map .int))=true:=by unfold LD;simp only[cX.isD,K2,cX.pd,HD,Ll];exact HS ns
theorem RA(ns:List Int):WR (.lst (ns.map .int)) (.lst [])=some (.bl ns.isEmpty):=by unfold WR;rw[Zv,show LD (.lst [])=true from by decide+kernel];cases ns<;>rfl
theorem K1:∀n:Nat,T6 (Bi n (.int 0))=true
 |0=>rfl
 |n+1=>by simp[List.replicate_succ,T6,cX.hard,K1 n]
@[simp] theorem vU(n:Nat):T8 (X7 n)=true:=K1 n
theorem KN:∀(ds:List cX) (a b:cX) (r:Int) (s:Sl),∃r' s',WY (gN 3) (Z3 2 (xV (f2 G4 (fV 2) (fC (.int 1000003))))) ds [.va a,.va b,.va (.int r),s]=some (.nx [.va a,.va b,.va (.int r'),s'])
 |[],a,b,r,s=>⟨r,s,rfl⟩
 |d::ds,a,b,r,s=>by obtain⟨r',s',h⟩:=KN ds a b (r/1000003) (.va d);exact⟨r',s',by simp[cDiv,h]⟩
theorem NY{ns:List Int}{i:Int}(c:0<=i)(h1:i<ns.length):∃r∈ns,WU (ns.map cX.int) i=some (.int r):=by obtain⟨x,a,e⟩:=EH (xs:=ns.map cX.int) c (by simpa using h1);obtain⟨r,b,rfl⟩:=Be.mp a;exact⟨r,b,e⟩
theorem Yu(ns:List Int)(k:Nat)(hl:ns.length<=63)(q:k<1000000):∃r,ZX [XM ns,.int k]=some (.int r,[]):=by
 unfold ZX;rw[cJ];unfold V6 UQ XM;by_cases h:(k:Int)<ns.length
 ·obtain ⟨r,_,e⟩ := NY (ns := ns) (i := k) (by lia) h
  exact⟨r,by simp[cF,h,e]⟩
 ·cases ns with
  |nil=>
   have n:¬((k:Int)<0):=by lia
   have e:WR (.lst []) (.lst [])=some (.bl true):=RA [];exact⟨0,by simp[cF,n,e]⟩
  |cons m g=>
   generalize a:m::g=ns at*;have f:(0:Int)<ns.length:=by rw[<-a];simp
   have hb:=Ia (k:Int) (show(ns.length:Int)≠0 by lia);have d:=Fe (k:Int) f;obtain⟨r,_,e⟩:=NY (ns:=ns) hb d;have l:ns.isEmpty=false:=by rw[<-a];rfl
   have p:0<=(k:Int)/ns.length:=Qy (by lia) (by lia);have j: -4611686018427387904<=(if(60:Int)<(k:Int)/ns.length then 60 else(k:Int)/ns.length)/\(if(60:Int)<(k:Int)/ns.length then 60 else(k:Int)/ns.length)<4611686018427387904:=by split<;>lia
   obtain⟨r',s',o⟩:=KN (aG 0 (if(60:Int)<(k:Int)/ns.length then 60 else(k:Int)/ns.length).toNat) (.lst (ns.map .int)) (.int k) r .no;have c:0<ns.length:=by lia
   have b:(ns.length:Int)<1073741824:=by lia
   exact⟨r*31+k+r'*101,by simp[cF,h,RA,l,f,c,b,e,cDiv,j,o,AQ]⟩
noncomputable def cel(ns:List Int)(k:Nat):Int:=match ZX [XM ns,.int k] with
 |some (.int r,_)=>r
 |_=>0
theorem iU(ns:List Int)(k:Nat)(hl:ns.length<=63)(a:k<1000000):ZX [XM ns,.int k]=some (.int (cel ns k),[]):=by obtain⟨r,e⟩:=Yu ns k hl a;unfold cel;rw[e]
noncomputable def MK(ns:List Int)(n:Nat)(b:Int):Int:=((cel ns (n+1)*1103515245+7919*(((n+1:Nat)):Int)+12345) % 2147483647) ^ 5 % 2147483647 % 999983 % b
theorem QK(ns:List Int)(n:Nat){b:Int}(h:0<b):0<=MK ns n b:=Ia _ (by lia)
theorem GF(ns:List Int)(n:Nat){b:Int}(h:0<b):MK ns n b<b:=Fe _ h
theorem Yw(ns:List Int)(n:Nat)(b:Int)(hl:ns.length<=63)(d:n<900000)(hb:0<b):YB [XM ns,.int ((n+1:Nat):Int),.int b]=some (.int (MK ns n b),[]):=by
 have e:=iU ns (n+1) hl (by lia);unfold YB;rw[cJ];unfold T3 MK;have h:=Ia (cel ns (n+1)*1103515245+7919*((n+1:Nat):Int)+12345) (show(2147483647:Int)≠0 by decide);have g:=Fe (cel ns (n+1)*1103515245+7919*((n+1:Nat):Int)+12345) (show(0:Int)<2147483647 by decide);generalize c:(cel ns (n+1)*1103515245+7919*((n+1:Nat):Int)+12345) % 2147483647=z at*;have a:z.natAbs<18446744073709551616:=by lia
 generalize f:((n+1:Nat):Int)=k at*;simp[cF,e,AQ,cPow,c,a,hb]
theorem X0(ns:List Int)(n:Nat)(b:Int)(hl:ns.length<=63)(d:n<900000)(hb:0<b):bX [XM ns,X7 n,.int b]=some (.int (MK ns n b),[X7 (n+1)]):=by
 have e:=Yw ns n b hl d hb;unfold bX;rw[cJ];unfold RG;have c:X7 n=.lst (Bi n (.int 0)):=rfl;have a:X7 (n+1)=.lst (Bi n (.int 0)++[.int 0]):=by unfold X7;rw[List.replicate_succ']
 rw[a,c];have hs:n<16777216:=by lia
 push_cast at e
 simp[cF,hs,e]
theorem WZ(ns:List Int)(n:Nat)(xs:List cX)(hl:ns.length<=63)(b:n<900000)(d:0<xs.length):∃x∈xs,bP [XM ns,X7 n,.lst xs]=some (x,[X7 (n+1)]):=by
 have a:(0:Int)<xs.length:=by lia
 obtain⟨x,c,e⟩:=EH (xs:=xs) (QK ns n a) (GF ns n a);refine⟨x,c,?_⟩;unfold bP;rw[cJ];unfold RJ;simp[cF,X0 ns n _ hl b a,e]
theorem CN(ns:List Int)(n:Nat)(b:Int)(hl:ns.length<=63)(a:n<900000)(hb:0<b)(tl:Ev):cL 3 [1] bX (aE (fV 0) (aO 1 (aE (fC (.int b)) bY))) (.va (XM ns):: .ow (X7 n)::tl)=some (.int (MK ns n b),.va (XM ns):: .ow (X7 (n+1))::tl):=by simp[X0 ns n b hl a hb]
abbrev Sn(m:Nat)(d:cX):Prop:=∃(ks:List Z7) (vs:List Int),d=.dct ks (vs.map .int)/\ks.length=vs.length/\ks.Nodup/\ks.length<=m
abbrev MH(n:Nat)(d:cX):Prop:=Sn (8*n) d
theorem MH.mono{n m:Nat}{d:cX}(h:MH n d)(b:n<=m):MH m d:=by obtain⟨ks,vs,h1,h2,a,c⟩:=h;exact⟨ks,vs,h1,h2,a,by lia⟩
theorem Vp:∀(ks:List Z7) (vs:List Int) (k:Z7) (q:Int),∃r,(bD ks (vs.map .int) k).getD (.int q)=.int r
 |[],_,_,q=>⟨q,by simp[bD]⟩
 |_::_,[],_,q=>⟨q,by simp[bD]⟩
 | k' :: ks,v :: vs,k,q => by
  by_cases h:k'=k
  ·exact⟨v,by simp[bD,h]⟩
  ·obtain⟨r,e⟩:=Vp ks vs k q
   exact⟨r,by simp only[Bg,bD,if_neg h];exact e⟩
theorem putI:∀(ks:List Z7) (vs:List Int) (k:Z7) (p:Int),ks.length=vs.length->ks.Nodup->∃(a:List Z7) (b:List Int),X4 ks (vs.map .int) k (.int p)=(a,b.map .int)/\a.length=b.length/\a.Nodup/\a.length<=ks.length+1/\(∀z∈a,z=k∨z∈ks)/\bD a (b.map .int) k=some (.int p)
 |[],[],k,p,_,_=>⟨[k],[p],by simp[X4],rfl,by simp,by simp,by simp,by simp[bD]⟩
 | k' :: ks,v :: vs,k,p,hl,c => by
  by_cases h:k'=k
  ·subst h
   exact⟨k'::ks,p::vs,by simp[X4],by simpa using hl,c,by simp,by simp,by simp[bD]⟩
  ·obtain ⟨a,b,e,h1,h2,i,d,g⟩ := putI ks vs k p (by simpa using hl) (Cw.mp c).2
   refine⟨k'::a,v::b,by simp only[Bg,X4,if_neg h,e],by simp[h1],?_,by simp;lia,?_,by simp only[Bg,bD,if_neg h];exact g⟩
   ·refine Cw.mpr ⟨λz => ?_,h2⟩
    rcases d _ z with y|y
    ·exact h y
    ·exact(Cw.mp c).1 y
   ·intro z f
    rcases Ai.mp f with y|y
    ·exact .inr (by rw[y];exact Ap)
    ·exact(d z y).imp id (Ao _)
theorem HE(ns:List Int)(n:Nat)(sn:cX)(x:Ti)(c:Int)(hl:ns.length<=63)(s:n<800000)(hs:MH n sn)(i:0<c):∃p f,0<=p/\p<c/\MH (n+2) f/\Z5 [XM ns,X7 n,sn,.str x,.int c]=some (.int p,[X7 (n+2),f]):=by
 obtain⟨ks,vs,rfl,h1,h2,v⟩:=hs;obtain⟨a,l⟩:=Vp ks vs (.inr x) (MK ns n c);obtain⟨y,j,r⟩:=WZ ns (n+1) [.int 1,.int 1,.int 1,.int 0,.int 3] hl (by lia) (by simp);obtain⟨b,rfl⟩:∃b,y=.int b:=by simp only[Ai,Ax,or_false] at j;rcases j with h|h|h|h|h<;>exact⟨_,h⟩
 obtain⟨g,d,e,q,o,u,t,m⟩:=putI ks vs (.inr x) ((a+b) % c) h1 h2;refine⟨(a+b) % c,.dct g (d.map .int),Ia _ (by lia),Fe _ i,⟨g,d,rfl,q,o,by lia⟩,?_⟩;have k:ks.length<16777216:=by lia
 unfold Z5;rw[cJ];unfold T4;simp[cF,X0 ns n c hl (by lia) i,l,r,i,k,h2,e,m]
inductive aB(M:Int->Prop):cX->Prop
 |number {n:Int}:0<=n->n<=999->aB M (.tup [.str "number",.int n])
 |two {x:String} {a b:Int}:x∈["over","plus","minus","times","least","most","less"]->M a->M b->aB M (.tup [.str x,.int a,.int b])
 |pick {c a b:Int}:M c->M a->M b->aB M (.tup [.str "pick",.int c,.int a,.int b])
 |load {p:Int}:0<=p->p<=63->aB M (.tup [.str "load",.int p])
 |take {p c a:Int}:0<=p->p<=63->M c->M a->aB M (.tup [.str "take",.int p,.int c,.int a])
 |store {p a:Int}:0<=p->p<=63->M a->aB M (.tup [.str "store",.int p,.int a])
 |put {p a c:Int}:0<=p->p<=63->M a->M c->aB M (.tup [.str "put",.int p,.int a,.int c])
theorem oT(ns:List Int)(n:Nat)(made:List Int)(hl:ns.length<=63)(k:n<800000)(l:0<made.length)(s:Sl):∃a b c,a∈made/\b∈made/\c∈made∧ZT 3 1 (gN 3) W2 (f2 cB (fV 2) (f2 oMax (fC (.int 0)) (f2 L9 (f2 L9 (f1 YJ (fV 2)) (fC (.int 1))) (cL 3 [1] bX (aE (fV 0) (aO 1 (aE (fC (.int 6)) bY))))))) [.int 0,.int 1,.int 2] [] [.va (XM ns),.ow (X7 n),.va (.lst (made.map .int))]=some ([.int a,.int b,.int c],[.va (XM ns),.ow (X7 (n+3)),.va (.lst (made.map .int))]):=by
 have one:∀m,∃a∈made,WU (made.map cX.int) (if(made.length:Int) - 1 - MK ns m 6>0 then(made.length:Int) - 1 - MK ns m 6 else 0)=some (.int a):=λm=>by have:=QK ns m (b:=6) (by decide);exact NY (by split<;>lia) (by split<;>lia)
 obtain⟨a,g,f⟩:=one n;obtain⟨b,hb,e⟩:=one (n+1);obtain⟨c,hc,d⟩:=one (n+2);refine⟨a,b,c,g,hb,hc,?_⟩;have j:=X0 ns n 6 hl (by lia) (by decide);have i:=X0 ns (n+1) 6 hl (by lia) (by decide);have h:=X0 ns (n+2) 6 hl (by lia) (by decide);simp only[gt_iff_lt,Int.sub_pos] at f e d;simp[j,i,h,f,e,d]
def OQ(x:String):Prop:=x= "load" ∨x= "take" ∨x= "store" ∨x= "put"
def PlOK(b:Int)(a:cX):Prop:=∀(x:String) (p:Int) (t:List cX),a=.tup (.str x:: .int p::t)->OQ x->p<b
theorem QZ{a p:Int}{x:String}{t:List cX}(h:p<a):PlOK a (.tup (.str x:: .int p::t)):=λy q u e _=>by simp only[cX.tup.injEq,Hz,cX.int.injEq] at e;lia
theorem FA{b:Int}{x:String}{t:List cX}(h:¬OQ x):PlOK b (.tup (.str x::t)):=λy q u e a=>by simp only[cX.tup.injEq,Hz,cX.str.injEq,bM] at e;rw[<-e.1] at a;exact absurd a h
theorem D5{x:String}(a:x∈["over","plus","minus","times","least","most","less"]):¬OQ x:=λh=>by simp only[Ai,Ax,or_false] at a;rcases a with rfl|rfl|rfl|rfl|rfl|rfl|rfl<;>rcases h with h|h|h|h<;>exact absurd h (by decide)
theorem FQ{s1 a:VS}{δ δ1:Ev}(h:s1 δ=some (.nx δ1)):cC s1 a δ=a δ1:=by rw[FH,h,qS_n]
theorem iR(ns:List Int)(n:Nat)(made:List Int)(sn:cX)(g:Int)(hl:ns.length<=63)(hn:n<700000)(hs:MH n sn)(I:0<g)(Q:g<=64):∃l v d,n<=v/\v<=n+10/\MH v d/\aB (· ∈made) l/\PlOK g l/\WP [XM ns,X7 n,.lst (made.map .int),sn,.int g]=some (l,[X7 v,d]):=by
  have t:=CN ns n 13 hl (by lia) (by decide);have Z:=QK ns n (b:=13) (by decide);have Y:=GF ns n (b:=13) (by decide);generalize MK ns n 13=e at*;unfold WP;rw[cJ];unfold PL;by_cases J:made.isEmpty=true∨e=0
  · have z := CN ns (n + 1) 2 hl (by lia) (by decide)
    have m:made.isEmpty=true∨(made.isEmpty=false/\e=0):=by
      cases D:made.isEmpty with
      |true=>exact .inl rfl
      | false => rcases J with h | h
                 · rw[D] at h;cases h
                 · exact .inr ⟨rfl,h⟩
    by_cases h2:MK ns (n+1) 2=0
    · have K := CN ns (n + 2) 1000 hl (by lia) (by decide)
      obtain⟨y,w,r⟩:=WZ ns (n+3) [.int 0,.int 1,.int 2,.int 5,.int 999,.int (MK ns (n+2) 1000)] hl (by lia) (by simp);obtain⟨b,rfl,G,F⟩:∃b,y=.int b/\0<=b/\b<=999:=by have:=QK ns (n+2) (b:=1000) (by decide);have:=GF ns (n+2) (b:=1000) (by decide);simp only[Ai,Ax,or_false] at w;rcases w with h|h|h|h|h|h<;>exact⟨_,h,by lia,by lia⟩
      refine⟨.tup [.str "number",.int b],n+4,sn,by lia,by lia,hs.mono (by lia),.number G F,FA (by unfold OQ;decide),?_⟩;rcases m with h|⟨h,h'⟩
      · simp[cF,↓t,RA,h,↓z,h2,↓K,r]
      · simp[cF,↓t,RA,h,h',↓z,h2,↓K,r]
    · obtain ⟨p,d,k,j,f,i⟩ := HE ns (n + 2) sn "load" g hl (by lia) (hs.mono (by lia)) I
      refine⟨.tup [.str "load",.int p],n+4,d,by lia,by lia,f,.load k (by lia),QZ j,?_⟩;rcases m with h|⟨h,h'⟩
      · simp[cF,↓t,RA,h,↓z,h2,i]
      · simp[cF,↓t,RA,h,h',↓z,h2,i]
  · obtain⟨D,E⟩:=not_or.mp J
    have o:made.isEmpty=false:=by simpa using D
    have R:0<made.length:=by
      cases made with
      |nil=>cases o
      |cons=>simp
    obtain⟨a,b,c,q,hb,hc,S⟩:=oT ns (n+1) made hl (by lia) R .no;rw[show cF [1,3] 9 [XM ns,X7 n,.lst (made.map .int),sn,.int g]=[.va (XM ns),.ow (X7 n),.va (.lst (made.map .int)),.ow sn,.va (.int g),.no,.no,.no,.no] from rfl,FQ (δ1:=[.va (XM ns),.ow (X7 (n+1)),.va (.lst (made.map .int)),.ow sn,.va (.int g),.va (.int e),.no,.no,.no]) (by simp[↓t]),FQ (δ1:=[.va (XM ns),.ow (X7 (n+1)),.va (.lst (made.map .int)),.ow sn,.va (.int g),.va (.int e),.no,.no,.no]) (by simp[RA,o,E]),FQ (δ1:=[.va (XM ns),.ow (X7 (n+4)),.va (.lst (made.map .int)),.ow sn,.va (.int g),.va (.int e),.va (.int a),.va (.int b),.va (.int c)]) (by simp[a9,S])]
    have L:(e=1∨e=2)∨e=3∨(e=4∨e=5)∨e=6∨e=7∨(8<=e/\e<=12):=by lia
    have u:∀x:Ti,∃p d,0<=p/\p<=63/\p<g/\MH (n+6) d/\∀s tl,cL 5 [1,2] Z5 (aE (fV 0) (aO 1 (aO 3 (aE (fC (.str x)) (aE (fV 4) bY))))) (.va (XM ns):: .ow (X7 (n+4))::s:: .ow sn:: .va (.int g)::tl)=some (.int p,.va (XM ns):: .ow (X7 (n+6))::s:: .ow d:: .va (.int g)::tl):=λx=>by obtain⟨p,d,k,j,f,i⟩:=HE ns (n+4) sn x g hl (by lia) (hs.mono (by lia)) I;exact⟨p,d,k,by lia,j,f,λs tl=>by simp[i]⟩
    rcases L with h|h|h|h|h|h
    · have t12 : (decide (1 = e) || decide (2 = e)) = true := by rcases h with rfl | rfl <;> decide
      obtain⟨p,d,k,j,p2,f,i⟩:=u "load";exact⟨.tup [.str "load",.int p],n+6,d,by lia,by lia,f,.load k j,QZ p2,by simp[↓i,t12]⟩
    · subst h
      obtain⟨p,d,k,j,p2,f,i⟩:=u "take";exact⟨.tup [.str "take",.int p,.int c,.int a],n+6,d,by lia,by lia,f,.take k j hc q,QZ p2,by simp[↓i]⟩
    · have t45 : (decide (4 = e) || decide (5 = e)) = true := by rcases h with rfl | rfl <;> decide
      have A:¬e=3:=by lia
      have C:¬1=e:=by lia
      have B:¬2=e:=by lia
      obtain⟨p,d,k,j,p2,f,i⟩:=u "store";exact⟨.tup [.str "store",.int p,.int a],n+6,d,by lia,by lia,f,.store k j q,QZ p2,by simp[↓i,A,C,B,t45]⟩
    · subst h
      obtain⟨p,d,k,j,p2,f,i⟩:=u "put";exact⟨.tup [.str "put",.int p,.int a,.int c],n+6,d,by lia,by lia,f,.put k j q hc,QZ p2,by simp[↓i]⟩
    · subst h
      exact⟨.tup [.str "pick",.int c,.int a,.int b],n+4,sn,by lia,by lia,hs.mono (by lia),.pick hc q hb,FA (by unfold OQ;decide),by simp⟩
    · have T := CN ns (n + 4) 7 hl (by lia) (by decide)
      have q0:=QK ns (n+4) (b:=7) (by decide);have q1:=GF ns (n+4) (b:=7) (by decide);obtain⟨y,w,r⟩:=EH (xs:=["over","plus","minus","times","least","most","less"].map λs:String=>cX.str (Am s)) q0 (by simpa using q1);obtain⟨x,H,rfl⟩:=Be.mp w;simp only[Bg,Dw] at r;have X:¬e=1:=by lia
      have W:¬e=2:=by lia
      have A:¬e=3:=by lia
      have V:¬e=4:=by lia
      have U:¬e=5:=by lia
      have N:¬e=6:=by lia
      have M:¬e=7:=by lia
      have C:¬1=e:=by lia
      have B:¬2=e:=by lia
      have P:¬4=e:=by lia
      have O:¬5=e:=by lia
      exact⟨.tup [.str x,.int a,.int b],n+5,sn,by lia,by lia,hs.mono (by lia),.two H q hb,FA (D5 H),by simp[A,N,M,C,B,P,O,↓T,r]⟩
inductive Kd where
 |w|p|n
 deriving DecidableEq
def Nm(kds:List Kd)(k:Kd)(a:Int):Prop:=0<=a/\kds[a.toNat]?=some k
theorem Nm.lt{kds:List Kd}{k:Kd}{a:Int}(h:Nm kds k a):a<kds.length:=by have:=(Ad.mp h.2).1;have:=h.1;lia
theorem Nm.snoc{kds:List Kd}{k j:Kd}{a:Int}(h:Nm kds k a):Nm (kds++[j]) k a:=⟨h.1,by rw[Af (Ad.mp h.2).1];exact h.2⟩
theorem Nm.new{kds:List Kd}{k:Kd}:Nm (kds++[k]) k kds.length:=⟨by lia,by simp⟩
noncomputable def Q7(k:Kd):cX->Kd
 |.tup (.str x::_)=>if x= "store" ∨x= "put" then .n else k
 |_=>.n
theorem aB.imp{M M':Int->Prop}{e:cX}(h:aB M e)(f:∀a,M a->M' a):aB M' e:=by
 cases h with
 |number a b=>exact .number a b
 |two a b c=>exact .two a (f _ b) (f _ c)
 |pick a b c=>exact .pick (f _ a) (f _ b) (f _ c)
 |load a b=>exact .load a b
 |take a b c d=>exact .take a b (f _ c) (f _ d)
 |store a b c=>exact .store a b (f _ c)
 |put a b c d=>exact .put a b (f _ c) (f _ d)
theorem aB.hard{M:Int->Prop}{a:cX}(h:aB M a):a.hard=true:=by
 cases h<;>simp[cX.hard,T6]
theorem KO(ns:List Int)(b:Int)(hl:ns.length<=63)(hb:0<b)(fe:VF)(x:Sl)(tail:Ev)(c:Nat)(a:c=tail.length+2)(f:∀n d,n<800000->fe ([.va (XM ns),.ow (X7 n)]++tail++[.va d])=some (.int (MK ns n b),[.va (XM ns),.ow (X7 (n+1))]++tail++[.va d])):∀(ds:List cX) (n:Nat) (acc:List cX),n+ds.length<800000->acc.length+ds.length<1000000->∃ws:List Int,ws.length=ds.length/\(∀w∈ws,0<=w/\w<b)∧ZT c 1 (gN c) W2 fe ds acc ([.va (XM ns),.ow (X7 n)]++tail)=some (acc++ws.map .int,[.va (XM ns),.ow (X7 (n+ds.length))]++tail)
 |[],n,acc,_,_=>⟨[],rfl,(λ_ h=>nomatch h),by simp⟩
 | d :: ds,n,acc,g,i => by
  obtain⟨ws,h1,h2,j⟩:=KO ns b hl hb fe x tail c a f ds (n+1) (acc++[.int (MK ns n b)]) (by simp at g;lia) (by simp at i⊢;lia);refine⟨MK ns n b::ws,by simp[h1],λw hw=>?_,?_⟩
  ·rcases Ai.mp hw with z|z
   ·rw[z];exact⟨QK ns n hb,GF ns n hb⟩
   ·exact h2 w z
  ·have e := f n d (by simp at g;lia)
   have k:([Sl.va (XM ns),Sl.ow (X7 n)]++tail++[Sl.no]).set c (.va d)=[Sl.va (XM ns),Sl.ow (X7 n)]++tail++[Sl.va d]:=by rw[Fb _ _ (by simp[a])];simp[a]
   have l:([Sl.va (XM ns),Sl.ow (X7 (n+1))]++tail++[Sl.va d]).take c=[Sl.va (XM ns),Sl.ow (X7 (n+1))]++tail:=by rw[Ct (by simp[a]),Co (by simp[a])]
   have m:acc.length<16777216:=by simp at i;lia
   simp only[SO,C4,GK,k,LI,EJ,DL,e,DM,if_pos m,l,j];simp[show n+1+ds.length=n+(ds.length+1) by lia]
@[simp] theorem vR{i:Int}:G6 (.int i)=some (.int (-i)):=(rfl)
theorem SQ{ds:List cX}{k:Nat}(h:k<=ds.length):VL ds (some (k:Int)) none=ds.drop k:=by unfold VL;rw[HT.DX,HT.HN,Jv h,Co (by simp)]
theorem QJ{ds:List cX}{k:Nat}:VL ds none (some (k:Int))=ds.take k:=by
 unfold VL;rw[HT.DX,HT.HN];simp only[Na,Nat.sub_zero];by_cases h:k<=ds.length
 ·rw[Jv h]
 ·rw[Nat.min_eq_right (by lia),Co (by lia),Co (by lia)]
@[simp] theorem sJ{d:cX}{ds:List cX}:VL (d::ds) (some 1) none=ds:=SQ (k:=1) (by simp)
@[simp] theorem vj{d e:cX}{ds:List cX}:VL (d::e::ds) (some 2) none=ds:=SQ (k:=2) (by simp)
@[simp] theorem ue{ds:List cX}:VL ds none (some 2)=ds.take 2:=QJ (k:=2)
@[simp] theorem sC{ds:List cX}:VL ds none (some 1)=ds.take 1:=QJ (k:=1)
@[simp] theorem rG{α:Type}{xs:List α}{x:α}:WU (xs++[x]) (-1)=some x:=by
 unfold WU K4;rw[if_neg (by decide),if_pos (by simp;lia)];have e:(-1+((xs++[x]).length:Int)).toNat=xs.length:=by simp;lia
 show(xs++[x])[(-1+((xs++[x]).length:Int)).toNat]?=some x;rw[e];simp
@[simp] theorem rY{α:Type}{x:α}{xs:List α}:WU (x::xs) 0=some x:=by rw[Y0 (by decide) (by simp)];rfl
@[simp] theorem rZ{α:Type}{x y:α}{xs:List α}:WU (x::y::xs) 1=some y:=by rw[Y0 (by decide) (by simp;lia)];rfl
@[simp] theorem we{α:Type}{x y z:α}{xs:List α}:WU (x::y::z::xs) 2=some z:=by rw[Y0 (by decide) (by simp;lia)];rfl
theorem iY{k:Kd}{x:String}{t:List cX}(a:x∉["store","put"]):Q7 k (.tup (.str x::t))=k:=by simp only[Ai,Ax,or_false,not_or] at a;simp[Q7,bM,a]
theorem kM{k:Kd}{x:String}{t:List cX}(a:x= "store" ∨x= "put"):Q7 k (.tup (.str x::t))=.n:=by
 rcases a with rfl|rfl<;>simp[Q7,bM]
theorem Q1{M:Int->Prop}{a:cX}(h:aB M a):∃(x:String) (t:List cX),a=.tup (.str x::t)/\x∉["wide","gather","shuffle"]:=by
 cases h with
 |two b _ _=>
  simp only[Ai,Ax,or_false] at b;rcases b with rfl|rfl|rfl|rfl|rfl|rfl|rfl<;>exact⟨_,_,rfl,by decide⟩
 |_=>exact⟨_,_,rfl,by decide⟩
@[simp] theorem vE(n lo hi:Int):aR [.int n,.int lo,.int hi]=some (.bl (decide (lo<=n)&&decide (n<=hi)),[]):=by unfold aR;rw[cJ];unfold RF;simp[cF];by_cases h:lo<=n<;>simp[h]
theorem BK{x:String}(h:x∈["over","plus","minus","times","least","most","less"]):aC [.str x]=some (.tup [.str "row",.str "row"],[]):=by simp only[Ai,Ax,or_false] at h;rcases h with rfl|rfl|rfl|rfl|rfl|rfl|rfl<;>kernel_rfl
@[simp] theorem rS:aC [.str "number"]=some (.tup [.str "word"],[]):=by kernel_rfl
@[simp] theorem tE:aC [.str "pick"]=some (.tup [.str "row",.str "row",.str "row"],[]):=by kernel_rfl
@[simp] theorem pV:aC [.str "load"]=some (.tup [.str "place"],[]):=by kernel_rfl
@[simp] theorem uv:aC [.str "take"]=some (.tup [.str "place",.str "row",.str "row"],[]):=by kernel_rfl
@[simp] theorem vw:aC [.str "store"]=some (.tup [.str "place",.str "row"],[]):=by kernel_rfl
@[simp] theorem tO:aC [.str "put"]=some (.tup [.str "place",.str "row",.str "row"],[]):=by kernel_rfl
def Ab(b:List Bool)(a:Int):Prop:=0<=a/\b[a.toNat]?=some true
theorem mI{b:List Bool}{a:Int}(h:Ab b a):XJ [.int a,.lst (b.map .bl)]=some (.bl true,[]):=by
 have d:=(Ad.mp h.2).1;have c:=h.1;have h1:a<=(b.length:Int) - 1:=by lia
 have h2:WU (b.map cX.bl) a=some (.bl true):=by rw[Y0 c (by simp;lia)];simp[h.2]
 unfold XJ;rw[cJ];unfold RL;simp[cF,c,h1,h2]
theorem YI{b:List Bool}{a:Int}(h:Ab b a):V2 [.str "row",.int a,.lst (b.map .bl)]=some (.bl true,[]):=by unfold V2;rw[cJ];unfold MN;simp[cF,mI h]
theorem A6{d:cX}{a:Int}(h:0<=a)(h':a<=999):V2 [.str "word",.int a,d]=some (.bl true,[]):=by unfold V2;rw[cJ];unfold MN;simp[cF,aQ,h,h']
theorem UX{d:cX}{a:Int}(h:0<=a)(h':a<=63):V2 [.str "place",.int a,d]=some (.bl true,[]):=by unfold V2;rw[cJ];unfold MN;simp[cF,UU,h,h']
@[simp] theorem sE:N9 []=some []:=(rfl)
@[simp] theorem qY{b:Bool}{ds:List cX}:N9 (.bl b::ds)=(N9 ds).map λks=>b::ks:=(rfl)
@[simp] theorem uA{g:List Bool->Bool}{ds:List cX}:Uf g (.lst ds)=(N9 ds).map λks=>.bl (g ks):=(rfl)
@[simp] theorem vk{ds:List cX}:SF ds []=[]:=by cases ds<;>rfl
@[simp] theorem tQ{d e:cX}{ds es:List cX}:SF (d::ds) (e::es)=.tup [d,e]::SF ds es:=(rfl)
theorem iF{e:List Bool}{f:cX}(h:aB (Ab e) f):VC [f,.lst (e.map .bl)]=some (.bl true,[]):=by
 unfold VC;rw[cJ];unfold MO;cases h with
 |number a b=>simp[cF,a9,A6 a b]
 |two g a b=>simp[cF,a9,BK g,YI a,YI b]
 |pick a b c=>simp[cF,a9,YI a,YI b,YI c]
 |load a b=>simp[cF,a9,UX a b]
 |take a b c d=>simp[cF,a9,UX a b,YI c,YI d]
 |store a b c=>simp[cF,a9,UX a b,YI c]
 |put a b c d=>simp[cF,a9,UX a b,YI c,YI d]
theorem VJ(a:Nat)(fe:VF)(δ:Ev)(f:cX->cX)(b:δ.length=a):∀(ds acc:List cX),(∀d∈ds,fe (δ++[Sl.va d])=some (f d,δ++[Sl.va d]))->acc.length+ds.length<16777216->ZT a 1 (gN a) W2 fe ds acc δ=some (acc++ds.map f,δ)
 |[],acc,_,_=>by simp
 |d::ds,acc,h,hl=>by
  have i:(δ++[Sl.no]).set a (.va d)=δ++[Sl.va d]:=by rw[Fb _ _ (by lia)];simp[b]
  have j:(δ++[Sl.va d]).take a=δ:=by rw[Ct (by lia),Co (by lia)]
  have k:acc.length<16777216:=by simp at hl;lia
  have c:=VJ a fe δ f b ds (acc++[f d]) (λe g=>h e (Ao _ g)) (by simp at hl⊢;lia);simp only[SO,C4,GK,i,LI,EJ,DL,h d Ap,DM,if_pos k,j,c];simp
theorem F7{α:Type}:∀ds:List α,N9 (ds.map λ_=>.bl true)=some (ds.map λ_=>true)
 |[]=>rfl
 |d::ds=>by simp[F7 ds]
@[simp] theorem sH{α β:Type}(f:α->β)(ds:List α):N9 (ds.map ((λ_=>cX.bl true)∘f))=some (ds.map λ_=>true):=F7 ds
def Wd(w:Int):Prop:=0<=w/\w<=999
theorem oM{a b:Int}(d:Wd a)(hb:Wd b):0<=a*b/\a*b<=998001:=by obtain⟨g,f⟩:=d;obtain⟨c,e⟩:=hb;exact⟨Int.mul_nonneg g c,Int.le_trans (Int.mul_le_mul f e c (by decide)) (by decide)⟩
theorem AZ{x:String}(c:x∈["over","plus","minus","times","least","most","less"]){a b:Int}(d:Wd a)(hb:Wd b):∃r,V1 [.str x,.lst [.int a,.int b]]=some (r,[])/\((r=.non/\x= "over" /\b=0)∨∃w,r=.int w/\Wd w):=by
 have n:=oM d hb;obtain⟨f,o⟩:=d;obtain⟨m,l⟩:=hb;have hc:AQ a b=true:=by simp[AQ];lia
 have j: -18446744073709551616<a/\a<18446744073709551616∨ -18446744073709551616<b/\b<18446744073709551616:=by lia
 unfold V1;rw[cJ];unfold JF;simp only[Ai,Ax,or_false] at c;rcases c with rfl|rfl|rfl|rfl|rfl|rfl|rfl
 ·by_cases h:b=0
  ·subst h
   have e:TL [.int a,.int 0]=some (.non,[]):=by unfold TL;rw[cJ];unfold JI;simp[cF]
   exact⟨.non,by simp[cF,V4,bD,bM,WB,e,cX.hard],.inl ⟨rfl,rfl,rfl⟩⟩
  ·have i : 0 < b := by lia
   have g:b<1073741824:=by lia
   have q0:0<=a/b:=Qy f (by lia);have q1:a/b<=a:=Int.ediv_le_self _ f;have k:a/b<9223372036854775808:=by lia
   have e:TL [.int a,.int b]=some (.int (a/b),[]):=by unfold TL;rw[cJ];unfold JI;simp[cF,h,cDiv,i,g]
   exact⟨.int (a/b),by simp[cF,V4,bD,bM,WB,e,cX.hard],.inr ⟨_,rfl,q0,by lia⟩⟩
 ·have e:O0 [.int a,.int b]=some (.int ((a+b) % 1000),[]):=by unfold O0;rw[cJ];unfold EY;simp[cF,aQ]
  exact⟨.int ((a+b) % 1000),by simp[cF,V4,bD,bM,WB,e,cX.hard],.inr ⟨_,rfl,by lia,by lia⟩⟩
 ·have e:SI [.int a,.int b]=some (.int ((a - b) % 1000),[]):=by unfold SI;rw[cJ];unfold JH;simp[cF,aQ]
  exact⟨.int ((a - b) % 1000),by simp[cF,V4,bD,bM,WB,e,cX.hard],.inr ⟨_,rfl,by lia,by lia⟩⟩
 ·have e:SJ [.int a,.int b]=some (.int (a*b % 1000),[]):=by unfold SJ;rw[cJ];unfold JJ;simp[cF,aQ,hc]
  exact⟨.int (a*b % 1000),by simp[cF,V4,bD,bM,WB,e,cX.hard],.inr ⟨_,rfl,by lia,by lia⟩⟩
 ·have e:SH [.int a,.int b]=some (.int (if a<=b then a else b),[]):=by
   unfold SH;rw[cJ];unfold JG;by_cases h:a<=b
   ·have h' : ¬ b < a := by lia
    simp[cF,h,h']
   ·have h' : b < a := by lia
    simp[cF,h,h']
  exact⟨.int (if a<=b then a else b),by simp[cF,V4,bD,bM,WB,e,cX.hard],.inr ⟨_,rfl,by split<;>lia,by split<;>lia⟩⟩
 ·have e:OY [.int a,.int b]=some (.int (if a<=b then b else a),[]):=by
   unfold OY;rw[cJ];unfold EV;by_cases h:a<b
   ·have h' : a <= b := by lia
    simp[cF,h,h']
   ·by_cases h2:a=b
    ·subst h2
     simp[cF]
    ·have h' : ¬ a <= b := by lia
     simp[cF,h,h']
  exact⟨.int (if a<=b then b else a),by simp[cF,V4,bD,bM,WB,e,cX.hard],.inr ⟨_,rfl,by split<;>lia,by split<;>lia⟩⟩
 ·have e:OX [.int a,.int b]=some (.int (if a<b then 1 else 0),[]):=by unfold OX;rw[cJ];unfold EU;by_cases h:a<b<;>simp[cF,h]
  exact⟨.int (if a<b then 1 else 0),by simp[cF,V4,bD,bM,WB,e,cX.hard],.inr ⟨_,rfl,by split<;>lia,by split<;>lia⟩⟩
theorem BN{c a b:Int}(d:Wd a)(hb:Wd b):∃w,Wd w/\V1 [.str "pick",.lst [.int c,.int a,.int b]]=some (.int w,[]):=by
 have e:OZ [.int c,.int a,.int b]=some (.int (if c=0 then b else a),[]):=by unfold OZ;rw[cJ];unfold EX;by_cases h:c=0<;>simp[cF,h]
 refine⟨if c=0 then b else a,by split<;>assumption,?_⟩;unfold V1;rw[cJ];unfold JF;simp[cF,e,cX.hard]
noncomputable def AU:cX->Nat
 |.tup (.str x::_)=>if x= "number" ∨x= "load" then 0 else if x= "store" then 1 else if x= "pick" then 3 else 2
 |_=>0
theorem lG{a:List Int}{i:Int}{w:Int}(b:0<=i)(h1:i<a.length)(hc:∀c∈a,Wd c)(hw:Wd w):K4 a.length i=some i.toNat/\(a.map cX.int).set i.toNat (.int w)=(a.set i.toNat w).map cX.int/\∀c∈a.set i.toNat w,Wd c:=by
 refine⟨by unfold K4;rw[if_pos b,if_pos h1],by rw[Pj],λc h=>?_⟩;rcases Hg h with z|z
 ·exact hc c z
 ·rw[z];exact hw
@[simp] theorem uW{p:Int}{t:List cX}:b5 [.tup (.str "load":: .int p::t)]=some (.int p,[]):=by unfold b5;rw[cJ];unfold ZN;simp[cF,ZA,bI]
@[simp] theorem rL{p:Int}{t:List cX}:b5 [.tup (.str "take":: .int p::t)]=some (.int p,[]):=by unfold b5;rw[cJ];unfold ZN;simp[cF,ZA,bI]
@[simp] theorem v9{p:Int}{t:List cX}:b5 [.tup (.str "store":: .int p::t)]=some (.int p,[]):=by unfold b5;rw[cJ];unfold ZN;simp[cF,ZA,bI]
@[simp] theorem sM{p:Int}{t:List cX}:b5 [.tup (.str "put":: .int p::t)]=some (.int p,[]):=by unfold b5;rw[cJ];unfold ZN;simp[cF,ZA,bI]
@[simp] theorem sL{t:List cX}:b5 [.tup (.str "pick"::t)]=some (.non,[]):=by unfold b5;rw[cJ];unfold ZN;simp[cF,ZA,bI]
theorem KQ{x:String}(b:x∈["over","plus","minus","times","least","most","less"]){y:String}(a:(["over","plus","minus","times","least","most","less"].contains y)=false):(¬x=y)/\¬y=x:=by
 have h:¬x=y:=λe=>by subst e;rw[List.contains_iff_mem.mpr b] at a;cases a
 exact⟨h,λe=>h e.symm⟩
theorem gC{x:String}(a:x∈["over","plus","minus","times","least","most","less"]){t:List cX}:b5 [.tup (.str x::t)]=some (.non,[]):=by unfold b5;rw[cJ];unfold ZN;have e:=(KQ a (y:= "load") (by decide)).2;have d:=(KQ a (y:= "take") (by decide)).2;have c:=(KQ a (y:= "store") (by decide)).2;have b:=(KQ a (y:= "put") (by decide)).2;simp[cF,ZA,bI,e,d,c,b]
@[simp] theorem tF{d:cX}:Y9 [.str "load",d]=some (.bl true,[]):=by kernel_rfl
@[simp] theorem tY{d:cX}:Y9 [.str "store",d]=some (.bl true,[]):=by kernel_rfl
@[simp] theorem vJ{a:Int}{ds:List cX}:Y9 [.str "take",.lst (.int a::ds)]=some (.bl (!decide (a=0)),[]):=by unfold Y9;rw[cJ];unfold SW;simp[cF]
@[simp] theorem ub{a b:Int}{ds:List cX}:Y9 [.str "put",.lst (.int a:: .int b::ds)]=some (.bl (!decide (b=0)),[]):=by unfold Y9;rw[cJ];unfold SW;simp[cF]
theorem XF{x:String}{p a:Int}{t ws d:List cX}{r:cX×List cX}{c:cX}(b:x= "load" ∨x= "take" ∨x= "store" ∨x= "put")(h:bK [.str x,.int (p+a),.lst ws,.lst d]=some (r.1,[c])):ZI [.tup (.str x:: .int p::t),.lst ws,.lst d,.int a]=some (r.1,[c]):=by
 have e:b5 [.tup (.str x:: .int p::t)]=some (.int p,[]):=by rcases b with rfl|rfl|rfl|rfl<;>simp
 have f:¬x= "number":=by rcases b with rfl|rfl|rfl|rfl<;>decide
 unfold ZI;rw[cJ];unfold VO;simp[cF,h,e,f]
theorem iQ{n:Int}{b:Int}{ds:List cX}{a:List cX}:ZI [.tup [.str "number",.int n],.lst ds,.lst a,.int b]=some (.tup [.int n,.non],[.lst a]):=by kernel_rfl
theorem U3{M:Int->Prop}{d:cX}(h:aB M d):∃as:List Int,(∀a∈as,M a)/\as.length=AU d/\bA [d]=some (.lst (as.map .int),[])/\Z1 [d]=some (.lst (as.map .int),[]):=by
 cases h with
 | @number n _ _=>
  refine⟨[],(λ_ h=>nomatch h),by kernel_rfl,?_,?_⟩
  ·kernel_rfl
  ·kernel_rfl
 | @two x a b f e hb=>
  refine⟨[a,b],by simp[e,hb],?_,?_,?_⟩
  ·simp only[Ai,Ax,or_false] at f
   rcases f with rfl|rfl|rfl|rfl|rfl|rfl|rfl<;>kernel_rfl
  ·simp only[Ai,Ax,or_false] at f
   rcases f with rfl|rfl|rfl|rfl|rfl|rfl|rfl<;>kernel_rfl
  ·simp only[Ai,Ax,or_false] at f
   rcases f with rfl|rfl|rfl|rfl|rfl|rfl|rfl<;>kernel_rfl
 | @pick c a b hc e hb=>
  refine⟨[c,a,b],by simp[hc,e,hb],by kernel_rfl,?_,?_⟩
  ·kernel_rfl
  ·kernel_rfl
 | @load p _ _=>
  refine⟨[],(λ_ h=>nomatch h),by kernel_rfl,?_,?_⟩
  ·kernel_rfl
  ·kernel_rfl
 | @take p c a _ _ hc e=>
  refine⟨[c,a],by simp[hc,e],by kernel_rfl,?_,?_⟩
  ·kernel_rfl
  ·kernel_rfl
 | @store p a _ _ e=>
  refine⟨[a],by simp[e],by kernel_rfl,?_,?_⟩
  ·kernel_rfl
  ·kernel_rfl
 | @put p a c _ _ e hc=>
  refine⟨[a,c],by simp[e,hc],by kernel_rfl,?_,?_⟩
  ·kernel_rfl
  ·kernel_rfl
inductive VA
 |val (w:Int)
 |rd (p:Int)
 |nop
 |wr (p u:Int)
 |bad
def VA.go:VA->List Int->Option (cX×List Int)
 |.val w,a=>some (.int w,a)
 |.rd p,a=>(a[p.toNat]?).map λw=>(.int w,a)
 |.nop,a=>some (.non,a)
 |.wr p u,a=>if p.toNat<a.length then some (.non,a.set p.toNat u) else none
 |.bad,_=>none
def VA.why:VA->String
 |.bad=> "nought"
 |_=> "beyond"
noncomputable def Q8(x:Ti)(p:Int)(zs:List Int):VA:=
 if x=Am "number" then .val p else if x=Am "load" then .rd p
 else if x=Am "take" then(if zs.getD 0 0=0 then .val (zs.getD 1 0) else .rd p)
 else if x=Am "store" then .wr p (zs.getD 0 0)
 else if x=Am "put" then(if zs.getD 1 0=0 then .nop else .wr p (zs.getD 0 0))
 else match V1 [.str x,.lst (zs.map .int)] with
  |some (.int w,_)=>.val w
  |_=>.bad
noncomputable def EF:cX->List Int->VA
 |.tup (.str x:: .int p::_),zs=>Q8 x p zs
 |_,_=>.bad
theorem F2{a b:String}(h:¬a=b):¬Am a=Am b:=by rw[bM];exact h
theorem KC{x:String}{p:Int}{t:List cX}{zs:List Int}(e:¬x= "number")(d:¬x= "load")(c:¬x= "take")(b:¬x= "store")(a:¬x= "put"):EF (.tup (.str x:: .int p::t)) zs=match V1 [.str x,.lst (zs.map .int)] with|some (.int w,_)=>.val w|_=>.bad:=by show Q8 _ _ _=_;unfold Q8;rw[if_neg (F2 e),if_neg (F2 d),if_neg (F2 c),if_neg (F2 b),if_neg (F2 a)]
def J8(a:cX)(zs c:List Int)(m y:cX)(b:List Int):Prop:=ZI [a,.lst (zs.map .int),.lst (c.map .int),.int 0]=some (.tup [m,y],[.lst (b.map .int)])
def DoA(a:cX)(zs:List Int)(A:VA):Prop:=∀b:List Int,(∀c∈b,Wd c)->match A.go b with
 |some (m,cs1)=>J8 a zs b m .non cs1
 |none=>J8 a zs b .non (.str A.why) b
def F3(x:String)(p:Int)(zs:List Int):VA->Prop
 |.val w=>Wd w/\¬x= "store" /\¬x= "put"
 |.rd q=>q=p/\0<=p/\(x= "load" ∨x= "take")
 |.nop=>x= "put"
 |.wr q u=>q=p/\0<=p/\Wd u/\(x= "store" ∨x= "put")
 |.bad=>x= "over" /\∃u,zs=[u,0]
theorem oN{a:List Int}{p:Int}(b:0<=p)(h1:p<a.length)(hc:∀c∈a,Wd c):∃w,Wd w/\a[p.toNat]?=some w/\WU (a.map cX.int) p=some (.int w):=by
 have hi:p.toNat<a.length:=by lia
 refine⟨a[p.toNat],hc _ (Hh hi),Bf hi,?_⟩;rw[Y0 b (by simpa using h1),Cb,Bf hi];rfl
theorem Xj{b:cX}{zs a:List Int}{p:Int}(d:∀c∈a,Wd c)(f:0<=p)(h1:(a.length:Int)<=p->J8 b zs a .non (.str "beyond") a)(h2:∀w,WU (a.map cX.int) p=some (.int w)->¬(a.length:Int)<=p->J8 b zs a (.int w) .non a):match(VA.rd p).go a with
 |some (m,cs1)=>J8 b zs a m .non cs1
 |none=>J8 b zs a .non (.str (VA.rd p).why) a:=by
 by_cases hb:(a.length:Int)<=p
 ·have e:(VA.rd p).go a=none:=by show(a[p.toNat]?).map _=_;rw[Bq (by lia)];rfl
  rw[e];exact h1 hb
 ·obtain ⟨w,_,h,e⟩ := oN f (by lia) d
  have g:(VA.rd p).go a=some (.int w,a):=by show(a[p.toNat]?).map _=_;rw[h];rfl
  rw[g];exact h2 w e hb
theorem Vc{b:cX}{zs a:List Int}{p u:Int}(d:∀c∈a,Wd c)(f:0<=p)(g:Wd u)(h1:(a.length:Int)<=p->J8 b zs a .non (.str "beyond") a)(h2:K4 a.length p=some p.toNat->¬(a.length:Int)<=p->J8 b zs a .non .non (a.set p.toNat u)):match(VA.wr p u).go a with
 |some (m,cs1)=>J8 b zs a m .non cs1
 |none=>J8 b zs a .non (.str (VA.wr p u).why) a:=by
 by_cases hb:(a.length:Int)<=p
 ·have e : (VA.wr p u).go a = none := if_neg (by lia)
  rw[e];exact h1 hb
 ·have e : (VA.wr p u).go a = some (.non,a.set p.toNat u) := if_pos (by lia)
  rw[e];exact h2 (lG f (by lia) d g).1 hb
theorem HW{M:Int->Prop}{j:cX}(h:aB M j)(zs:List Int)(i:zs.length=AU j)(f:∀w∈zs,Wd w):∃(x:String) (p:Int) (t:List cX),j=.tup (.str x:: .int p::t)/\F3 x p zs (EF j zs)/\DoA j zs (EF j zs):=by
 unfold DoA;cases h with
 | @number n I H=>
  have hc:AU (.tup [.str "number",.int n])=0:=by kernel_rfl
  rw[hc] at i;match zs,i with
  |[],_=>
   have d:EF (.tup [.str "number",.int n]) []=.val n:=by show Q8 _ _ _=_;unfold Q8;rw[if_pos rfl]
   refine⟨"number",n,[],rfl,?_⟩;rw[d];exact⟨⟨⟨I,H⟩,by decide,by decide⟩,λo _=>iQ⟩
 | @two x a b m _ _=>
  have hc:AU (.tup [.str x,.int a,.int b])=2:=by simp only[Ai,Ax,or_false] at m;rcases m with rfl|rfl|rfl|rfl|rfl|rfl|rfl<;>kernel_rfl
  rw[hc] at i;match zs,i with
  |[u,v],_=>
   obtain⟨r,q,J⟩:=AZ m (f u (by simp)) (f v (by simp));have E:=gC m (t:=[.int a,.int b]);have D:=(KQ m (y:= "number") (by decide)).1;have G:=(KQ m (y:= "load") (by decide)).1;have F:=(KQ m (y:= "take") (by decide)).1;have C:=(KQ m (y:= "store") (by decide)).1;have B:=(KQ m (y:= "put") (by decide)).1;have d:=KC (p:=a) (t:=[.int b]) (zs:=[u,v]) D G F C B;simp only[Bg,Dw] at d;rw[q] at d;refine⟨x,a,[.int b],rfl,?_⟩;rw[d];rcases J with⟨rfl,rfl,rfl⟩|⟨w,rfl,hw⟩
   ·refine ⟨⟨rfl,u,rfl⟩,λo _ => ?_⟩
    show J8 _ _ _ _ _ _;unfold J8 ZI;rw[cJ];unfold VO;simp[cF,E,q,VA.why]
   ·refine ⟨⟨hw,C,B⟩,λo _ => ?_⟩
    show J8 _ _ _ _ _ _;unfold J8 ZI;rw[cJ];unfold VO;simp[cF,E,q,D]
 | @pick c a b _ _ _=>
  have hc:AU (.tup [.str "pick",.int c,.int a,.int b])=3:=by kernel_rfl
  rw[hc] at i;match zs,i with
  |[u,v,z],_=>
   obtain⟨w,h1,q⟩:=BN (c:=u) (f v (by simp)) (f z (by simp));have d:=KC (x:= "pick") (p:=c) (t:=[.int a,.int b]) (zs:=[u,v,z]) (by decide) (by decide) (by decide) (by decide) (by decide);simp only[Bg,Dw] at d;rw[q] at d;refine⟨"pick",c,[.int a,.int b],rfl,?_⟩;rw[d];refine⟨⟨h1,by decide,by decide⟩,λo _=>?_⟩;show J8 _ _ _ _ _ _;unfold J8 ZI;rw[cJ];unfold VO;simp[cF,q]
 | @load p k A=>
  have hc:AU (.tup [.str "load",.int p])=0:=by kernel_rfl
  rw[hc] at i;match zs,i with
  |[],_=>
   have d:EF (.tup [.str "load",.int p]) []=.rd p:=by show Q8 _ _ _=_;unfold Q8;rw[if_neg (F2 (by decide)),if_pos rfl]
   refine⟨"load",p,[],rfl,?_⟩;rw[d];exact⟨⟨rfl,k,.inl rfl⟩,λo g=>Xj g k (λe=>by
    refine XF (r:=(_,[])) (by simp) ?_;unfold bK;rw[cJ];unfold aW;simp[cF,e]) λw e h=>by
    refine XF (r:=(_,[])) (by simp) ?_;unfold bK;rw[cJ];unfold aW;simp[cF,h,e,bI]⟩
 | @take p c a k A _ _=>
  have hc:AU (.tup [.str "take",.int p,.int c,.int a])=2:=by kernel_rfl
  rw[hc] at i;match zs,i with
  |[u,v],_=>
   have d:EF (.tup [.str "take",.int p,.int c,.int a]) [u,v]=if u=0 then .val v else .rd p:=by show Q8 _ _ _=_;unfold Q8;rw[if_neg (F2 (by decide)),if_neg (F2 (by decide)),if_pos rfl];rfl
   refine⟨"take",p,[.int c,.int a],rfl,?_⟩;rw[d];by_cases l:u=0
   ·subst l
    rw[if_pos rfl];refine⟨⟨f v (by simp),by decide,by decide⟩,λo _=>?_⟩;refine XF (r:=(_,[])) (by simp) ?_;unfold bK;rw[cJ];unfold aW;simp[cF]
   ·rw[if_neg l]
    exact⟨⟨rfl,k,.inr rfl⟩,λo g=>Xj g k (λe=>by
     refine XF (r:=(_,[])) (by simp) ?_;unfold bK;rw[cJ];unfold aW;simp[cF,l,e]) λw e h=>by
     refine XF (r:=(_,[])) (by simp) ?_;unfold bK;rw[cJ];unfold aW;simp[cF,l,h,e,bI]⟩
 | @store p a k A _=>
  have hc:AU (.tup [.str "store",.int p,.int a])=1:=by kernel_rfl
  rw[hc] at i;match zs,i with
  |[u],_=>
   have l:=f u (by simp);have d:EF (.tup [.str "store",.int p,.int a]) [u]=.wr p u:=by show Q8 _ _ _=_;unfold Q8;rw[if_neg (F2 (by decide)),if_neg (F2 (by decide)),if_neg (F2 (by decide)),if_pos rfl];rfl
   refine⟨"store",p,[.int a],rfl,?_⟩;rw[d];exact⟨⟨rfl,k,l,.inl rfl⟩,λo g=>Vc g k l (λe=>by
    refine XF (r:=(_,[])) (by simp) ?_;unfold bK;rw[cJ];unfold aW;simp[cF,e]) λe h=>by
    refine XF (r:=(_,[])) (by simp) ?_;unfold bK;rw[cJ];unfold aW;simp[cF,h,e,Pj,bI]⟩
 | @put p a c k A _ _=>
  have hc:AU (.tup [.str "put",.int p,.int a,.int c])=2:=by kernel_rfl
  rw[hc] at i;match zs,i with
  |[u,v],_=>
   have l:=f u (by simp);have d:EF (.tup [.str "put",.int p,.int a,.int c]) [u,v]=if v=0 then .nop else .wr p u:=by show Q8 _ _ _=_;unfold Q8;rw[if_neg (F2 (by decide)),if_neg (F2 (by decide)),if_neg (F2 (by decide)),if_neg (F2 (by decide)),if_pos rfl];rfl
   refine⟨"put",p,[.int a,.int c],rfl,?_⟩;rw[d];by_cases s:v=0
   ·subst s
    rw[if_pos rfl];refine⟨rfl,λo _=>?_⟩;refine XF (r:=(_,[])) (by simp) ?_;unfold bK;rw[cJ];unfold aW;simp[cF]
   ·rw[if_neg s]
    exact⟨⟨rfl,k,l,.inr rfl⟩,λo g=>Vc g k l (λe=>by
     refine XF (r:=(_,[])) (by simp) ?_;unfold bK;rw[cJ];unfold aW;simp[cF,s,e]) λe h=>by
     refine XF (r:=(_,[])) (by simp) ?_;unfold bK;rw[cJ];unfold aW;simp[cF,s,h,e,Pj,bI]⟩
theorem HL(k:Nat):(aG 0 k).length=k:=by simp[aG]
theorem dP{a:List Int}{sure:Int}(d:∀c∈a,Wd c)(h1:sure<=a.length)(h2:a.length<=64):XH [.lst (a.map .int),.int sure]=some (.bl true,[]):=by
 have e:=VJ 0 (cL 3 [] aR (aE (fV 0) (aE (fC (.int 0)) (aE (fC aQ) bY)))) [] (λ_=>.bl true) rfl (a.map .int) [] (λx f=>by obtain⟨w,b,rfl⟩:=Be.mp f;have:=d w b;simp[aQ,this.1,this.2]) (by simp;lia)
 have g:(a.length:Int)<=64:=by lia
 unfold XH;rw[cJ];unfold RE;simp only[Dc] at e;simp[cF,UT,h1,g,a9,e]
theorem eD(ns:List Int)(n:Nat)(sure:Int)(hl:ns.length<=63)(A:n<10000)(B:0<=sure)(h1:sure<=64):∃(e:List Int) (g:Nat),(∀c∈e,Wd c)/\sure<=e.length/\e.length<=64/\g<=n+67/\YA [XM ns,X7 n,.int sure]=some (.lst (e.map .int),[X7 g]):=by
 have t:=X0 ns n 9 hl (by lia) (by decide);have w:=QK ns n (b:=9) (by decide);obtain⟨y,j,s⟩:=WZ ns (n+1) [.int sure,.int (if sure+MK ns n 9<64 then sure+MK ns n 9 else 64),.int 64] hl (by lia) (by simp);obtain⟨m,rfl,v,u⟩:∃m:Int,y=.int m/\sure<=m/\m<=64:=by
  simp only[Ai,Ax,or_false] at j;rcases j with h|h|h
  ·exact⟨_,h,by lia,by lia⟩
  ·exact⟨_,h,by split<;>lia,by split<;>lia⟩
  ·exact⟨_,h,by lia,by lia⟩
 obtain⟨z,i,r⟩:=WZ ns (n+2) [.int 2,.int 4,.int 1000] hl (by lia) (by simp);obtain⟨b,rfl,k,C⟩:∃b:Int,z=.int b/\0<b/\b<=1000:=by simp only[Ai,Ax,or_false] at i;rcases i with h|h|h<;>exact⟨_,h,by lia,by lia⟩
 have a:=HL m.toNat;obtain⟨ws,o,l,f⟩:=KO ns b hl k (cL 3 [1] bX (aE (fV 0) (aO 1 (aE (fV 2) bY)))) .no [.va (.int b)] 3 rfl (λq d x=>by simp[X0 ns q b hl (by lia) k]) (aG 0 m.toNat) (n+3) [] (by rw[a];lia) (by rw[a];simp;lia);simp only[Dc,a,Er] at f;rw[a] at o;have p:(-4611686018427387904:Int)<=m/\m<4611686018427387904:=by lia
 refine⟨ws,n+3+m.toNat,λc hc=>?_,by lia,by lia,by lia,?_⟩
 ·have:=l c hc
  exact⟨by lia,by lia⟩
 ·unfold YA
  rw[cJ];unfold T0;simp[cF,t,s,r,p,a9,f]
theorem GS:∀(ks:List Z7) (ws:List cX) (i:Nat) (k:Z7),ks.Nodup->ks.length=ws.length->ks[i]?=some k->bD ks ws k=ws[i]?
 |[],_,i,k,_,_,e=>by simp at e
 |k'::ks,[],i,k,_,hl,_=>by simp at hl
 |k'::ks,w::ws,0,k,_,_,e=>by simp at e;simp[bD,e]
 |k'::ks,w::ws,i+1,k,b,hl,e=>by
  have c:ks[i]?=some k:=by simpa using e
  have a:¬k'=k:=λz=>(Cw.mp b).1 (by rw[z];exact Bv c);have:=GS ks ws i k (Cw.mp b).2 (by simpa using hl) c;simp[bD,a,this]
structure Ws(kds:List Kd)(ws:List cX):Prop where
 len:ws.length=kds.length
 wd:∀a,Nm kds .w a->∃x,Wd x/\WU ws a=some (.int x)
theorem Ws.nil:Ws [] []:=⟨rfl,λa h=>by have:=h.2;simp at this⟩
theorem Ws.snoc{kds:List Kd}{ws:List cX}{k:Kd}{m:cX}(W:Ws kds ws)(h:k=.w->∃x,Wd x/\m=.int x):Ws (kds++[k]) (ws++[m]):=by
 refine⟨by simp[W.len],λa c=>?_⟩;have g:=c.1;have f:=c.lt;have hl:=W.len;rw[Cf,Ex] at f;rw[Y0 g (by simp;lia)];by_cases hi:a.toNat<kds.length
 ·obtain ⟨x,d,e⟩ := W.wd a ⟨g,by have := c.2;rwa [Af hi] at this⟩
  rw[Y0 g (by lia)] at e;exact⟨x,d,by rw[Af (by lia)];exact e⟩
 ·have b : a.toNat = kds.length := by lia
  have e:=c.2;rw[b] at e;simp at e;obtain⟨x,d,rfl⟩:=h e;exact⟨x,d,by rw[b,<-hl];simp⟩
noncomputable def wv(b:List cX)(a:Int):Int:=match WU b a with
 |some (.int x)=>x
 |_=>0
theorem Ws.word{kds:List Kd}{ws:List cX}{a:Int}(W:Ws kds ws)(h:Nm kds .w a):WU ws a=some (.int (wv ws a))/\Wd (wv ws a):=by obtain⟨x,b,e⟩:=W.wd a h;unfold wv;rw[e];exact⟨rfl,b⟩
noncomputable def fW(b:List cX):cX->cX
 |.int a=>.int (wv b a)
 |_=>.non
theorem lT(a:List cX)(as:List Int):(as.map cX.int).map (fW a)=(as.map (wv a)).map cX.int:=by simp[fW]
theorem nP(a:cX):AU a<=3:=by
 unfold AU;split
 ·split
  ·lia
  ·split
   ·lia
   ·split<;>lia
 ·lia
theorem F1{as:List Int}{d:cX}{ws:List cX}(c:as.length<=3)(h:∀a∈as,cB d (.int a)=some (.int (wv ws a))):ZT 1 1 (gN 1) W2 (f2 cB (fO 0) (fV 1)) (as.map .int) [] [.ow d]=some ((as.map (wv ws)).map .int,[.ow d]):=by
 rw[VJ 1 _ [.ow d] (fW ws) rfl _ [] (λe b=>?_) (by simp;lia),lT]
 ·rfl
 ·obtain⟨a,f,rfl⟩:=Be.mp b
  simp[h a f,fW]
inductive Bl:List Kd->List cX->List Kd->Prop
 |nil {kds:List Kd}:Bl kds [] kds
 |cons {kds ao:List Kd} {row:cX} {rows:List cX}:aB (Nm kds .w) row->Bl (kds++[Q7 .w row]) rows ao->Bl kds (row::rows) ao
theorem Bl.snoc{kds c:List Kd}{rows:List cX}{b:cX}(h:Bl kds rows c)(r:aB (Nm c .w) b):Bl kds (rows++[b]) (c++[Q7 .w b]):=by
 induction h with
 |nil=>exact .cons r .nil
 |cons a _ d=>exact .cons a (d r)
theorem Bl.len{kds a:List Kd}{rows:List cX}(h:Bl kds rows a):a.length=kds.length+rows.length:=by
 induction h with
 |nil=>simp
 |cons _ _ b=>simp only[b,Cf,Bu,Gr];lia
theorem Bl.all{kds e:List Kd}{rows:List cX}(h:Bl kds rows e):∀d∈rows,aB (Nm e .w) d:=by
 induction h with
 |nil=>intro d b;cases b
 | @cons kds e g rows a t c=>
  intro d b;rcases Ai.mp b with rfl|b
  ·refine a.imp λx i => ?_
   have:∀{k k':List Kd} {f:List cX},Bl k f k'->Nm k .w x->Nm k' .w x:=by
    intro k k' f h;induction h with
    |nil=>exact id
    |cons _ _ c=>exact λz=>c z.snoc
   exact this t i.snoc
  ·exact c d b
theorem PM:∀ns:List Int,UR (ns.map .int)=some ns
 |[]=>rfl
 |i::ns=>by show(UR (ns.map .int)).map (λns=>i::ns)=_;rw[PM ns];rfl
theorem DB{n:Int}:∀{ns:List Int},n∈ns->∃j:Nat,U6 n ns=some j/\j<ns.length
 | i :: ns,h => by
  unfold U6;by_cases e:i=n
  ·rw[if_pos e];exact⟨0,rfl,by simp⟩
  ·rw[if_neg e]
   obtain⟨j,h1,h2⟩:=DB (ns:=ns) (by
    rcases Ai.mp h with z|z
    ·exact absurd z.symm e
    ·exact z)
   exact⟨j+1,by rw[h1];rfl,by simp;lia⟩
noncomputable def nst(ns:List Int)(n:Nat)(rows:List cX)(made:List Int)(sn:cX)(d:Int)(last:cX)(c:Int)(bs:List Int)(b a:Sl):Ev:=
 [.va (XM ns),.ow (X7 n),.va (.lst rows),.va (.lst (made.map .int)),.ow sn,.va (.int d),.va last,.va (.int c),.ow (.lst (bs.map .int)),b,a]
theorem Ze(ns:List Int)(n:Nat)(rows:List cX)(made:List Int)(sn:cX)(i:Int)(last:cX)(h:Int)(bs:List Int)(a:Int)(d:Sl)(hl:ns.length<=63)(s:n<700000)(e:a∈made)(hb:bs.length<100):∃b∈made,∃r,YS (nst ns n rows made sn i last h bs (.va (.int a)) d)=some (.nx (nst ns (n+1) rows made sn i last h (bs++[b]) (.va (.int a)) r)):=by
 obtain⟨j,m,l⟩:=DB e;obtain⟨x,g,ex⟩:=WZ ns n [.int 1,.int 1,.int 1,.int 1,.int (-1),.int 0,.int 2] hl (by lia) (by simp);obtain⟨p,rfl⟩:∃p,x=.int p:=by simp only[Ai,Ax,or_false] at g;rcases g with rfl|rfl|rfl|rfl|rfl|rfl|rfl<;>exact⟨_,rfl⟩
 have hi:E4 (.lst (made.map .int)) (.int a)=some (.int j):=by show(UR (made.map .int)).bind (λns=>(U6 a ns).map λj=>cX.int j)=_;rw[PM,Aw,m];rfl
 have c:bs.length<16777216:=by lia
 by_cases h1:0<=(j:Int)+p/\(j:Int)+p<made.length
 ·obtain⟨q,k,eq⟩:=NY (ns:=made) h1.1 h1.2
  by_cases h2:q=(rows.length:Int) - 1
  ·refine⟨a,e,.va (.int (j+p)),?_⟩
   unfold YS;simp[nst,hi,ex,h1.1,h1.2,eq,h2,c]
  ·refine⟨q,k,.va (.int (j+p)),?_⟩
   unfold YS;simp[nst,hi,ex,h1.1,h1.2,eq,h2,c]
 ·refine⟨a,e,.va (.int (j+p)),?_⟩
  unfold YS;by_cases f:0<=(j:Int)+p
  ·have o : ¬ (j : Int) + p < made.length := λz => h1 ⟨f,z⟩
   simp[nst,hi,ex,f,o,c]
  ·simp[nst,hi,ex,f,c]
theorem E3(ns:List Int)(rows:List cX)(made:List Int)(sn:cX)(h:Int)(last:cX)(g:Int)(hl:ns.length<=63):∀(as:List Int) (n:Nat) (bs:List Int) (i d:Sl),n+as.length<700000->(∀a∈as,a∈made)->bs.length+as.length<100->∃j:List Int,(∀c∈j,c∈made)/\j.length=as.length/\∃f m,WY (gN 9) YS (as.map .int) (nst ns n rows made sn h last g bs i d)=some (.nx (nst ns (n+as.length) rows made sn h last g (bs++j) f m))
 |[],n,bs,i,d,_,_,_=>⟨[],by simp,rfl,i,d,by simp⟩
 | a :: as,n,bs,i,d,r,o,hb => by
  simp only[Bu] at r hb;obtain⟨b,l,k,e⟩:=Ze ns n rows made sn h last g bs a d hl (by lia) (o a Ap) (by lia);obtain⟨j,h1,h2,f,m,p⟩:=E3 ns rows made sn h last g hl as (n+1) (bs++[b]) (.va (.int a)) k (by lia) (λx q=>o x (Ao _ q)) (by simp;lia);refine⟨b::j,λc hc=>?_,by simp[h2],f,m,?_⟩
  ·rcases Ai.mp hc with rfl|hc
   ·exact l
   ·exact h1 c hc
  rw[Bg,RB,GK,NC,show(nst ns n rows made sn h last g bs i d).set 9 (.va (.int a))=nst ns n rows made sn h last g bs (.va (.int a)) d from rfl,e,ND,p];simp[Jg,Pg 1]
theorem cel4{x:String}(h:OQ x):(decide ("load"=x) || (decide ("take"=x) || (decide ("store"=x) || decide ("put"=x))))=true:=by
 rcases h with rfl|rfl|rfl|rfl<;>decide
theorem snM{m k:Nat}{d:cX}(h:Sn m d)(a:m<=k):Sn k d:=by obtain⟨ks,vs,e,h1,h2,b⟩:=h;exact⟨ks,vs,e,h1,h2,by lia⟩
theorem N0(ns:List Int)(n:Nat)(rows:List cX)(made:List Int)(sn:cX)(d:Int){x:String}{p:Int}{as:List Int}{m:Nat}(hl:ns.length<=63)(E:n<600000)(F:m<8000000)(hs:Sn m sn)(o:0<d)(u:OQ x)(B:WU rows (-1)=some (.tup (.str x:: .int p::as.map .int)))(w:∀a∈as,a∈made)(I:as.length<=3):∃(q:Int) (b:List Int) (g:cX),0<=q/\q<d/\(∀c∈b,c∈made)/\b.length=as.length/\Sn (m+1) g/\ZE [XM ns,X7 n,.lst rows,.lst (made.map .int),sn,.int d]=some (.tup (.str x:: .int q::b.map .int),[X7 (n+as.length),g]):=by
 obtain⟨b,h1,h2,C,r,e⟩:=E3 ns rows made sn d (.tup (.str x:: .int p::as.map .int)) 2 hl as n [] .no .no (by lia) w (by simp;lia);simp only[nst,Dc,Dw] at e;obtain⟨ks,vs,rfl,s,l,D⟩:=hs;obtain⟨h,f,pe,A,z,H,G,y⟩:=putI ks vs (.inr (x:Ti)) ((p+1) % d) s l;have v:ks.length<16777216:=by lia
 refine⟨(p+1) % d,b,.dct h (f.map .int),Ia _ (by lia),Fe _ o,h1,h2,⟨h,f,rfl,A,z,by lia⟩,?_⟩;unfold ZE;rw[cJ,UY.eq_1];have i:=cel4 u;have t:VL (.str x:: .int p::as.map cX.int) (some 2) none=as.map cX.int:=by have:=SQ (ds:=.str x:: .int p::as.map cX.int) (k:=2) (by simp);simpa using this
 have j:2+b.length<=16777216:=by lia
 simp[cF,B,i,t,e,o,v,l,pe,y,j]
theorem off4{x:String}(h:¬OQ x):(¬x= "load" /\¬ "load"=x)/\(¬x= "take" /\¬ "take"=x)/\(¬x= "store" /\¬ "store"=x)/\¬x= "put" /\¬ "put"=x:=by refine⟨⟨λz=>h (.inl z),λz=>h (.inl z.symm)⟩,⟨λz=>h (.inr (.inl z)),λz=>h (.inr (.inl z.symm))⟩,⟨λz=>h (.inr (.inr (.inl z))),λz=>h (.inr (.inr (.inl z.symm)))⟩,λz=>h (.inr (.inr (.inr z))),λz=>h (.inr (.inr (.inr z.symm)))⟩
theorem G2(ns:List Int)(n:Nat)(rows:List cX)(made:List Int)(sn:cX)(f:Int){x:String}{as:List Int}(hl:ns.length<=63)(t:n<600000)(p:¬OQ x)(r:WU rows (-1)=some (.tup (.str x::as.map .int)))(q:∀a∈as,a∈made)(u:as.length<=3):∃b:List Int,(∀c∈b,c∈made)/\b.length=as.length/\ZE [XM ns,X7 n,.lst rows,.lst (made.map .int),sn,.int f]=some (.tup (.str x::b.map .int),[X7 (n+as.length),sn]):=by
 obtain⟨b,h1,h2,s,l,e⟩:=E3 ns rows made sn f (.tup (.str x::as.map .int)) 1 hl as n [] .no .no (by lia) q (by simp;lia);simp only[nst,Dc,Dw] at e;refine⟨b,h1,h2,?_⟩;unfold ZE;rw[cJ,UY.eq_1];obtain⟨⟨_,j⟩,⟨_,i⟩,⟨_,h⟩,_,g⟩:=off4 p;have o:VL (.str x::as.map cX.int) (some 1) none=as.map cX.int:=by have:=SQ (ds:=.str x::as.map cX.int) (k:=1) (by simp);simpa using this
 have m:VL (.str x::as.map cX.int) none (some 1)=[.str x]:=by have:=QJ (ds:=.str x::as.map cX.int) (k:=1);simpa using this
 have d:1+b.length<=16777216:=by lia
 simp[cF,r,j,i,h,g,o,m,e,d]
theorem fG(ns:List Int)(n:Nat)(rows:List cX)(made:List Int)(sn:cX)(l:Int){last:cX}{m:Nat}(hl:ns.length<=63)(o:n<600000)(u:m<8000000)(hs:Sn m sn)(t:0<l)(C:l<=64)(r:WU rows (-1)=some last)(ok:aB (· ∈made) last)(B:∀k,last≠ .tup [.str "number",.int k]):∃s y g,n<=y/\y<=n+3/\Sn (m+1) g/\aB (· ∈made) s/\ZE [XM ns,X7 n,.lst rows,.lst (made.map .int),sn,.int l]=some (s,[X7 y,g]):=by
 cases ok with
 |number=>exact absurd rfl (B _)
 | @two x a b A j hb=>
  obtain⟨i,h1,h2,e⟩:=G2 ns n rows made sn l (x:=x) (as:=[a,b]) hl o (D5 A) r (by simp[j,hb]) (by simp);match i,h2 with
  |[c,d],_=>exact⟨_,n+2,sn,by lia,by lia,snM hs (by lia),.two A (h1 c (by simp)) (h1 d (by simp)),e⟩
 | @pick c a b hc j hb=>
  obtain⟨i,h1,h2,e⟩:=G2 ns n rows made sn l (x:= "pick") (as:=[c,a,b]) hl o (λz=>by rcases z with z|z|z|z<;>exact absurd z (by decide)) r (by simp[j,hb,hc]) (by simp);match i,h2 with
  |[c,d,f],_=>exact⟨_,n+3,sn,by lia,by lia,snM hs (by lia),.pick (h1 c (by simp)) (h1 d (by simp)) (h1 f (by simp)),e⟩
 | @load p w v=>
  obtain⟨q,i,g,q0,q1,h1,h2,h,e⟩:=N0 ns n rows made sn l (x:= "load") (p:=p) (as:=[]) hl o u hs t (.inl rfl) r (by simp) (by simp);match i,h2 with
  |[],_=>exact⟨_,n+0,g,by lia,by lia,h,.load q0 (by lia),e⟩
 | @take p c a w v hc j=>
  obtain⟨q,i,g,q0,q1,h1,h2,h,e⟩:=N0 ns n rows made sn l (x:= "take") (p:=p) (as:=[c,a]) hl o u hs t (.inr (.inl rfl)) r (by simp[hc,j]) (by simp);match i,h2 with
  |[c,d],_=>exact⟨_,n+2,g,by lia,by lia,h,.take q0 (by lia) (h1 c (by simp)) (h1 d (by simp)),e⟩
 | @store p a w v j=>
  obtain⟨q,i,g,q0,q1,h1,h2,h,e⟩:=N0 ns n rows made sn l (x:= "store") (p:=p) (as:=[a]) hl o u hs t (.inr (.inr (.inl rfl))) r (by simp[j]) (by simp);match i,h2 with
  |[c],_=>exact⟨_,n+1,g,by lia,by lia,h,.store q0 (by lia) (h1 c (by simp)),e⟩
 | @put p a c w v j hc=>
  obtain⟨q,i,g,q0,q1,h1,h2,h,e⟩:=N0 ns n rows made sn l (x:= "put") (p:=p) (as:=[a,c]) hl o u hs t (.inr (.inr (.inr rfl))) r (by simp[j,hc]) (by simp);match i,h2 with
  |[c,d],_=>exact⟨_,n+2,g,by lia,by lia,h,.put q0 (by lia) (h1 c (by simp)) (h1 d (by simp)),e⟩
structure RI(rows:List cX)(made:List Int)(kds:List Kd):Prop where
 bl:Bl [] rows kds
 ex:∀a,a∈made↔Nm kds .w a
 ml:made.length<=rows.length
theorem RI.len{rows:List cX}{made:List Int}{kds:List Kd}(h:RI rows made kds):kds.length=rows.length:=by have:=h.bl.len;simpa using this
theorem Yo{kds:List Kd}{k:Kd}{a:Int}:Nm (kds++[k]) .w a↔Nm kds .w a∨(k=.w/\a=kds.length):=by
 constructor
 ·intro h
  have b:=h.1;have hl:=h.lt;rw[Cf,Ex] at hl;by_cases hi:a.toNat<kds.length
  ·exact .inl ⟨b,by have:=h.2;rwa[Af hi] at this⟩
  ·have hi : a.toNat = kds.length := by lia
   have e:=h.2;rw[hi] at e;simp at e;exact .inr ⟨e,by lia⟩
 ·rintro (h|⟨rfl,rfl⟩)
  ·exact h.snoc
  ·exact Nm.new
theorem RI.more{rows:List cX}{made:List Int}{kds:List Kd}{b:cX}(h:RI rows made kds)(r:aB (· ∈made) b):RI (rows++[b]) (if Q7 .w b=.w then made++[(rows.length:Int)] else made) (kds++[Q7 .w b]):=by
 refine⟨h.bl.snoc (r.imp λa c=>(h.ex a).mp c),λa=>?_,?_⟩
 ·rw[Yo,<- h.ex a,h.len]
  split
  ·rename_i e
   simp[e]
  ·rename_i e
   simp[e]
 ·have:=h.ml
  split<;>simp<;>lia
theorem RI.last{b:List cX}{last:cX}{made:List Int}{kds:List Kd}(h:RI (b++[last]) made kds):aB (· ∈made) last:=(h.bl.all last (by simp)).imp λa c=>(h.ex a).mpr c
noncomputable def OG(ns:List Int)(n:Nat)(a b:Int)(rows:List cX)(made:List Int)(sn:cX)(s7:Sl):Ev:=
 [.va (XM ns),.ow (X7 n),.va (.int a),.va (.int b),.ow (.lst rows),.ow (.lst (made.map .int)),.ow sn,s7]
theorem K0:∀vs:List Int,T6 (vs.map .int)=true
 |[]=>rfl
 |_::vs=>by show((cX.int _).hard&&T6 (vs.map .int))=true;rw[K0 vs];rfl
theorem DZ{m:Nat}{sn:cX}(h:Sn m sn):T8 sn=true:=by obtain⟨ks,vs,rfl,_⟩:=h;exact K0 vs
theorem C1{a:cX}(x:String)(t:List cX)(e:a=.tup (.str x::t)):Q7 .w a=.w↔ ¬(x= "store" ∨x= "put"):=by
 subst e;by_cases h:x= "store" ∨x= "put"
 ·rw[kM h];simp[h]
 ·have : x ∉ ["store","put"] := by simpa using h
  rw[iY this];simp[h]
theorem lP(ns:List Int)(n:Nat)(a v:Int){rows:List cX}{made:List Int}{kds:List Kd}{sn:cX}{m:Nat}(s7:Sl)(hl:ns.length<=63)(J:n<600000)(K:m<8000000)(hs:Sn m sn)(I:0<v)(A:v<=64)(R:RI rows made kds)(C:rows≠[])(N:rows.length<1000):∃s D L j b,RI s D L/\rows.length<=s.length/\((rows.length:Int)<=a->(s.length:Int)<=a)/\s.length<=rows.length+1/\n<=j/\j<=n+3/\Sn (m+1) b/\YT (OG ns n a v rows made sn s7)=some (.nx (OG ns j a v s D b s7)):=by
 obtain⟨i,last,rfl⟩:∃i last,rows=i++[last]:=⟨rows.dropLast,rows.getLast C,(List.dropLast_concat_getLast C).symm⟩;have ok:=R.last;have r:=QE i last;have B:made.length<16777216:=by have:=R.ml;lia
 have g:(i++[last]).length<16777216:=by lia
 generalize M:i++[last]=rows at*;obtain⟨x,t,q,_⟩:=Q1 ok;by_cases h1:(rows.length:Int)<a
 ·by_cases h2:x= "number"
  ·refine ⟨rows,made,kds,n,sn,R,Ak _,id,by lia,by lia,by lia,snM hs (by lia),?_⟩
   unfold YT;simp[OG,h1,r,q,h2]
  ·obtain ⟨w,j,b,H,G,l,d,e⟩ := fG ns n rows made sn v hl J K hs I A r ok (λk z => by rw [q] at z;simp [bM] at z;exact h2 z.1)
   obtain⟨y,u,p,_⟩:=Q1 d;have h:=QE rows w;refine⟨_,_,_,j,b,R.more d,by simp,by simp;lia,by simp,H,G,l,?_⟩;unfold YT;have key:=C1 y u p;have c:=d.hard;rw[p] at c;have f:=DZ l;by_cases o:y= "store" ∨y= "put"
   ·rw [if_neg (by rw [key];simp [o])]
    rcases o with rfl|rfl
    ·simp[OG,h1,r,q,h2,e,h,p,g,c,f]
    ·simp[OG,h1,r,q,h2,e,h,p,g,c,f]
   ·rw [if_pos (by rw [key];exact o)]
    have F:¬ "store"=y:=λz=>o (.inl z.symm);have E:¬ "put"=y:=λz=>o (.inr z.symm);simp[OG,h1,r,q,h2,e,h,p,g,c,f,F,E,B]
 ·refine ⟨rows,made,kds,n,sn,R,Ak _,id,by lia,by lia,by lia,snM hs (by lia),?_⟩
  unfold YT;simp[OG,h1]
theorem Wr(ns:List Int)(a c:Int)(hl:ns.length<=63)(q:0<c)(i:c<=64):∀(ds:List cX) (n:Nat) {rows:List cX} {made:List Int} {kds:List Kd} {sn:cX} {m:Nat} (s7:Sl),n+3*ds.length<600000->m+ds.length<8000000->Sn m sn->RI rows made kds->rows≠[]->rows.length+ds.length<1000->∃g j o h b f,RI g j o/\rows.length<=g.length/\((rows.length:Int)<=a->(g.length:Int)<=a)/\n<=h/\h<=n+3*ds.length/\Sn (m+ds.length) b/\WY (gN 7) YT ds (OG ns n a c rows made sn s7)=some (.nx (OG ns h a c g j b f))
 |[],n,rows,made,kds,sn,m,s7,_,_,hs,R,_,_=>⟨rows,made,kds,n,sn,s7,R,Ak _,id,by lia,by simp,hs,by simp⟩
 |d::ds,n,rows,made,kds,sn,m,s7,v,w,hs,R,r,u=>by simp only[Bu] at v w u;obtain⟨E,D,C,t,s,A,p,a2,J,a4,I,k,x⟩:=lP ns n a c (.va d) hl (by lia) (by lia) hs q i R r (by lia);obtain⟨g,j,o,h,b,f,B,H,y,G,F,l,e⟩:=Wr ns a c hl q i ds t (.va d) (by lia) (by lia) k A (λz=>by rw[z] at p;simp at p;exact r p) (by lia);refine⟨g,j,o,h,b,f,B,by lia,λz=>y (a2 z),by lia,by simp only[Bu];lia,snM l (by simp only[Bu];lia),?_⟩;rw[RB,GK,NC,show(OG ns n a c rows made sn s7).set 7 (.va d)=OG ns n a c rows made sn (.va d) from rfl,x,ND,e]
theorem Yb(ns:List Int)(n:Nat)(a q:Int){rows:List cX}{made:List Int}{kds:List Kd}{sn:cX}(s7:Sl)(hl:ns.length<=63)(T:n<500000)(hs:MH n sn)(F:0<q)(s:q<=64)(R:RI rows made kds)(J:(rows.length:Int)<a)(L:a<=40):∃p v C o b f,RI p v C/\rows.length<p.length/\(p.length:Int)<=a/\n<=o/\o<=n+20/\MH o b/\WX (OG ns n a q rows made sn s7)=some (.nx (OG ns o a q p v b f)):=by
 obtain⟨w,D,I,V,U,r,g,_,e⟩:=iR ns n made sn q hl (by lia) hs F s;obtain⟨x,E,ex⟩:=WZ ns D [.int 0,.int 1,.int 1,.int 2,.int 3] hl (by lia) (by simp);obtain⟨k,rfl,S,Q⟩:∃k:Nat,x=.int k/\0<=k/\k<=3:=by
  simp only[Ai,Ax,or_false] at E;rcases E with rfl|rfl|rfl|rfl|rfl
  ·exact⟨0,rfl,by lia,by lia⟩
  ·exact⟨1,rfl,by lia,by lia⟩
  ·exact⟨1,rfl,by lia,by lia⟩
  ·exact⟨2,rfl,by lia,by lia⟩
  ·exact⟨3,rfl,by lia,by lia⟩
 have O:=R.more g;have i:rows.length<16777216:=by lia
 have B:made.length<16777216:=by have:=R.ml;lia
 have K:(aG 0 k).length=k:=HL k;obtain⟨p,v,C,o,b,f,P,N,M,X,W,A,d⟩:=Wr ns a q hl F s (aG 0 k) (D+1) s7 (by lia) (by lia) r O (by simp) (by simp;lia);refine⟨p,v,C,o,b,f,P,by simp at N;lia,M (by simp;lia),by lia,by lia,snM A (by lia),?_⟩;obtain⟨y,u,m,_⟩:=Q1 g;have j:=QE rows w;have key:=C1 y u m;have c:=g.hard;rw[m] at c;have h:=DZ r;have l:(-4611686018427387904:Int)<=k/\(k:Int)<4611686018427387904:=by lia
 unfold WX;by_cases t:y= "store" ∨y= "put"
 ·rw [if_neg (by rw [key];simp [t])] at d
  simp only[OG] at d;rw[m] at d;rcases t with rfl|rfl
  ·simp[OG,e,j,m,i,c,h,ex,l,d]
  ·simp[OG,e,j,m,i,c,h,ex,l,d]
 ·rw [if_pos (by rw [key];exact t)] at d
  simp only[OG,Gs,Bg,Dw] at d;rw[m] at d;have H:¬ "store"=y:=λz=>t (.inl z.symm);have G:¬ "put"=y:=λz=>t (.inr z.symm);simp[OG,e,j,m,i,c,h,ex,l,H,G,B,d]
theorem IC{t:VB}{g:VS}{k:Nat}{δ δ1 δ2:Ev}(h:t δ=some (true,δ1))(h2:g δ1=some (.nx δ2)):aI t g (k+1) δ=aI t g k δ2:=by show((t δ).bind λp=>if p.1=true then(g p.2).bind (again (aI t g k)) else some (.nx p.2))=_;rw[h,Aw];show(if true=true then(g δ1).bind (again (aI t g k)) else _)=_;rw[if_pos rfl,h2];rfl
theorem NQ{t:VB}{g:VS}{k:Nat}{δ δ1:Ev}(h:t δ=some (false,δ1)):aI t g (k+1) δ=some (.nx δ1):=by show((t δ).bind λp=>if p.1=true then(g p.2).bind (again (aI t g k)) else some (.nx p.2))=_;rw[h];rfl
theorem Xe(ns:List Int)(a g:Int)(hl:ns.length<=63)(p:0<g)(i:g<=64)(j:a<=40):∀(f:Nat) (n:Nat) {rows:List cX} {made:List Int} {kds:List Kd} {sn:cX} (s7:Sl),a - rows.length<=f->(rows.length:Int)<=a->n+20*f<500000->MH n sn->RI rows made kds->∃k l o h b c,RI k l o/\(k.length:Int)=a/\n<=h/\h<=n+20*f/\aI (fB (f2 oLt (f1 YJ (fO 4)) (fV 2))) WX (f+1) (OG ns n a g rows made sn s7)=some (.nx (OG ns h a g k l b c))
 |0,n,rows,made,kds,sn,s7,h1,h2,t,hs,R=>by
  refine⟨rows,made,kds,n,sn,s7,R,by lia,by lia,by lia,NQ ?_⟩;have:¬(rows.length:Int)<a:=by lia
  simp[OG,this]
 | f + 1,n,rows,made,kds,sn,s7,h1,h2,t,hs,R => by
  by_cases d:(rows.length:Int)<a
  ·obtain ⟨A,z,y,s,r,q,w,E,a2,D,a4,m,u⟩ := Yb ns n a g s7 hl (by lia) hs p i R d j
   obtain⟨k,l,o,h,b,c,x,v,C,B,e⟩:=Xe ns a g hl p i j f s q (by lia) a2 (by lia) m w;refine⟨k,l,o,h,b,c,x,v,by lia,by lia,?_⟩;rw[IC (δ1:=OG ns n a g rows made sn s7) (by simp[OG,d]) u,e]
  ·refine ⟨rows,made,kds,n,sn,s7,R,by lia,by lia,by lia,NQ ?_⟩
   simp[OG,d]
theorem kG(ns:List Int)(n:Nat)(b d:Int)(hl:ns.length<=63)(k:n<400000)(h:0<d)(f:d<=64)(i:0<=b)(g:b<=40):∃rows kds c,Bl [] rows kds/\(rows.length:Int)=b/\n<=c/\c<=n+20*40/\XI [XM ns,X7 n,.int b,.int d]=some (.tup rows,[X7 c]):=by obtain⟨rows,made,kds,c,sn,s7,R,j,a2,l,e⟩:=Xe ns b d hl h f g b.toNat n (rows:=[]) (made:=[]) (kds:=[]) (sn:=.dct [] []) .no (by simp;lia) (by simpa using i) (by lia) ⟨[],[],rfl,rfl,List.nodup_nil,Cy _⟩ ⟨.nil,λa=>by simp[Nm],by simp⟩;refine⟨rows,kds,c,R.bl,j,a2,by lia,?_⟩;have e:=LO e;simp only[OG,Dw] at e;unfold XI;rw[cJ,RK.eq_1];simp[cF,e]
theorem Xf{f g:VF}{δ δ1 δ2:Ev}{i j:Int}(h1:f δ=some (.int i,δ1))(h2:g δ1=some (.int j,δ2))(hb:(-4611686018427387904<=i/\i<4611686018427387904)/\ -4611686018427387904<=j/\j<4611686018427387904):iR2 f g δ=some (aG i (j - i).toNat,δ2):=by unfold iR2;rw[h1,Aw,h2,Aw];exact if_pos hb
theorem NT(a:Nat)(tb:VB)(p:cX->Bool)(fe:VF)(f:cX->cX)(δ:Ev)(b:δ.length=a):∀(ds acc:List cX),(∀d∈ds,tb (δ++[Sl.va d])=some (p d,δ++[Sl.va d])/\(p d=true->fe (δ++[Sl.va d])=some (f d,δ++[Sl.va d])))->acc.length+ds.length<16777216->ZT a 1 (gN a) tb fe ds acc δ=some (acc++(ds.filter p).map f,δ)
 |[],acc,_,_=>by simp
 | d :: ds,acc,h,hl => by
  have j:(δ++[Sl.no]).set a (.va d)=δ++[Sl.va d]:=by rw[Fb _ _ (by lia)];simp[b]
  have k:(δ++[Sl.va d]).take a=δ:=by rw[Ct (by lia),Co (by lia)]
  have l:acc.length<16777216:=by simp at hl;lia
  obtain⟨h1,h2⟩:=h d Ap;cases c:p d with
  |true=>
   have g:=NT a tb p fe f δ b ds (acc++[f d]) (λe i=>h e (Ao _ i)) (by simp at hl⊢;lia);have h2:=h2 c;rw[c] at h1;simp only[SO,C4,GK,j,LI,h1,DL,h2,DM,if_pos l,k,g];simp[c]
  |false=>
   have g:=NT a tb p fe f δ b ds acc (λe i=>h e (Ao _ i)) (by simp at hl⊢;lia);rw[c] at h1;simp only[SO,C4,GK,j,LI,h1,Xn,k,g];simp[c]
theorem aB.ints{M:Int->Prop}{d:cX}(h:aB M d):∃(x:String) (a:Int) (as:List Int),d=.tup (.str x:: .int a::as.map .int)/\(x= "over" ->∃b,as=[b]/\M b):=by
 cases h with
 | @number n _ _=>exact⟨"number",n,[],rfl,λz=>absurd z (by decide)⟩
 | @two x a b e f hb=>exact⟨x,a,[b],rfl,λ_=>⟨b,rfl,hb⟩⟩
 | @pick c a b _ _ _=>exact⟨"pick",c,[a,b],rfl,λz=>absurd z (by decide)⟩
 | @load p _ _=>exact⟨"load",p,[],rfl,λz=>absurd z (by decide)⟩
 | @take p c a _ _ _ _=>exact⟨"take",p,[c,a],rfl,λz=>absurd z (by decide)⟩
 | @store p a _ _ _=>exact⟨"store",p,[a],rfl,λz=>absurd z (by decide)⟩
 | @put p a c _ _ _ _=>exact⟨"put",p,[a,c],rfl,λz=>absurd z (by decide)⟩
theorem VQ{k:Nat}:∀as:List Int,∀d∈as.map cX.int,RS k d
 |[],d,h=>nomatch h
 |a::as,d,h=>by
  rcases Ai.mp h with rfl|h
  ·exact ZH
  ·exact VQ as d h
theorem DU{M:Int->Prop}{b:cX}(h:aB M b):RS 1 b:=by obtain⟨x,a,as,rfl,_⟩:=h.ints;exact SZ (aK YV (aK ZH (VQ as)))
theorem VW{x:String}(h:¬OQ x){t:List cX}:b5 [.tup (.str x::t)]=some (.non,[]):=by obtain⟨⟨_,d⟩,⟨_,c⟩,⟨_,b⟩,_,a⟩:=off4 h;unfold b5;rw[cJ];unfold ZN;simp[cF,ZA,bI,d,c,b,a]
theorem UD{x:String}(h:OQ x){d:cX}{t:List cX}:b5 [.tup (.str x::d::t)]=some (d,[]):=by unfold b5;rw[cJ];unfold ZN;rcases h with rfl|rfl|rfl|rfl<;>simp[cF,ZA,bI]
theorem Xp{x:String}{a:Int}{t:List cX}:ZV [.tup (.str x:: .int a::t)]=some (.bl (decide (x= "number")&&!decide (a=0)),[]):=by
 unfold ZV;rw[cJ];unfold XQ;by_cases h:x= "number"
 ·subst h
  simp[cF]
 ·simp[cF,h]
theorem LK(lo:Int)(n:Nat):aG lo (n+1)=.int lo::aG (lo+1) n:=by
 unfold aG;rw[Ic];simp only[Bg,Fa];refine congr (congrArg List.cons (by simp)) (Dq λk _=>?_);simp only[Je];congr 1;push_cast
 lia
theorem Wa{x:String}{a:Int}:∀(n:Nat) (l:Int),MD (.tup [.str x,.int a]) ((aG l n).map λd=>.tup [.str "number",d])=(decide (x= "number")&&decide (l<=a/\a<l+n))
 |0,l=>by
  have:¬(l<=a/\a<l+(0:Nat)):=by lia
  simp[aG,this]
 | n + 1,l => by
  rw[LK,Bg,CQ,Wa n (l+1)];by_cases b:x= "number"
  ·subst b
   simp only[Ym,jU,Wm,iM,decide_true,Ll,Bool.and_true];rw[<-Bool.decide_or];exact decide_eq_decide.mpr (by push_cast;lia)
  ·simp[b,Dn b]
noncomputable def E6(x:Ti):Bool:=decide (Am "load"=x) || (decide (Am "take"=x) || (decide (Am "store"=x) || decide (Am "put"=x)))
theorem C6{x:String}(h:OQ x):E6 (Am x)=true:=by have:=cel4 h;simpa[E6,bM] using this
theorem G8{x:String}(h:¬OQ x):E6 (Am x)=false:=by obtain⟨⟨_,d⟩,⟨_,c⟩,⟨_,b⟩,_,a⟩:=off4 h;simp[E6,bM,d,c,b,a]
noncomputable def BV:cX->Bool
 |.tup (.str x:: .int a::_)=>decide (x=Am "number")&&!decide (a=0)
 |_=>false
noncomputable def UN(sure:Int)(rows:List cX):cX->Bool
 |.tup (.str x:: .int a::t)=>if E6 x=true then decide (sure<=a) else if x=Am "over" then(match t with
  |[.int b]=> !BV ((WU rows b).getD .non)
  |_=>false) else false
 |_=>false
theorem GV{sure:Int}{rows:List cX}{kds:List Kd}(hb:Bl [] rows kds){i:Int}(P:0<=i)(h1:i<rows.length){h:cX}(o:WU rows i=some h):YO [.tup [.int sure,.tup rows],.int i]=some (.bl (UN sure rows h),[])/\YW [.tup [.int sure,.tup rows],.int i]=some (.bl (UN sure rows h),[]):=by
 have Y:kds.length=rows.length:=by simpa using hb.len
 have N:h∈rows:=by rw[Y0 P h1] at o;exact Bv o
 have ok:=hb.all h N;obtain⟨x,a,as,rfl,y⟩:=ok.ints;unfold YO YW;rw[cJ,cJ];unfold PK TY;by_cases l:OQ x
 ·have L:=cel4 l
  have w:=UD l (d:=.int a) (t:=as.map .int);have r:¬x= "over":=λz=>by subst z;exact absurd l (by unfold OQ;decide)
  have hc:UN sure rows (.tup (.str x:: .int a::as.map .int))=decide (sure<=a):=if_pos (C6 l);rw[hc];exact⟨by simp[cF,o,L],by simp[cF,o,w,r]⟩
 ·have w:=VW l (t:= .int a::as.map .int)
  obtain⟨⟨_,J⟩,⟨_,I⟩,⟨_,H⟩,_,G⟩:=off4 l;by_cases r:x= "over"
  ·obtain⟨b,rfl,u⟩:=y r
   subst r;have S:=u.1;have X:=u.lt;obtain⟨D,v,C⟩:∃h∈rows,WU rows b=some h:=by
    have hi:b.toNat<rows.length:=by lia
    exact⟨rows[b.toNat],Hh hi,by rw[Y0 S (by lia)];simp[hi]⟩
   obtain⟨m,a2,s,B,K⟩:∃(x:String) (a:Int) (as:List Int),D=.tup (.str x:: .int a::as.map .int)/\(x= "number" ->0<=a/\a<1000):=by
    cases hb.all D v with
    | @number n V U=>exact⟨"number",n,[],rfl,λ_=>by lia⟩
    | @two x a b l W hb=>exact⟨x,a,[b],rfl,λz=>by subst z;simp at l⟩
    | @pick c a b _ _ _=>exact⟨"pick",c,[a,b],rfl,λz=>absurd z (by decide)⟩
    | @load p _ _=>exact⟨"load",p,[],rfl,λz=>absurd z (by decide)⟩
    | @take p c a _ _ _ _=>exact⟨"take",p,[c,a],rfl,λz=>absurd z (by decide)⟩
    | @store p a _ _ _=>exact⟨"store",p,[a],rfl,λz=>absurd z (by decide)⟩
    | @put p a c _ _ _ _=>exact⟨"put",p,[a,c],rfl,λz=>absurd z (by decide)⟩
   subst B;have M:VL (.str m:: .int a2::s.map cX.int) none (some 2)=[.str m,.int a2]:=by have:=QJ (ds:=.str m:: .int a2::s.map cX.int) (k:=2);simpa using this
   have Q:∀δ,iR2 (fC (.int 1)) (fC (.int 1000)) δ=some (aG 1 ((1000:Int) - 1).toNat,δ):=λδ=>Xf (f:=fC (.int 1)) (g:=fC (.int 1000)) (δ:=δ) (δ1:=δ) (δ2:=δ) (i:=1) (j:=1000) rfl rfl (by lia);have F:=VJ 0 (Z9 (cT (fC (.str "number")) (cT (fV 0) bV))) [] (λd=>.tup [.str "number",d]) rfl (aG 1 ((1000:Int) - 1).toNat) [] (λd _=>by simp) (by simp[aG]);have A:aS true (.tup [.str m,.int a2]) (.lst ((aG 1 ((1000:Int) - 1).toNat).map λd=>.tup [.str "number",d]))=some (.bl (!(decide (m= "number")&&!decide (a2=0)))):=by
    rw[M5 (j:=1) (k:=1) (SZ (aK YV (aK ZH YF))) (λe O=>by
     obtain⟨d,E,rfl⟩:=Be.mp O;obtain⟨q,rfl⟩:∃q,d=.int q:=by unfold aG at E;obtain⟨q,_,rfl⟩:=Be.mp E;exact⟨_,rfl⟩
     exact SZ (aK YV (aK ZH YF))),Wa,if_pos rfl]
    congr 3;by_cases l:m= "number"
    ·have:=K l
     simp only[l,decide_true,Ll,<-decide_not];exact decide_eq_decide.mpr (by lia)
    ·simp[l]
   simp only[Dc] at F;generalize (aG 1 ((1000:Int) - 1).toNat).map (λd=>cX.tup [.str "number",d])=big at*;generalize aG 1 ((1000:Int) - 1).toNat=T at*;have hc:UN sure rows (.tup (.str "over":: .int a::[b].map .int))= !(decide (m= "number")&&!decide (a2=0)):=by show(if E6 (Am "over")=true then decide (sure<=a) else if Am "over"=Am "over" then !BV ((WU rows b).getD .non) else false)=_;rw[G8 l,if_neg (by decide),if_pos rfl,C];show(!(decide (Am m=Am "number")&&!decide (a2=0)))=_;rw[show decide (Am m=Am "number")=decide (m= "number") by simp[bM]]
   rw[hc];have B:=Xp (x:=m) (a:=a2) (t:=s.map .int);generalize (decide (m= "number")&&!decide (a2=0))=R at*;refine⟨by simp -implicitDefEqProofs [cF,o,C,M,a9,Q,F,A],?_⟩;cases R<;>simp[cF,o,C,B]
  ·have hc:UN sure rows (.tup (.str x:: .int a::as.map .int))=false:=by show(if E6 (Am x)=true then decide (sure<=a) else if Am x=Am "over" then _ else false)=_;rw[G8 l,if_neg (by decide),if_neg (by rw[bM];exact r)]
   rw[hc];exact⟨by simp[cF,o,J,I,H,G,r],by simp[cF,o,w,r]⟩
noncomputable def aZ(p:Int×Int):cX:=.tup [.int p.1,.int p.2]
noncomputable def VE:cX:=.tup [.str "load",.str "take",.str "store",.str "put"]
noncomputable def PU(a:cX)(ps:List (Int×Int))(j:Int)(there:Sl)(d c s7 b:Sl):Ev:=
 [.va a,.ow (.lst (ps.map aZ)),.va VE,.va (.int j),there,d,c,s7,b]
theorem dD{bs:List Bool}:aS false (.bl true) (.lst (bs.map .bl))=some (.bl (bs.any id)):=by
 rw[M5 (j:=0) (k:=0) Vj (λe c=>by obtain⟨b,_,rfl⟩:=Be.mp c;exact Vj)]
 induction bs with
 |nil=>rfl
 |cons b bs a=>
  have e:L8 (.bl b) (.bl true)=b:=by cases b<;>rfl
  simp only[Bg,CQ,Jb,id,e];simp only[Dx,if_false,Lb,cX.bl.injEq] at a⊢;rw[a]
noncomputable def P8:cX->Bool
 |.tup (.str x::_)=>decide (Am "store"=x) || decide (Am "put"=x)
 |_=>false
theorem YK{s1 a:VS}{δ δ1:Ev}{r:Option Ou}(h1:s1 δ=some (.nx δ1))(h2:a δ1=r):cC s1 a δ=r:=by rw[FH,h1,qS_n,h2]
noncomputable def cbO:Option (cX×List cX)->Bool
 |some (.bl b,_)=>b
 |_=>false
noncomputable def mS(sure:Int)(rows:List cX)(i j:Int):Bool:=cbO (Z6 [.tup [.int sure,.tup rows],.int i,.int j])
theorem TJ{x:String}{t:List cX}{a:Bool}(h:aS false (.str x) (.tup [.str "store",.str "put"])=some (.bl a)):YG [.tup (.str x::t)]=some (.bl a,[]):=by unfold YG;rw[cJ];unfold MR;simp only[MS] at h;simpa[cF,bI] using h
theorem lR{x y:String}{a b:Int}{t u:List cX}{g i f q:Bool}(B:aS false (.str x) VE=some (.bl g))(A:aS false (.str y) VE=some (.bl i))(n:aS false (.str x) (.tup [.str "store",.str "put"])=some (.bl f))(m:aS false (.str y) (.tup [.str "store",.str "put"])=some (.bl q)):aT [.tup (.str x:: .int a::t),.tup (.str y:: .int b::u)]=some (.bl (g&&(i&&(decide (a=b)&&(f || q)))),[]):=by
 have v:∀{x:String} {g f:Bool},aS false (.str x) VE=some (.bl g)->aS false (.str x) (.tup [.str "store",.str "put"])=some (.bl f)->OQ x/\g=true∨¬OQ x/\g=false/\f=false:=λ{x g f} h1 h2=>by
  unfold VE at h1;rw[CT] at h1;rw[MS] at h2;simp only[Dx,if_false,Lb,cX.bl.injEq] at h1 h2;by_cases l:OQ x
  ·exact .inl ⟨l,by rw[<-h1];exact cel4 l⟩
  ·obtain⟨⟨_,z⟩,⟨_,w⟩,⟨_,p⟩,_,o⟩:=off4 l
   exact .inr ⟨l,by rw[<-h1];simp[z,w,p,o],by rw[<-h2];simp[p,o]⟩
 have s:=TJ n (t:=.int a::t);have r:=TJ m (t:=.int b::u);unfold aT;rw[cJ];unfold Y1;rcases v B n with⟨h1,rfl⟩|⟨h1,rfl,rfl⟩<;>rcases v A m with⟨h2,rfl⟩|⟨h2,rfl,rfl⟩
 ·have c:=UD h1 (d:= .int a) (t:=t)
  have p2:=UD h2 (d:=.int b) (t:=u);clear n m;by_cases h:a=b
  ·subst h
   cases f<;>simp[cF,c,p2,s,r]
  ·simp[cF,c,p2,h]
 ·have c:=UD h1 (d:= .int a) (t:=t)
  have p2:=VW h2 (t:=.int b::u);have e:=C5 (j:=0) (k:=0) (d:=.int a) (e:=.non) ZH QW;simp[cF,c,p2,e,show L8 (.int a) .non=false from rfl]
 ·have c:=VW h1 (t:= .int a::t)
  have p2:=UD h2 (d:=.int b) (t:=u);have e:=C5 (j:=0) (k:=0) (d:=.non) (e:=.int b) QW ZH;simp[cF,c,p2,e,show L8 .non (.int b)=false from rfl]
 ·have c:=VW h1 (t:= .int a::t)
  have p2:=VW h2 (t:=.int b::u);have e:=C5 (j:=0) (k:=0) (d:=.non) (e:=.non) QW QW;simp[cF,c,p2,s,r,e,show L8 .non .non=true from rfl]
theorem QQ{i:Int}:∀{as:List Int},MD (.int i) (as.map .int)=true↔i∈as
 |[]=>by simp
 |a::as=>by rw[Bg,CQ,Hy,Wm,decide_eq_true_eq,QQ (as:=as),Ai];exact⟨λh=>h.imp Eq.symm id,λh=>h.imp Eq.symm id⟩
noncomputable def plD:cX->Option Int
 |.tup (.str x:: .int p::_)=>if E6 x=true then some p else none
 |_=>none
theorem LF{x:Ti}{p:Int}{t:List cX}:plD (.tup (.str x:: .int p::t))=if E6 x=true then some p else none:=(rfl)
noncomputable def shT(r s:cX):Bool:=match plD r,plD s with
 |some p,some q=>decide (p=q)&&(P8 r || P8 s)
 |_,_=>false
noncomputable def B0(sure:Int)(rows:List cX)(r s:cX):Bool:=(UN sure rows r&&UN sure rows s) || (shT r s || ((UN sure rows r&&P8 s) || (UN sure rows s&&P8 r)))
theorem JA{ds:List cX}:L8 (.lst ds) (.lst [])=ds.isEmpty:=by cases ds<;>rfl
theorem Vl{sure:Int}{rows:List cX}{kds:List Kd}(hb:Bl [] rows kds)(ps:List (Int×Int)){i j:Int}{here there:cX}(i0:0<=i)(Z:i<rows.length)(Y:0<=j)(X:j<rows.length)(A:WU rows i=some here)(s:WU rows j=some there){as:List Int}(hn:bA [there]=some (.lst (as.map .int),[]))(p:Z1 [there]=some (.lst (as.map .int),[]))(s7 V:Sl)(hp:ps.length<1000000):∃t7 t8:Sl,mS sure rows i j=(decide (i∈as) || B0 sure rows here there)/\Z6 [.tup [.int sure,.tup rows],.int i,.int j]=some (.bl (mS sure rows i j),[])/\WV (PU (.tup [.int sure,.tup rows]) ps j (.va there) (.va (.int i)) (.va here) s7 V)=some (.nx (PU (.tup [.int sure,.tup rows]) (ps++if mS sure rows i j then[(i,j)] else[]) j (.va there) (.va (.int i)) (.va here) t7 t8)):=by
 obtain⟨U,M⟩:=GV (sure:=sure) hb i0 Z A;obtain⟨T,L⟩:=GV (sure:=sure) hb Y X s;have v:∀c d,UN sure rows here=c->UN sure rows there=d->B0 sure rows here there=((c&&d) || (shT here there || ((c&&P8 there) || (d&&P8 here)))):=λc d h1 h2=>by unfold B0;rw[h1,h2]
 have v:=v _ _ rfl rfl;generalize UN sure rows here=g at*;generalize UN sure rows there=l at*;have C:=hb.all here (by rw[Y0 i0 Z] at A;exact Bv A);have B:=hb.all there (by rw[Y0 Y X] at s;exact Bv s);have W:=DU C;have kt:=DU B;obtain⟨x,a,xs,S,_⟩:=C.ints;obtain⟨y,b,ys,R,_⟩:=B.ints;have n:aS false (.int i) (.lst (as.map .int))=some (.bl (MD (.int i) (as.map .int))):=by rw[M5 (j:=0) (k:=0) ZH (VQ as)];simp
 have sr:MD (.int i) (as.map .int)=decide (i∈as):=by
  by_cases h:i∈as
  ·rw[QQ.mpr h,decide_eq_true h]
  ·rw[decide_eq_false h]
   exact Bool.eq_false_iff.mpr λz=>h (QQ.mp z)
 generalize MD (.int i) (as.map .int)=bi at*;obtain⟨o,E⟩:∃f,aS false (.str x) (.tup [.str "store",.str "put"])=some (.bl f):=⟨_,MS⟩;obtain⟨q,D⟩:∃e,aS false (.str y) (.tup [.str "store",.str "put"])=some (.bl e):=⟨_,MS⟩;have K:∀{x:String} {t:List cX} {o:Bool},aS false (.str x) (.tup [.str "store",.str "put"])=some (.bl o)->P8 (.tup (.str x::t))=o:=λ{x t o} h=>by rw[MS] at h;simp only[Dx,if_false,Lb,cX.bl.injEq] at h;rw[<-h];simp[P8,bM]
 have O:∃w:List cX,ZT 0 1 (gN 0) (fB (f2 (aS false) (f2 cB (fV 0) (fC (.int 0))) (Z9 (cT (fC (.str "store")) (cT (fC (.str "put")) bV))))) (fV 0) [here,there] [] []=some (w,[])/\(∀d∈w,RS 1 d)/\(!L8 (.lst w) (.lst []))=(o || q):=by
  have c:=NT 0 (fB (f2 (aS false) (f2 cB (fV 0) (fC (.int 0))) (Z9 (cT (fC (.str "store")) (cT (fC (.str "put")) bV))))) P8 (fV 0) id [] rfl [here,there] [] (λd J=>by
   simp only[Ai,Ax,or_false] at J;rcases J with rfl|rfl
   ·rw[S];simp[P8,bM]
   ·rw[R];simp[P8,bM]) (by simp)
  refine⟨_,c,λd J=>?_,?_⟩
  ·simp only[Dc,List.map_id_fun,id,Fy,Ai,Ax,or_false] at J
   rcases J.1 with rfl|rfl
   ·exact W
   ·exact kt
  ·have w1 : P8 here = o := by rw [S];exact K E
   have w2:P8 there=q:=by rw[R];exact K D
   rw[JA];cases o<;>cases q<;>simp[w1,w2]
 obtain⟨w,O,kw,hw⟩:=O;have I:OF (.lst w) (.lst [])=some (.bl (!L8 (.lst w) (.lst []))):=LC (j:=2) (k:=0+1) (X3 kw) (X3 YF);generalize (!L8 (.lst w) (.lst []))=r at*;have P:ps.length<16777216:=by lia
 have H:∃f,aS false (.str x) VE=some (.bl f):=⟨_,CT⟩;have G:∃e,aS false (.str y) VE=some (.bl e):=⟨_,CT⟩;obtain⟨f,H⟩:=H;obtain⟨e,G⟩:=G;subst S R;have m:=dD (bs:=[bi,g&&l,f&&(e&&(decide (a=b)&&r)),g&&q,l&&o]);simp only[Bg,Dw] at m;have es:Z6 [.tup [.int sure,.tup rows],.int i,.int j]=some (.bl ([bi,g&&l,f&&(e&&(decide (a=b)&&r)),g&&q,l&&o].any id),[]):=by
  have F:=lR (a:=a) (b:=b) (t:=xs.map .int) (u:=ys.map .int) H G E D;have h1:=TJ E (t:=.int a::xs.map .int);have h2:=TJ D (t:=.int b::ys.map .int);rw[<-hw] at F;clear m O I W kt C B U T hn E D;generalize (f&&(e&&(decide (a=b)&&r)))=q3 at*;generalize xs.map cX.int=T1 at*;generalize ys.map cX.int=T2 at*;generalize as.map cX.int=N at*;unfold Z6;rw[cJ];unfold T5;cases bi with
  |true=>simp[cF,A,s,p,n]
  |false=>
   cases q3 with
   |true=>simp[cF,A,s,p,n,F]
   |false=>
    cases g with
    |true=>
     cases l with
     |true=>simp[cF,A,s,p,n,F,M,L]
     |false=>cases q<;>simp[cF,A,s,p,n,F,M,L,h2]
    |false=>
     cases l with
     |true=>simp[cF,A,s,p,n,F,M,L,h1]
     |false=>simp[cF,A,s,p,n,F,M,L]
 have hm:mS sure rows i j=[bi,g&&l,f&&(e&&(decide (a=b)&&r)),g&&q,l&&o].any id:=by unfold mS;rw[es];rfl
 rw[hm];refine⟨.va (.lst w),.ow (.lst [.bl bi,.bl (g&&l),.bl (f&&(e&&(decide (a=b)&&r))),.bl (g&&q),.bl (l&&o)]),?_,es,?_⟩
 ·have f1:P8 (.tup (.str x:: .int a::xs.map .int))=o:=K E
  have f2:P8 (.tup (.str y:: .int b::ys.map .int))=q:=K D;have gB:∀{x:String} {f:Bool},aS false (.str x) VE=some (.bl f)->E6 (Am x)=f:=λ{x f} h=>by unfold VE at h;rw[CT] at h;simpa[E6,bM] using h
  have f3:shT (.tup (.str x:: .int a::xs.map .int)) (.tup (.str y:: .int b::ys.map .int))=(f&&(e&&(decide (a=b)&&r))):=by unfold shT;rw[LF,LF,gB H,gB G,f1,f2,hw];cases f<;>cases e<;>rfl
  rw[v,f1,f2,f3,<-sr];simp
 clear es hm hw v
 ·unfold WV
  refine YK (δ1:=PU (.tup [.int sure,.tup rows]) ps j (.va (.tup (.str y:: .int b::ys.map .int))) (.va (.int i)) (.va (.tup (.str x:: .int a::xs.map .int))) (.va (.lst w)) V) (by simp[PU,a9,O]) ?_;refine YK (δ1:=PU (.tup [.int sure,.tup rows]) ps j (.va (.tup (.str y:: .int b::ys.map .int))) (.va (.int i)) (.va (.tup (.str x:: .int a::xs.map .int))) (.va (.lst w)) (.ow (.lst [.bl bi,.bl (g&&l)]))) ?_ ?_
  ·clear m
   cases g<;>simp[PU,hn,n,U,T]
  refine YK (δ1:=PU (.tup [.int sure,.tup rows]) ps j (.va (.tup (.str y:: .int b::ys.map .int))) (.va (.int i)) (.va (.tup (.str x:: .int a::xs.map .int))) (.va (.lst w)) (.ow (.lst [.bl bi,.bl (g&&l),.bl (f&&(e&&(decide (a=b)&&r)))]))) ?_ ?_
  ·clear m
   cases f<;>cases e<;>by_cases Q:a=b<;>simp[PU,H,G,I,Q]
  refine YK (δ1:=PU (.tup [.int sure,.tup rows]) ps j (.va (.tup (.str y:: .int b::ys.map .int))) (.va (.int i)) (.va (.tup (.str x:: .int a::xs.map .int))) (.va (.lst w)) (.ow (.lst [.bl bi,.bl (g&&l),.bl (f&&(e&&(decide (a=b)&&r))),.bl (g&&q)]))) ?_ ?_
  ·clear m
   generalize (f&&(e&&(decide (a=b)&&r)))=q3;cases g<;>simp[-MS,PU,U,D]
  refine YK (δ1:=PU (.tup [.int sure,.tup rows]) ps j (.va (.tup (.str y:: .int b::ys.map .int))) (.va (.int i)) (.va (.tup (.str x:: .int a::xs.map .int))) (.va (.lst w)) (.ow (.lst [.bl bi,.bl (g&&l),.bl (f&&(e&&(decide (a=b)&&r))),.bl (g&&q),.bl (l&&o)]))) ?_ ?_
  ·clear m
   generalize (f&&(e&&(decide (a=b)&&r)))=q3;cases l<;>simp[-MS,PU,T,E]
  generalize (f&&(e&&(decide (a=b)&&r)))=q3 at*;generalize hq1:(g&&l)=q1 at*;generalize hq4:(g&&q)=q4 at*;generalize hq5:(l&&o)=q5 at*;generalize hc:[bi,q1,q3,q4,q5].any id=c at*;cases c
  ·simp[PU,m]
  ·simp[PU,m,P,aZ]
theorem SS(i:Nat)(d:cX)(ds:List cX):Y6 i (d::ds)=.tup [.int i,d]::Y6 (i+1) ds:=rfl
noncomputable abbrev GP(a b:Nat):VG:=NX 2 (bR (gN a) (bR (gN b) YM))
theorem TQ{α:Type}{rows:List α}{k:Nat}{d:α}(h:rows[k]?=some d):WU rows (k:Int)=some d:=by have:=(Ad.mp h).1;rw[Y0 (by lia) (by lia)];simpa using h
theorem T7{as bs:List Int}(h:as.map cX.int=bs.map cX.int):as=bs:=by
 induction as generalizing bs with
 |nil=>cases bs with
  |nil=>rfl
  |cons=>simp at h
 | cons a as c => cases bs with
  |nil=>simp at h
  |cons b bs=>
   simp only[Bg,Hz,cX.int.injEq] at h;rw[h.1,c h.2]
theorem J1{sure:Int}{rows:List cX}{kds:List Kd}(hb:Bl [] rows kds){i j:Nat}(hi:i<rows.length)(d:j<rows.length):Z6 [.tup [.int sure,.tup rows],.int i,.int j]=some (.bl (mS sure rows i j),[])/\∀as:List Int,bA [rows[j]]=some (.lst (as.map .int),[])->mS sure rows i j=(decide ((i:Int)∈as) || B0 sure rows rows[i] rows[j]):=by have f:=TQ (Bf hi);have e:=TQ (Bf d);obtain⟨as,_,_,c,b⟩:=U3 (hb.all _ (Hh d));obtain⟨_,_,h1,h2,_⟩:=Vl (sure:=sure) hb [] (by lia) (by lia) (by lia) (by lia) f e c b .no .no (by simp);refine⟨h2,λbs a=>?_⟩;rw[c] at a;have:as=bs:=T7 (by simpa using a);subst this;exact h1
noncomputable def lq(sure:Int)(rows:List cX)(j:Nat)(k n:Nat):List (Int×Int):=((Hj k n).filter λi=>mS sure rows (i:Nat) (j:Nat)).map λi=>((i:Nat),(j:Nat))
theorem oR{sure:Int}{rows:List cX}{j k n:Nat}:lq sure rows j k (n+1)=(if mS sure rows k j then[((k:Int),(j:Int))] else[])++lq sure rows j (k+1) n:=by unfold lq;rw[Lr,List.filter_cons];split<;>rfl
theorem Wy{sure:Int}{rows:List cX}{kds:List Kd}(hb:Bl [] rows kds){j:Nat}{there:cX}(r:j<rows.length)(f:rows[j]?=some there):∀(hs:List cX) (k:Nat) (ps:List (Int×Int)) (c b s7 a:Sl),(∀m d,hs[m]?=some d->rows[k+m]?=some d)->k+hs.length<=rows.length->ps.length+hs.length<1000000->∃t5 t6 t7 t8:Sl,WY (GP 5 6) WV (Y6 k hs) (PU (.tup [.int sure,.tup rows]) ps j (.va there) c b s7 a)=some (.nx (PU (.tup [.int sure,.tup rows]) (ps++lq sure rows j k hs.length) j (.va there) t5 t6 t7 t8))
 |[],k,ps,c,b,s7,a,_,_,_=>⟨c,b,s7,a,by simp[Y6,lq]⟩
 |h::hs,k,ps,c,b,s7,a,l,v,t=>by
  simp only[Bu] at v t;obtain⟨as,_,_,u,g⟩:=U3 (hb.all there (Bv f));obtain⟨t7,t8,_,_,e⟩:=Vl (sure:=sure) hb ps (i:=(k:Int)) (j:=j) (here:=h) (there:=there) (by lia) (by lia) (by lia) (by lia) (TQ (l 0 h rfl)) (TQ f) u g s7 a (by lia);obtain⟨q,p,o,n,s⟩:=Wy hb r f hs (k+1) (ps++if mS sure rows k j then[((k:Int),(j:Int))] else[]) (.va (.int k)) (.va h) t7 t8 (λm d w=>by rw[Jg,Pg 1];exact l (m+1) d (by simpa using w)) (by lia) (by split<;>simp<;>lia);refine⟨q,p,o,n,?_⟩;rw[SS,RB];have s1:GP 5 6 (.tup [.int k,h]) (PU (.tup [.int sure,.tup rows]) ps j (.va there) c b s7 a)=some (PU (.tup [.int sure,.tup rows]) ps j (.va there) (.va (.int k)) (.va h) s7 a):=by simp[PU]
  rw[s1,NC,e,ND,s,Bh,Bu,oR]
noncomputable def oq(sure:Int)(rows:List cX)(k n:Nat):List (Int×Int):=(Hj k n).flatMap λj=>lq sure rows j 0 j
theorem lX{sure:Int}{rows:List cX}{j k n:Nat}:(lq sure rows j k n).length<=n:=by unfold lq;rw[Cd];exact Ce (List.length_filter_le _ _) (by simp)
theorem Vx{sure:Int}{rows:List cX}{kds:List Kd}(hb:Bl [] rows kds)(l:rows.length<=40):∀(a:List cX) (k:Nat) (ps:List (Int×Int)) (h f c s7 b:Sl) (g:Sl),rows.drop k=a->k+a.length=rows.length->ps.length+40*a.length<10000->∃t3 t4 t5 t6 t7 t8:Sl,(oq sure rows k a.length).length<=40*a.length/\WY (GP 3 4) WW (Y6 k a) [.va (.tup [.int sure,.tup rows]),.ow (.lst (ps.map aZ)),.va VE,g,h,f,c,s7,b]=some (.nx [.va (.tup [.int sure,.tup rows]),.ow (.lst ((ps++oq sure rows k a.length).map aZ)),.va VE,t3,t4,t5,t6,t7,t8])
 |[],k,ps,h,f,c,s7,b,g,h1,h2,_=>⟨g,h,f,c,s7,b,by simp[oq],by simp[Y6,oq]⟩
 | t :: a,k,ps,h,f,c,s7,b,g,h1,h2,y => by
  simp only[Bu] at h2 y;have z:rows[k]?=some t:=by
   have:(rows.drop k)[0]?=some t:=by rw[h1];rfl
   simpa using this
  have A:(rows.take k).length=k:=by rw[Bt];lia
  have C:=lX (sure:=sure) (rows:=rows) (j:=k) (k:=0) (n:=k);obtain⟨t5,t6,t7,t8,e⟩:=Wy (sure:=sure) hb (by lia) z (rows.take k) 0 ps f c s7 b (λm d i=>by rw[Kj] at i;rw[Gd];split at i<;>first|exact i|cases i) (by lia) (by lia);rw[A] at e;obtain⟨v,u,s,r,q,p,B,x⟩:=Vx (sure:=sure) hb l a (k+1) (ps++lq sure rows k 0 k) (.va t) t5 t6 t7 t8 (.va (.int k)) (by rw[<-Rk,h1];rfl) (by lia) (by simp;lia);have o:oq sure rows k (a.length+1)=lq sure rows k 0 k++oq sure rows (k+1) a.length:=by unfold oq;rw[Lr,Pc]
  refine⟨v,u,s,r,q,p,?_,?_⟩
  ·rw[Bu,o,Cf]
   lia
  ·rw[SS,RB]
   have s1:GP 3 4 (.tup [.int k,t]) [.va (.tup [.int sure,.tup rows]),.ow (.lst (ps.map aZ)),.va VE,g,h,f,c,s7,b]=some (PU (.tup [.int sure,.tup rows]) ps k (.va t) f c s7 b):=by simp[PU]
   have w:WW (PU (.tup [.int sure,.tup rows]) ps k (.va t) f c s7 b)=some (.nx (PU (.tup [.int sure,.tup rows]) (ps++lq sure rows k 0 k) k (.va t) t5 t6 t7 t8)):=by
    unfold WW;have hc:=QJ (ds:=rows) (k:=k);rw[jD];have:QP (A5 (f2 cB (fV 0) (fC (.int 1))) pNo (BJ (fV 3))) (PU (.tup [.int sure,.tup rows]) ps k (.va t) f c s7 b)=some (Y6 0 (rows.take k),PU (.tup [.int sure,.tup rows]) ps k (.va t) f c s7 b):=by simp[PU,hc]
    rw[this,qF_s];exact e
   rw[s1,NC,w,ND];simp only[PU];rw[x,Bh,Bu,o]
structure Prs(rows:List cX)(ps:List (Int×Int)):Prop where
 lt:∀p∈ps,0<=p.1/\p.1<p.2/\p.2<rows.length
 nm:∀(j:Nat) (row:cX) (as:List Int),rows[j]?=some row->bA [row]=some (.lst (as.map .int),[])->∀i∈as,0<=i->i<j->(i,(j:Int))∈ps
theorem DG:∀ps:List (Int×Int),JP (ps.map aZ)=some ps
 |[]=>rfl
 |p::ps=>by show(prD (aZ p)).bind (λq=>(JP (ps.map aZ)).map λa=>q::a)=_;rw[DG ps];rfl
abbrev AD(p q:Int×Int):Prop:=TS.lexP p q=true
theorem C0:∀{l m:List (Int×Int)},l.Pairwise AD->m.Pairwise AD->(∀x,x∈l↔x∈m)->l=m
 |[],[],_,_,_=>rfl
 |[],y::m,_,_,h=>absurd ((h y).mpr Ap) (Ax)
 |x::l,[],_,_,h=>absurd ((h x).mp Ap) (Ax)
 | x :: l,y :: m,h1,h2,h => by
  obtain⟨f,a2⟩:=Fd.mp h1;obtain⟨d,g⟩:=Fd.mp h2;have b:∀p q,AD p q->AD q p->False:=λp q h1 h2=>by unfold AD TS.lexP at h1 h2;split at h1<;>split at h2<;>simp only[decide_eq_true_eq] at h1 h2<;>lia
  have e:x=y:=by
   rcases Ai.mp ((h x).mp Ap) with e|e
   ·exact e
   ·rcases Ai.mp ((h y).mpr Ap) with c|c
    ·exact c.symm
    ·exact(b _ _ (d x e) (f y c)).elim
  subst e;rw[C0 a2 g λz=>⟨λa=>?_,λa=>?_⟩]
  ·rcases Ai.mp ((h z).mp (Ao _ a)) with e|e
   ·rw[e] at a;exact(b _ _ (f x a) (f x a)).elim
   ·exact e
  ·rcases Ai.mp ((h z).mpr (Ao _ a)) with e|e
   ·rw[e] at a;exact(b _ _ (d x a) (d x a)).elim
   ·exact e
theorem Xx(ps a:List (Int×Int))(g:ps.Nodup)(f:a.Pairwise AD)(k:∀x,x∈ps↔x∈a):E5 (.lst (ps.map aZ))=some (.lst (a.map aZ)):=by
 have d:((MC ps).map λi=>ps.getD i (0,0)).Perm ps:=by
  have h:=(TH ps).map λi=>ps.getD i (0,0);refine h.trans ?_;have:(Au ps.length).map (λi=>ps.getD i (0,0))=ps:=by refine List.ext_getElem (by simp) λi h1 h2=>?_;simp at h1;simp[h1]
  rw[this]
 have hs:((MC ps).map λi=>ps.getD i (0,0)).Pairwise λp q=>TS.lexP q p=false:=by refine Io.mpr ((TS.zGI ps.length (TS.kyP ps)).imp λ{i j} h=>?_);rw[<-TS.zCI];exact decide_eq_false (Nat.not_lt.mpr h)
 have c:((MC ps).map λi=>ps.getD i (0,0)).Pairwise AD:=by refine(hs.and (d.nodup_iff.mpr g)).imp λ{p q} h=>?_;obtain⟨h1,h2⟩:=h;have h2:p≠q:=h2;refine Kn λb=>h2 ?_;unfold AD at b;unfold TS.lexP at h1 b;split at h1<;>split at b<;>simp only[decide_eq_true_eq,decide_eq_false_iff_not] at h1 b<;>refine Ta ?_ ?_<;>lia
 have e:=C0 c f λx=>(d.mem_iff).trans (k x);show(JP (ps.map aZ)).bind (λa=>some (cX.lst ((MC a).map λi=>(ps.map aZ).getD i cX.non)))=_;rw[DG,Aw,<-e,Fa];congr 2;refine Dq λi hi=>?_;have:i<ps.length:=Cr.mp ((TH ps).mem_iff.mp hi);simp[this]
noncomputable def pq(sure:Int)(rows:List cX)(n:Nat)(i k:Nat):List (Int×Int):=(Hj i k).flatMap λ(a:Nat)=>((Hj (a+1) (n - (a+1))).filter λb=>mS sure rows (a:Nat) (b:Nat)).map λb=>((a:Nat),(b:Nat))
theorem W5{sure:Int}{rows:List cX}{n:Nat}{x:Int×Int}:x∈pq sure rows n 0 n↔ ∃a b:Nat,a<b/\b<n/\mS sure rows a b=true/\x=((a:Int),(b:Int)):=by
 simp only[pq,Px,Be,Fy,Kz];constructor
 ·rintro ⟨a,⟨_,h1⟩,b,⟨⟨h2,c⟩,d⟩,rfl⟩
  exact⟨a,b,by lia,by lia,d,rfl⟩
 ·rintro ⟨a,b,h1,h2,c,rfl⟩
  exact⟨a,⟨by lia,by lia⟩,b,⟨⟨by lia,by lia⟩,c⟩,rfl⟩
theorem zCE{sure:Int}{rows:List cX}{n:Nat}{x:Int×Int}:x∈oq sure rows 0 n↔ ∃a b:Nat,a<b/\b<n/\mS sure rows a b=true/\x=((a:Int),(b:Int)):=by
 simp only[oq,lq,Px,Be,Fy,Kz];constructor
 ·rintro ⟨b,⟨_,h1⟩,a,⟨⟨h2,c⟩,d⟩,rfl⟩
  exact⟨a,b,by lia,by lia,d,rfl⟩
 ·rintro ⟨a,b,h1,h2,c,rfl⟩
  exact⟨b,⟨by lia,by lia⟩,a,⟨⟨by lia,by lia⟩,c⟩,rfl⟩
theorem zBL{sure:Int}{rows:List cX}{n i k:Nat}:(pq sure rows n i k).Pairwise AD:=by
 refine Mq.mpr ⟨λa _=>Io.mpr (Mv _ ((Gf (step:=1)).imp λ{b c} h=>?_)),(Gf (step:=1)).imp λ{a c} h x f y e=>?_⟩
 ·simp[AD,TS.lexP];lia
 ·obtain⟨b,_,rfl⟩:=Be.mp f
  obtain⟨d,_,rfl⟩:=Be.mp e;have:¬(a:Int)=c:=by lia
  simp[AD,TS.lexP,this];lia
theorem Wq{sure:Int}{rows:List cX}{i k:Nat}:(oq sure rows i k).Nodup:=by
 refine Mq.mpr ⟨λa _=>Io.mpr (Mv _ ((Gf (step:=1)).imp λ{b c} h e=>?_)),(Gf (step:=1)).imp λ{a c} h x g y f e=>?_⟩
 ·have:=congrArg Cz e
  simp at this;lia
 ·obtain⟨b,_,rfl⟩:=Be.mp g
  obtain⟨d,_,rfl⟩:=Be.mp f;have:=congrArg Ec e;simp at this;lia
theorem G0{sure:Int}{rows:List cX}{kds:List Kd}(hb:Bl [] rows kds)(a:rows.length<=40):(pq sure rows rows.length 0 rows.length).length<=1600/\YZ [.tup [.int sure,.tup rows]]=some (.lst ((pq sure rows rows.length 0 rows.length).map aZ),[]):=by
 obtain⟨t3,t4,t5,t6,t7,t8,q3,e⟩:=Vx (sure:=sure) hb a rows 0 [] .no .no .no .no .no .no (by simp) (by simp) (by simp;lia);simp only[Dw,Dc,VE] at e;have es:=Xx (oq sure rows 0 rows.length) (pq sure rows rows.length 0 rows.length) Wq zBL λx=>zCE.trans W5.symm;refine⟨?_,?_⟩
 ·have := (Kf Wq (zBL (sure := sure) (rows := rows) (n := rows.length) (i := 0) (k := rows.length) |>.imp λ{p q} h e => by rw [e] at h;simp [AD,TS.lexP] at h)).mpr λx => zCE.trans W5.symm
  rw[<-this.length_eq];lia
 ·unfold YZ
  rw[cJ,RH.eq_1];simp[cF,e,es]
theorem T9{sure:Int}{rows:List cX}{kds:List Kd}(hb:Bl [] rows kds):Prs rows (pq sure rows rows.length 0 rows.length):=by
 refine⟨λp h=>?_,λj d as e f i hi l g=>?_⟩
 ·obtain⟨a,b,n,m,_,rfl⟩:=W5.mp h
  exact⟨by lia,by lia,by lia⟩
 ·have c:=(Ad.mp e)
  obtain⟨k,rfl⟩:∃k:Nat,i=k:=⟨i.toNat,by lia⟩;exact W5.mpr ⟨k,j,by lia,c.1,by rw[(J1 hb (by lia) c.1).2 as (by rw[c.2];exact f),decide_eq_true hi];rfl,rfl⟩
theorem VH(c:Nat)(tb:VB)(p:cX->Bool)(fe:VF)(f:cX->cX)(δ:Ev)(g:δ.length=c):∀(ds acc:List cX),(∀d∈ds,∃a b,d=.tup [a,b]/\tb (δ++[Sl.va a,Sl.va b])=some (p d,δ++[Sl.va a,Sl.va b])/\(p d=true->fe (δ++[Sl.va a,Sl.va b])=some (f d,δ++[Sl.va a,Sl.va b])))->acc.length+ds.length<16777216->ZT c 2 (GP c (c+1)) tb fe ds acc δ=some (acc++(ds.filter p).map f,δ)
 |[],acc,_,_=>by simp
 | d :: ds,acc,h,hl => by
  obtain⟨a,b,rfl,h1,h2⟩:=h d Ap;have l:GP c (c+1) (.tup [a,b]) (δ++[Sl.no,Sl.no])=some (δ++[Sl.va a,Sl.va b]):=by
   have o:(δ++[Sl.no,Sl.no]).set c (.va a)=δ++[Sl.va a,Sl.no]:=by rw[Fb _ _ (by lia)];simp[g]
   have n:(δ++[Sl.va a,Sl.no]).set (c+1) (.va b)=δ++[Sl.va a,Sl.va b]:=by rw[Fb _ _ (by lia),g,show c+1 - c=1 by lia];rfl
   simp[o,n]
  have m:(δ++[Sl.va a,Sl.va b]).take c=δ:=by rw[Ct (by lia),Co (by lia)]
  have q:acc.length<16777216:=by simp at hl;lia
  cases i:p (.tup [a,b]) with
  |true=>
   have j:=VH c tb p fe f δ g ds (acc++[f (.tup [a,b])]) (λe k=>h e (Ao _ k)) (by simp at hl⊢;lia);have h2:=h2 i;rw[i] at h1;simp only[SO,Ug,l,LI,h1,DL,h2,DM,if_pos q,m,j];simp[i]
  |false=>
   have j:=VH c tb p fe f δ g ds acc (λe k=>h e (Ao _ k)) (by simp at hl⊢;lia);rw[i] at h1;simp only[SO,Ug,l,LI,h1,Xn,m,j];simp[i]
noncomputable def ost(ns:List Int)(n:Nat)(a:cX)(ps:List (Int×Int))(left made:List Int)(b:Sl):Ev:=
 [.va (XM ns),.ow (X7 n),.va a,.va (.lst (ps.map aZ)),.ow (.lst (left.map .int)),.ow (.lst (made.map .int)),b]
noncomputable def pw(left:List Int)(r:Int):cX->Bool
 |.tup [.int a,.int b]=>decide (b=r)&&MD (.int a) (left.map .int)
 |_=>false
theorem mX(ps:List (Int×Int))(left:List Int)(r:Int)(f:ps.length<16777216):ZT 2 2 (GP 2 3) (N8 (fB (f2 WR (fV 3) (fV 1))) (fB (f2 (aS false) (fV 2) (fO 0)))) (fC (.int 1)) (ps.map aZ) [] [.ow (.lst (left.map .int)),.va (.int r)]=some (((ps.map aZ).filter (pw left r)).map λ_=>.int 1,[.ow (.lst (left.map .int)),.va (.int r)]):=by
 have e:∀a:Int,aS false (.int a) (.lst (left.map .int))=some (.bl (MD (.int a) (left.map .int))):=λa=>by rw[M5 (j:=0) (k:=0) ZH (VQ left)];simp
 have:=VH 2 (N8 (fB (f2 WR (fV 3) (fV 1))) (fB (f2 (aS false) (fV 2) (fO 0)))) (pw left r) (fC (.int 1)) (λ_=>.int 1) [.ow (.lst (left.map .int)),.va (.int r)] rfl (ps.map aZ) [] (λd g=>by
  obtain⟨⟨a,b⟩,_,rfl⟩:=Be.mp g;refine⟨.int a,.int b,rfl,?_,λ_=>by simp⟩;have hi:=e a;have c:pw left r (aZ (a,b))=(decide (b=r)&&MD (.int a) (left.map .int)):=rfl;rw[c];generalize left.map cX.int=L at*;by_cases hb:b=r
  ·simp[hb,hi]
  ·simp[hb]) (by simpa using f)
 simpa using this
noncomputable def rdD(ps:List (Int×Int))(left:List Int):cX->Bool
 |.int r=>((ps.map aZ).filter (pw left r)).isEmpty
 |_=>false
theorem M9{x:Int}:∀{ns:List Int},x∈ns->∃j,U6 x ns=some j/\ns.eraseIdx j=ns.erase x
 | i :: ns,h => by
  unfold U6;by_cases e:i=x
  ·rw[if_pos e];exact⟨0,rfl,by simp[e]⟩
  ·rw[if_neg e]
   obtain⟨j,h1,h2⟩:=M9 (ns:=ns) (by
    rcases Ai.mp h with z|z
    ·exact absurd z.symm e
    ·exact z)
   refine⟨j+1,by rw[h1];rfl,?_⟩;rw[List.eraseIdx_cons_succ,h2,List.erase_cons_tail (by simpa using e)]
theorem jG{x:Int}{ns:List Int}(h:x∈ns):mRem (ns.map .int) [.int x]=some ((ns.erase x).map .int):=by obtain⟨j,h1,h2⟩:=M9 h;show(UR (ns.map .int)).bind (λns=>(U6 x ns).map λj=>(ns.eraseIdx j).map cX.int)=_;rw[PM,Aw,h1,Qz,h2]
theorem DR{ps:List (Int×Int)}{left:List Int}{r:Int}:rdD ps left (.int r)=true↔ ∀p∈ps,p.2=r->p.1∉left:=by
 show((ps.map aZ).filter (pw left r)).isEmpty=true↔_;rw[Po,List.filter_eq_nil_iff];constructor
 ·intro h p a b hl
  have:=h (aZ p) (Be.mpr ⟨p,a,rfl⟩);refine this ?_;show(decide (p.2=r)&&MD (.int p.1) (left.map .int))=true;rw[QQ.mpr hl,b];simp
 ·intro h d c z
  obtain⟨p,a,rfl⟩:=Be.mp c;have z:(decide (p.2=r)&&MD (.int p.1) (left.map .int))=true:=z;rw[Ag,decide_eq_true_eq,QQ] at z;exact h p a z.1 z.2
theorem dL(ps:List (Int×Int))(left:List Int)(e:ps.length<16777216)(a:left.length<16777216):ZT 2 1 (gN 2) (fB (f2 WR (ZL [1,2] 2 (U1 (fV 0)) (NX 2 (bR (gN 2) (bR (gN 3) YM))) (N8 (fB (f2 WR (fV 3) (fV 1))) (fB (f2 (aS false) (fV 2) (fO 0)))) (fC (.int 1))) (X8 bV))) (fV 2) (left.map .int) [] [.va (.lst (ps.map aZ)),.ow (.lst (left.map .int))]=some ((left.filter λr=>rdD ps left (.int r)).map .int,[.va (.lst (ps.map aZ)),.ow (.lst (left.map .int))]):=by
 have:=NT 2 (fB (f2 WR (ZL [1,2] 2 (U1 (fV 0)) (NX 2 (bR (gN 2) (bR (gN 3) YM))) (N8 (fB (f2 WR (fV 3) (fV 1))) (fB (f2 (aS false) (fV 2) (fO 0)))) (fC (.int 1))) (X8 bV))) (rdD ps left) (fV 2) id [.va (.lst (ps.map aZ)),.ow (.lst (left.map .int))] rfl (left.map .int) [] (λd b=>by
  obtain⟨r,_,rfl⟩:=Be.mp b;refine⟨?_,λ_=>by simp⟩;have w:=mX ps left r e;have c:WR (.lst (((ps.map aZ).filter (pw left r)).map λ_=>cX.int 1)) (.lst [])=some (.bl (rdD ps left (.int r))):=by
   rw[C5 (j:=1) (k:=1) (X3 λd b=>by obtain⟨_,_,rfl⟩:=Be.mp b;exact ZH) (X3 YF),JA,List.isEmpty_map]
   rfl
  generalize ((ps.map aZ).filter (pw left r)).map (λ_=>cX.int 1)=W at*;generalize rdD ps left (.int r)=B at*;generalize left.map cX.int=L at*;generalize ps.map aZ=Q at*;simp[a9,w,c]) (by simpa using a)
 rw[this,Ra];simp[Function.comp_def]
theorem oS(ns:List Int)(n:Nat)(c:cX)(ps:List (Int×Int))(left made:List Int)(l:Sl)(hl:ns.length<=63)(F:n<800000)(g:left≠[])(hs:left.Pairwise (· < ·))(h:∀p∈ps,p.1<p.2)(w:left.length<1000)(u:made.length<1000)(q:ps.length<10000):∃x∈left,(∀p∈ps,p.2=x->p.1∉left)/\∃e,ZK (ost ns n c ps left made l)=some (.nx (ost ns (n+1) c ps (left.erase x) (made++[x]) e)):=by
 have o:=dL ps left (by lia) (by lia);have B:0<((left.filter λr=>rdD ps left (.int r)).map cX.int).length:=by
  match left,g,hs with
  |a::t,_,hs=>
   have:a∈((a::t).filter λr=>rdD ps (a::t) (.int r)):=by
    refine Fy.mpr ⟨Ap,DR.mpr λp s y hi=>?_⟩;have h1:=h p s;rw[y] at h1;rcases Ai.mp hi with z|z
    ·lia
    ·have:=(Fd.mp hs).1 _ z
     lia
   rw[Cd];exact List.length_pos_of_mem this
 obtain⟨d,A,C⟩:=WZ ns n ((left.filter λr=>rdD ps left (.int r)).map .int) hl (by lia) B;obtain⟨x,m,rfl⟩:=Be.mp A;obtain⟨b,f⟩:=Fy.mp m;have v:=jG b;have i:=QE (made.map cX.int) (.int x);have j:made.length<16777216:=by lia
 refine⟨x,b,DR.mp f,.va (.lst ((left.filter λr=>rdD ps left (.int r)).map .int)),?_⟩;unfold ZK;simp only[ost,Gs,Bg,Dw];generalize (left.filter λr=>rdD ps left (.int r)).map cX.int=R at*;generalize (left.erase x).map cX.int=E at*;generalize left.map cX.int=L at*;generalize ps.map aZ=Q at*;have k:(made.map cX.int).length<16777216:=by simpa using j
 generalize made.map cX.int=D at*;simp[a9,o,C,v,i,k]
theorem C8(ns:List Int)(b:cX)(ps:List (Int×Int))(hl:ns.length<=63)(l:∀p∈ps,p.1<p.2)(h:ps.length<10000):∀(f n:Nat) (left made:List Int) (d:Sl),left.length=f->n+f<700000->left.Pairwise (· < ·)->made.length+left.length<1000->(∀p∈ps,p.1∈made∨p.1∈left)->(∀p∈ps,∀k:Nat,made[k]?=some p.2->p.1∈made.take k)->∃(order:List Int) (c:Sl),order.Perm (made++left)/\(∀p∈ps,∀k:Nat,order[k]?=some p.2->p.1∈order.take k)/\aI (fB (f2 OF (fO 4) (X8 bV))) ZK (f+1) (ost ns n b ps left made d)=some (.nx (ost ns (n+f) b ps [] order c))
 |0,n,left,made,d,o,v,hs,w,h1,h2=>by
  have:left=[]:=Ff.mp o;subst this;refine⟨made,d,by simp,h2,NQ ?_⟩;have e:OF (.lst []) (.lst [])=some (.bl false):=by rw[LC (j:=1) (k:=1) (X3 YF) (X3 YF),JA];rfl
  simp[ost,e]
 | f + 1,n,left,made,d,o,v,hs,w,h1,h2 => by
  have i:left≠[]:=λz=>by rw[z] at o;simp at o
  obtain⟨x,s,u,t,B⟩:=oS ns n b ps left made d hl (by lia) i hs l (by lia) (by lia) h;have y:=List.length_erase_of_mem s;obtain⟨order,c,o1,o2,A⟩:=C8 ns b ps hl l h f (n+1) (left.erase x) (made++[x]) t (by lia) (by lia) (hs.sublist (List.erase_sublist)) (by simp;lia) (λp a=>by
   rcases h1 p a with z|z
   ·exact .inl (Cp.mpr (.inl z))
   ·by_cases g:p.1=x
    ·exact .inl (by simp[g])
    ·exact .inr ((List.mem_erase_of_ne g).mpr z)) (λp a k m=>by
   by_cases r:k<made.length
   ·rw[Af r] at m
    rw[Ct (by lia)];exact h2 p a k m
   ·have C:=(Ad.mp m).1
    simp at C;have:k=made.length:=by lia
    subst this;simp at m;have q:=u p a m.symm;rw[Rm];exact(h1 p a).resolve_right q)
  refine⟨order,c,?_,o2,?_⟩
  ·refine o1.trans ?_
   rw[Bh,List.singleton_append];exact(List.perm_cons_erase s).symm.append_left made
  ·have e:OF (.lst (left.map .int)) (.lst [])=some (.bl true):=by
    rw[LC (j:=1) (k:=1) (X3 (VQ left)) (X3 YF),JA];cases left with
    |nil=>exact absurd rfl i
    |cons=>rfl
   rw[IC (δ1:=ost ns n b ps left made d) (by simp[ost,e]) B,A,show n+1+f=n+(f+1) by lia]
theorem A3{f:VF}{δ δ1:Ev}{j:Int}(h:f δ=some (.int j,δ1))(a:0<=j)(h1:j<=16777216):SU f δ=some (.lst (aG 0 j.toNat),δ1):=by unfold SU;rw[h,Aw];exact if_pos ⟨a,h1⟩
noncomputable def HK(k:Nat):List Int:=(Au k).map λi:Nat=>(i:Int)
theorem jS(k:Nat):aG 0 k=(HK k).map .int:=by simp[aG,HK]
theorem TD{k:Nat}{a:Int}:a∈HK k↔0<=a/\a<k:=by
 unfold HK;rw[Be];constructor
 ·rintro ⟨i,hi,rfl⟩
  have:=Cr.mp hi;lia
 ·rintro ⟨b,h1⟩
  exact⟨a.toNat,Cr.mpr (by lia),by lia⟩
theorem JU(k:Nat):(HK k).Pairwise (· < ·):=Ip _ (λa b h=>by lia) (List.pairwise_lt_range)
theorem WA(k:Nat):(HK k).length=k:=by simp[HK]
theorem HB(ns:List Int)(n:Nat){sure:Int}{rows:List cX}{kds:List Kd}(hl:ns.length<=63)(h:n<500000)(hb:Bl [] rows kds)(b:rows.length<=40):∃order:List Int,order.Perm (HK rows.length)/\(∀p∈pq sure rows rows.length 0 rows.length,∀k:Nat,order[k]?=some p.2->p.1∈order.take k)/\aY [XM ns,X7 n,.tup [.int sure,.tup rows]]=some (.lst (order.map .int),[X7 (n+rows.length)]):=by
 have P:=T9 (sure:=sure) hb;obtain⟨c,em⟩:=G0 (sure:=sure) hb b;generalize pq sure rows rows.length 0 rows.length=ps at*;obtain⟨order,g,o1,o2,e⟩:=C8 ns (.tup [.int sure,.tup rows]) ps hl (λp a=>(P.lt p a).2.1) (by lia) rows.length n (HK rows.length) [] .no (WA _) (by lia) (JU _) (by simp[WA];lia) (λp a=>.inr (TD.mpr ⟨(P.lt p a).1,by have:=P.lt p a;lia⟩)) (λp a k d=>by simp at d);refine⟨order,by simpa using o1,o2,?_⟩;have e:=LO e;simp only[ost,Dw] at e;have f:SU (f1 YJ (f2 cB (fV 2) (fC (.int 1)))) [.va (XM ns),.ow (X7 n),.va (.tup [.int sure,.tup rows]),.no,.no,.no,.no]=some (.lst ((HK rows.length).map .int),[.va (XM ns),.ow (X7 n),.va (.tup [.int sure,.tup rows]),.no,.no,.no,.no]):=by rw[<-jS,A3 (j:=(rows.length:Int)) (δ1:=[.va (XM ns),.ow (X7 n),.va (.tup [.int sure,.tup rows]),.no,.no,.no,.no]) (by simp) (by lia) (by lia)];simp
 unfold aY;rw[cJ,X1.eq_1];generalize (HK rows.length).map cX.int=L at*;generalize order.map cX.int=O at*;generalize ps.map aZ=Q at*;simp[cF,em,f,e]
theorem aB.strong{M:Int->Prop}{f:cX}(h:aB M f):∃as:List Int,(∀a∈as,M a)/\aB (· ∈as) f/\bA [f]=some (.lst (as.map .int),[]):=by
 cases h with
 | @number n e h1=>exact⟨[],(λ_ h=>nomatch h),.number e h1,by kernel_rfl⟩
 | @two x a b g d hb=>
  refine⟨[a,b],by simp[d,hb],.two g (by simp) (by simp),?_⟩;simp only[Ai,Ax,or_false] at g;rcases g with rfl|rfl|rfl|rfl|rfl|rfl|rfl<;>kernel_rfl
 | @pick c a b hc d hb=>exact⟨[c,a,b],by simp[hc,d,hb],.pick (by simp) (by simp) (by simp),by kernel_rfl⟩
 | @load p e h1=>exact⟨[],(λ_ h=>nomatch h),.load e h1,by kernel_rfl⟩
 | @take p c a e h1 hc d=>exact⟨[c,a],by simp[hc,d],.take e h1 (by simp) (by simp),by kernel_rfl⟩
 | @store p a e h1 d=>exact⟨[a],by simp[d],.store e h1 (by simp),by kernel_rfl⟩
 | @put p a c e h1 d hc=>exact⟨[a,c],by simp[d,hc],.put e h1 (by simp) (by simp),by kernel_rfl⟩
inductive CF(μ:Int->Int):cX->cX->Prop
 |number {n:Int}:CF μ (.tup [.str "number",.int n]) (.tup [.str "number",.int n])
 |two {x:String} {a b:Int}:x∈["over","plus","minus","times","least","most","less"]->CF μ (.tup [.str x,.int a,.int b]) (.tup [.str x,.int (μ a),.int (μ b)])
 |pick {c a b:Int}:CF μ (.tup [.str "pick",.int c,.int a,.int b]) (.tup [.str "pick",.int (μ c),.int (μ a),.int (μ b)])
 |load {p:Int}:CF μ (.tup [.str "load",.int p]) (.tup [.str "load",.int p])
 |take {p c a:Int}:CF μ (.tup [.str "take",.int p,.int c,.int a]) (.tup [.str "take",.int p,.int (μ c),.int (μ a)])
 |store {p a:Int}:CF μ (.tup [.str "store",.int p,.int a]) (.tup [.str "store",.int p,.int (μ a)])
 |put {p a c:Int}:CF μ (.tup [.str "put",.int p,.int a,.int c]) (.tup [.str "put",.int p,.int (μ a),.int (μ c)])
theorem FG{as:List Int}{g:cX}(h:aB (· ∈as) g){ks:List Z7}{vs:List cX}(e:Int->Int)(f:∀a∈as,bD ks vs (.inl a)=some (.int (e a))):∃k,b8 [g,.dct ks vs]=some (k,[])/\aB (λb=>∃a∈as,b=e a) k/\Q7 .w k=Q7 .w g/\CF e g k:=by
 cases h with
 | @number n j h1=>
  refine⟨_,?_,.number j h1,rfl,.number⟩;unfold b8;rw[cJ];unfold aA;simp[cF]
 | @two x a b i d hb=>
  have r:=(KQ i (y:= "number") (by decide)).1;have q:=(KQ i (y:= "load") (by decide)).2;have o:=(KQ i (y:= "take") (by decide)).2;have m:=(KQ i (y:= "store") (by decide)).2;have l:=(KQ i (y:= "put") (by decide)).2;refine⟨.tup [.str x,.int (e a),.int (e b)],?_,.two i ⟨a,d,rfl⟩ ⟨b,hb,rfl⟩,?_,.two i⟩
  ·unfold b8
   rw[cJ];unfold aA;simp[cF,r,q,o,m,l,a9,f a d,f b hb]
  ·simp only[Ai,Ax,or_false] at i
   rcases i with rfl|rfl|rfl|rfl|rfl|rfl|rfl<;>rfl
 | @pick c a b hc d hb=>
  refine⟨.tup [.str "pick",.int (e c),.int (e a),.int (e b)],?_,.pick ⟨c,hc,rfl⟩ ⟨a,d,rfl⟩ ⟨b,hb,rfl⟩,rfl,.pick⟩;unfold b8;rw[cJ];unfold aA;simp[cF,a9,f a d,f b hb,f c hc]
 | @load p j h1=>
  refine⟨.tup [.str "load",.int p],?_,.load j h1,rfl,.load⟩;unfold b8;rw[cJ];unfold aA;simp[cF,a9]
 | @take p c a j h1 hc d=>
  refine⟨.tup [.str "take",.int p,.int (e c),.int (e a)],?_,.take j h1 ⟨c,hc,rfl⟩ ⟨a,d,rfl⟩,rfl,.take⟩;unfold b8;rw[cJ];unfold aA;simp[cF,a9,f a d,f c hc]
 | @store p a j h1 d=>
  refine⟨.tup [.str "store",.int p,.int (e a)],?_,.store j h1 ⟨a,d,rfl⟩,rfl,.store⟩;unfold b8;rw[cJ];unfold aA;simp[cF,a9,f a d]
 | @put p a c j h1 d hc=>
  refine⟨.tup [.str "put",.int p,.int (e a),.int (e c)],?_,.put j h1 ⟨a,d,rfl⟩ ⟨c,hc,rfl⟩,rfl,.put⟩;unfold b8;rw[cJ];unfold aA;simp[cF,a9,f a d,f c hc]
theorem Bl.at{kds e:List Kd}{rows:List cX}(h:Bl kds rows e):∀{j:Nat} {b:cX},rows[j]?=some b->aB (λa=>Nm e .w a/\a<kds.length+j) b/\e[kds.length+j]?=some (Q7 .w b)/\∀a,Nm kds .w a->Nm e .w a:=by
 have keep:∀{k k':List Kd} {g:List cX},Bl k g k'->∀(i:Nat) (x:Kd),k[i]?=some x->k'[i]?=some x:=by
  intro k k' g h;induction h with
  |nil=>exact λ_ _ z=>z
  |cons _ _ f=>exact λi x z=>f i x (by rw[Af (Ad.mp z).1];exact z)
 induction h with
 |nil=>intro j b d;simp at d
 | @cons kds e r rows a t f=>
  intro j b d;cases j with
  |zero=>
   simp at d;subst d;refine⟨a.imp λx c=>⟨⟨c.1,keep t _ _ (c.snoc (j:=Q7 .w r)).2⟩,by have:=c.lt;lia⟩,keep t _ _ (by simp),λx c=>⟨c.1,keep t _ _ (c.snoc (j:=Q7 .w r)).2⟩⟩
  |succ j=>
   obtain⟨h1,h2,l⟩:=f (by simpa using d);rw[Cf,Ex] at h1 h2;refine⟨h1.imp λx c=>⟨c.1,by have:=c.2;lia⟩,by rw[show kds.length+(j+1)=kds.length+1+j by lia];exact h2,λx c=>l x c.snoc⟩
noncomputable def swD:cX->cX
 |.tup [a,b]=>.tup [b,a]
 |_=>.non
noncomputable def CW:Nat->List Int->List (Z7×cX)
 |_,[]=>[]
 |k,x::xs=>(.inl x,.int (k:Int))::CW (k+1) xs
theorem MY:∀(xs:List Int) (k:Nat),R0 ((Y6 k (xs.map .int)).map swD)=some (CW k xs)
 |[],_=>rfl
 |x::xs,k=>by rw[Bg,SS,Bg];show(kprD (.tup [.int x,.int (k:Int)])).bind (λp=>(R0 ((Y6 (k+1) (xs.map .int)).map swD)).map λps=>p::ps)=_;rw[MY xs (k+1)];rfl
theorem QS:∀(xs:List Int) (k:Nat),(CW k xs).map Cz=xs.map .inl
 |[],_=>rfl
 |x::xs,k=>by rw[CW,Bg,QS xs (k+1)];rfl
theorem CY:∀(xs:List Int) (k i:Nat),i<xs.length->((CW k xs).map Ec)[i]?=some (.int ((k+i:Nat):Int))
 |[],_,i,h=>by simp at h
 |x::xs,k,0,_=>rfl
 |x::xs,k,i+1,h=>by have:=CY xs (k+1) i (by simpa using h);rw[CW,Bg,List.getElem?_cons_succ,this];congr 3;lia
theorem MZ{order:List Int}(c:order.Nodup){a:Int}(d:a∈order):bD ((CW 0 order).map Cz) ((CW 0 order).map Ec) (.inl a)=some (.int (order.idxOf a:Int)):=by
 have hi:order.idxOf a<order.length:=Jx d;rw[GS _ _ (order.idxOf a) (.inl a) ?_ (by simp) ?_,CY _ _ _ hi]
 ·simp
 ·rw[QS]
  exact Ip _ (λa b h e=>h (by injection e)) c
 ·rw[QS,Cb,Bf hi,Og hi]
  rfl
noncomputable def WK(rows:List cX)(r:Int):cX:=(rows[r.toNat]?).getD .non
noncomputable def NE(rows:List cX)(names:cX):cX->cX
 |.int r=>match b8 [WK rows r,names] with
  |some (d,_)=>d
  |none=>.non
 |_=>.non
theorem N5{rows os:List cX}{names a:cX}{r:Int}(e:b8 [WK rows r,names]=some (a,os)):NE rows names (.int r)=a:=by simp only[NE,e]
noncomputable def XC(order:List Int):cX:=.dct ((CW 0 order).map Cz) ((CW 0 order).map Ec)
theorem DS{rows:List cX}{kds:List Kd}(hb:Bl [] rows kds){ps:List (Int×Int)}(P:Prs rows ps){order:List Int}(o1:order.Perm (HK rows.length))(o2:∀p∈ps,∀k:Nat,order[k]?=some p.2->p.1∈order.take k){c rest:List Int}{r:Int}(i:order=c++r::rest):∃g,b8 [WK rows r,XC order]=some (g,[])/\WU rows r=some (WK rows r)/\aB (Nm (c.map λa=>Q7 .w (WK rows a)) .w) g/\Q7 .w g=Q7 .w (WK rows r)/\CF (λa=>(order.idxOf a:Int)) (WK rows r) g:=by
 have x:order.Nodup:=o1.nodup_iff.mpr ((JU _).imp λh=>by lia);have y:r∈order:=by rw[i];simp
 have m:=TD.mp (o1.mem_iff.mp y);have l:rows[r.toNat]?=some (WK rows r):=by unfold WK;rw[Bf (by lia)];rfl
 obtain⟨h1,h2,_⟩:=hb.at l;obtain⟨as,t,a2,B⟩:=h1.strong;have s:∀a∈as,a∈c:=λa d=>by
  have f:=t a d;have C:a<r:=by have:=f.2;simp at this;lia
  have z:=P.nm r.toNat _ as l B a d f.1.1 (by lia);have:=o2 _ z c.length (by rw[i];simp;lia);rw[i,Rm] at this;exact this
 obtain⟨g,e,ok,mk,u⟩:=FG a2 (ks:=(CW 0 order).map Cz) (vs:=(CW 0 order).map Ec) (λa=>(order.idxOf a:Int)) (λa d=>MZ x (by rw[i];exact Cp.mpr (.inl (s a d))));refine⟨g,e,by rw[Y0 m.1 (by lia)];exact l,ok.imp λb o=>?_,mk,u⟩;obtain⟨a,d,rfl⟩:=o;have j:=s a d;have hi:c.idxOf a<c.length:=Jx j;have n:order.idxOf a=c.idxOf a:=by rw[i,List.idxOf_append,if_pos j]
 refine⟨by lia,?_⟩;rw[n,Dt,Cb,Bf hi,Og hi];have f:=(t a d).1;have A:=f.lt;have D:kds.length=rows.length:=by simpa using hb.len
 have v:rows[a.toNat]?=some (WK rows a):=by unfold WK;rw[Bf (by have:=f.1;lia)];rfl
 obtain⟨_,q,_⟩:=hb.at v;simp only[Gr,Gd] at q;have:=f.2;rw[q] at this;injection this with this;rw[Qz,this]
theorem FF{rows:List cX}{kds:List Kd}(hb:Bl [] rows kds){ps:List (Int×Int)}(P:Prs rows ps){order:List Int}(o1:order.Perm (HK rows.length))(o2:∀p∈ps,∀k:Nat,order[k]?=some p.2->p.1∈order.take k):∀(rest b:List Int),order=b++rest->Bl (b.map λa=>Q7 .w (WK rows a)) ((rest.map .int).map (NE rows (XC order))) (order.map λa=>Q7 .w (WK rows a))
 |[],b,c=>by rw[c,Cv];exact .nil
 |r::rest,b,c=>by obtain⟨g,e,_,ok,mk,_⟩:=DS hb P o1 o2 c;have f:=N5 e;have d:=FF hb P o1 o2 rest (b++[r]) (by rw[c,Bh];rfl);rw[Bg,Bg,f];refine .cons ok ?_;rw[mk];simpa using d
theorem lC(ns:List Int)(n:Nat)(c:Int)(hl:ns.length<=63)(hn:n<100000)(h0:0<=c)(O:c<=40):∃(sure:Int) (rows:List cX) (kds:List Kd) (o:Nat),Bl [] rows kds/\(rows.length:Int)<=c/\0<=sure/\sure<=64/\o<=n+1000/\YY [XM ns,X7 n,.int c]=some (.tup [.int sure,.tup rows],[X7 o]):=by
 obtain⟨x,s,ex⟩:=WZ ns n [.int 3,.int 6,.int 9,.int 64] hl (by lia) (by simp);obtain⟨f,rfl,H,G⟩:∃q:Int,x=.int q/\0<q/\q<=64:=by simp only[Ai,Ax,or_false] at s;rcases s with rfl|rfl|rfl|rfl<;>exact⟨_,rfl,by lia,by lia⟩
 have C:=X0 ns (n+1) (f+1) hl (by lia) (by lia);have X:=QK ns (n+1) (b:=f+1) (by lia);have W:MK ns (n+1) (f+1)<f+1:=Fe _ (by lia);obtain⟨y,p,u⟩:=WZ ns (n+2) [.int 0,.int f,.int f,.int (MK ns (n+1) (f+1))] hl (by lia) (by simp);obtain⟨sure,rfl,s0,s1⟩:∃q:Int,y=.int q/\0<=q/\q<=64:=by simp only[Ai,Ax,or_false] at p;rcases p with rfl|rfl|rfl|rfl<;>exact⟨_,rfl,by lia,by lia⟩
 have A:=X0 ns (n+3) (c+1) hl (by lia) (by lia);have m:=QK ns (n+3) (b:=c+1) (by lia);have V:MK ns (n+3) (c+1)<c+1:=Fe _ (by lia);obtain⟨rows,kds,g,hb,am,Z,Y,v⟩:=kG ns (n+4) (MK ns (n+3) (c+1)) f hl (by lia) H G m (by lia);have w:=X0 ns g 3 hl (by lia) (by decide);have k:rows.length<=40:=by lia
 by_cases t:0<MK ns g 3
 ·refine ⟨sure,rows,kds,g + 1,hb,by lia,s0,s1,by lia,?_⟩
  unfold YY;rw[cJ];unfold V8;simp[cF,ex,C,u,A,v,w,t]
 ·obtain ⟨order,o1,o2,U⟩ := HB ns (g + 1) (sure := sure) hl (by lia) hb k
  have P:=T9 (sure:=sure) hb;have L:order.length=rows.length:=by rw[o1.length_eq,WA]
  have J:order.Nodup:=o1.nodup_iff.mpr ((JU _).imp λh=>by lia);have F:=VH 0 W2 (λ_=>true) (Z9 (cT (fV 1) (cT (fV 0) bV))) swD [] rfl (Y6 0 (order.map .int)) [] (λd j=>by obtain⟨i,hi,e⟩:=Jw j;obtain⟨z,_,rfl⟩:=QL (Ad.mpr ⟨hi,e⟩);exact⟨_,_,rfl,by simp,λ_=>by simp[swD]⟩) (by rw[QM];simp;lia)
  have f1:(Y6 0 (order.map cX.int)).filter (λ_=>true)=Y6 0 (order.map .int):=Np.mpr λ_ _=>rfl;rw[f1,Dc] at F;have j:LA (.lst ((Y6 0 (order.map .int)).map swD))=some (XC order):=by
   show(R0 ((Y6 0 (order.map .int)).map swD)).bind (λkds=>if(kds.map Cz).Nodup then some (cX.dct (kds.map Cz) (kds.map Ec)) else none)=_;rw[MY,Aw,if_pos]
   ·rfl
   ·rw[QS]
    exact Ip _ (λa b h e=>h (by injection e)) J
  have E:=VJ 2 (cL 2 [] b8 (aE (f2 cB (f2 cB (fV 0) (fC (.int 1))) (fV 2)) (aE (fV 1) bY))) [.va (.tup [.int sure,.tup rows]),.va (XC order)] (NE rows (XC order)) rfl (order.map .int) [] (λd j=>by obtain⟨r,K,rfl⟩:=Be.mp j;obtain⟨I,rest,M⟩:=Kk K;obtain⟨aw,e,T,_,_,_⟩:=DS hb P o1 o2 M;have Q:=N5 e;rw[Q];simp[T,e]) (by simp;lia)
  rw[Dc] at E;have B:=FF hb P o1 o2 order [] rfl;refine⟨sure,(order.map .int).map (NE rows (XC order)),_,g+1+rows.length,B,by simp;lia,s0,s1,by lia,?_⟩;have l:¬0<MK ns g 3:=t;unfold YY;rw[cJ];unfold V8;have N:((order.map cX.int).map (NE rows (XC order))).length<=16777216:=by simp;lia
  generalize (order.map cX.int).map (NE rows (XC order))=R at*;generalize (Y6 0 (order.map cX.int)).map swD=S at*;generalize XC order=D at*;simp[cF,ex,C,u,A,v,w,l,U,a9,F,j,E]
noncomputable def isW:Kd->Bool
 |.w=>true
 |_=>false
theorem jM{kds:List Kd}{a:Int}(h:Nm kds .w a):Ab (kds.map isW) a:=⟨h.1,by rw[Cb,h.2];rfl⟩
theorem mkw{x:String}{t:List cX}:YQ [.tup (.str x::t)]=some (.bl (isW (Q7 .w (.tup (.str x::t)))),[]):=by
 unfold YQ;rw[cJ];unfold UZ;by_cases h:x= "store"
 ·subst h
  simp[cF,bI,Q7,bM,isW]
 ·by_cases h2:x= "put"
  ·subst h2
   simp[cF,bI,Q7,bM,isW]
  ·have b : ¬ "store" = x := λz => h z.symm
   have a:¬ "put"=x:=λz=>h2 z.symm;simp[cF,bI,Q7,bM,isW,h,h2,b,a]
theorem gH(rest:List cX)(c b:cX)(sure:Int){kds i:List Kd}{rows:List cX}(h:Bl kds rows i):kds.length+rows.length<1000->∀s:Sl,∃s',WY (gN 4) XY (rows++rest) [.va c,.va (.int sure),.va b,.ow (.lst ((kds.map isW).map .bl)),s]=WY (gN 4) XY rest [.va c,.va (.int sure),.va b,.ow (.lst ((i.map isW).map .bl)),s']:=by
 induction h with
 |nil=>exact λ_ s=>⟨s,rfl⟩
 | @cons kds i f rows ok h d=>
  intro j s;obtain⟨s',d⟩:=d (by simp at j⊢;lia) (.va f);refine⟨s',?_⟩;have e:=iF (ok.imp λa=>jM);obtain⟨x,t,rfl,_⟩:=Q1 ok;have g:kds.length<16777216:=by simp at j;lia
  rw[Gs,Gs] at d;simp only[Bg,Dw] at d;rw[Er,RB,GK,NC];have k:XY [.va c,.va (.int sure),.va b,.ow (.lst ((kds.map isW).map .bl)),.va (.tup (.str x::t))]=some (.nx [.va c,.va (.int sure),.va b,.ow (.lst ((kds.map isW).map .bl++[.bl (isW (Q7 .w (.tup (.str x::t))))])),.va (.tup (.str x::t))]):=by unfold XY;simp only[Fa] at e;simp[e,mkw,g,cX.hard]
  have s1:([.va c,.va (.int sure),.va b,.ow (.lst ((kds.map isW).map .bl)),s]:Ev).set 4 (.va (.tup (.str x::t)))=[.va c,.va (.int sure),.va b,.ow (.lst ((kds.map isW).map .bl)),.va (.tup (.str x::t))]:=rfl;rw[s1,k,ND];exact d
theorem MV{sure:Int}{rows:List cX}{kds:List Kd}(h:Bl [] rows kds)(s0:0<=sure)(s1:sure<=64)(r40:rows.length<=40):YX [.tup [.int sure,.tup rows]]=some (.bl true,[]):=by
 obtain⟨s',b⟩:=gH [] (.tup [.int sure,.tup rows]) (.tup rows) sure h (by simp;lia) .no;rw[Cv] at b;simp only[Dw] at b;have a:¬(40:Int)<(rows.length:Int):=by lia
 unfold YX;rw[cJ,RD.eq_1];simp[cF,TU,TR,s0,s1,a,b]
noncomputable def qK2(ix:List Nat)(nl:Nat)(r:Option (List cX×Ev))(gg:VG)(tb:VB)(c:VI)(b:VG)(a:VB)(fe:VF):Option (cX×Ev):=r.bind λp=>(W3 ix.length nl gg tb c b a fe p.1 [] (a9 ix p.2)).map λq=>(.lst q.1,ZC ix q.2 p.2)
@[simp] theorem v8{ix:List Nat}{nl:Nat}{d c:VI}{gg b:VG}{tb a:VB}{fe:VF}{δ:Ev}:PJ ix nl d gg tb c b a fe δ=qK2 ix nl (d δ) gg tb c b a fe:=(rfl)
@[simp] theorem uH{ix:List Nat}{nl:Nat}{c:VI}{gg b:VG}{tb a:VB}{fe:VF}{ds:List cX}{δ:Ev}:qK2 ix nl (some (ds,δ)) gg tb c b a fe=qKb ix δ (W3 ix.length nl gg tb c b a fe ds [] (a9 ix δ)):=(rfl)
noncomputable def prL(n:Nat):Nat->Nat->List cX
 |_,0=>[]
 |j,k+1=>(aG ((j:Int)+1) ((n:Int) - ((j:Int)+1)).toNat).map (λd=>cX.tup [.int j,d])++prL n (j+1) k
theorem Wx(n i:Int):∀(ds acc:List cX) (s:Sl),acc.length+ds.length<100000->∃s',JL (gN 2) W2 (Z9 (cT (fV 1) (cT (fV 2) bV))) ds acc [.va (.int n),.va (.int i),s]=some (acc++ds.map (λd=>cX.tup [.int i,d]),[.va (.int n),.va (.int i),s'])
 |[],acc,s,_=>⟨s,by simp[JL]⟩
 |d::ds,acc,s,hl=>by
  simp only[Bu] at hl;obtain⟨s',a⟩:=Wx n i ds (acc++[.tup [.int i,d]]) (.va d) (by simp;lia);refine⟨s',?_⟩;have b:acc.length<16777216:=by lia
  simp only[JL];simp[b,a]
theorem CL(n:Nat)(c:n<=40):∀(k j:Nat) (acc:List cX),j+k<=40->acc.length+k*40<100000->W3 1 2 (gN 1) W2 (iR2 (f2 ZM (fV 1) (fC (.int 1))) (fV 0)) (gN 2) W2 (Z9 (cT (fV 1) (cT (fV 2) bV))) (aG (j:Int) k) acc [.va (.int n)]=some (acc++prL n j k,[.va (.int n)])
 |0,j,acc,_,_=>by simp[aG,W3,prL]
 |k+1,j,acc,g,hl=>by
  have b:(aG ((j:Int)+1) ((n:Int) - ((j:Int)+1)).toNat).length<=40:=by simp[aG];lia
  obtain⟨s',e⟩:=Wx (n:Int) (j:Int) (aG ((j:Int)+1) ((n:Int) - ((j:Int)+1)).toNat) acc .no (by lia);have a:=CL n c k (j+1) (acc++(aG ((j:Int)+1) ((n:Int) - ((j:Int)+1)).toNat).map (λd=>cX.tup [.int j,d])) (by lia) (by simp;lia);have f:iR2 (f2 ZM (fV 1) (fC (.int 1))) (fV 0) [.va (.int n),.va (.int j),.no]=some (aG ((j:Int)+1) ((n:Int) - ((j:Int)+1)).toNat,[.va (.int n),.va (.int j),.no]):=Xf (δ1:=[.va (.int n),.va (.int j),.no]) rfl rfl (by lia);rw[LK];simp -implicitDefEqProofs only[W3,Ug,Er,Dc,GK,List.set_cons_succ,List.set_cons_zero,Aw,EJ,if_true,f,e,Ng,Rj];rw[show((j:Int)+1)=((j+1:Nat):Int) by push_cast;rfl] at a⊢;rw[a];simp[prL]
theorem DE(n:Nat)(a:n<=40):∀k j,(prL n j k).length<=k*40
 |0,j=>by simp[prL]
 |k+1,j=>by have:=DE n a k (j+1);simp[prL,aG];lia
theorem DF(n:Nat){d:cX}:∀k j,j+k<=n->d∈prL n j k->∃a b:Nat,d=.tup [.int a,.int b]/\a<b/\b<n
 |0,j,_,h=>by simp[prL] at h
 | k + 1,j,g,h => by
  rcases Cp.mp h with h|h
  ·obtain⟨e,c,rfl⟩:=Be.mp h
   unfold aG at c;obtain⟨q,f,rfl⟩:=Be.mp c;have:=Cr.mp f;exact⟨j,j+1+q,by push_cast;rfl,by lia,by lia⟩
  ·exact DF n k (j+1) (by lia) h
noncomputable def styB(sure:Int)(rows:List cX):cX->Bool
 |.tup [a,b]=>cbO (Z6 [.tup [.int sure,.tup rows],a,b])
 |_=>false
theorem Wb{sure:Int}{rows:List cX}{n:Nat}:∀k j:Nat,j+k<=n->(prL n j k).filter (styB sure rows)=(pq sure rows n j k).map aZ
 |0,j,_=>rfl
 |k+1,j,h=>by
  have e:pq sure rows n j (k+1)=((Hj (j+1) (n - (j+1))).filter λb=>mS sure rows (j:Nat) (b:Nat)).map (λb=>(((j:Nat):Int),((b:Nat):Int)))++pq sure rows n (j+1) k:=by unfold pq;rw[Lr,Pc]
  have a:aG ((j:Int)+1) ((n:Int) - ((j:Int)+1)).toNat=(Hj (j+1) (n - (j+1))).map λb:Nat=>cX.int b:=by rw[show((n:Int) - ((j:Int)+1)).toNat=n - (j+1) by lia];unfold aG;rw[List.range'_eq_map_range,Fa];refine Dq λb _=>?_;simp only[Je];congr 1
  rw[e,Gs,<-Wb k (j+1) (by lia)];show((aG ((j:Int)+1) ((n:Int) - ((j:Int)+1)).toNat).map (λd=>cX.tup [.int j,d])++prL n (j+1) k).filter _=_;rw[List.filter_append,a,Fa,Ra,Fa];rfl
theorem C2{sure:Int}{rows:List cX}{kds:List Kd}(hb:Bl [] rows kds)(s0:0<=sure)(s1:sure<=64)(r40:rows.length<=40):WF [.tup [.int sure,.tup rows]]=some (.lst ((pq sure rows rows.length 0 rows.length).map aZ),[]):=by
 have l:=MV hb s0 s1 r40;have e:=CL rows.length r40 rows.length 0 [] (by lia) (by simp;lia);have c:=VH 1 (fB (cL 3 [] Z6 (aE (fV 0) (aE (fV 1) (aE (fV 2) bY))))) (styB sure rows) (Z9 (cT (fV 1) (cT (fV 2) bV))) id [.va (.tup [.int sure,.tup rows])] rfl (prL rows.length 0 rows.length) [] (λd h=>by obtain⟨a,b,rfl,h1,h2⟩:=DF rows.length rows.length 0 (by lia) h;have g:=(J1 (sure:=sure) hb (i:=a) (j:=b) (by lia) h2).1;refine⟨_,_,rfl,?_,λ_=>by simp⟩;simp -implicitDefEqProofs [g,styB,cbO]) (by have:=DE rows.length r40 rows.length 0;simp;lia)
 simp only[Dc,Nh] at e c;rw[show((0:Nat):Int)=0 from rfl] at e;rw[Wb _ _ (by lia)] at c;have k:YR [.tup [.int sure,.tup rows]]=some (.lst ((pq sure rows rows.length 0 rows.length).map aZ),[]):=by
  unfold YR;rw[cJ];unfold U0;have f:(-4611686018427387904:Int)<=rows.length/\(rows.length:Int)<4611686018427387904:=by lia
  simp -implicitDefEqProofs [cF,a9,f,e,c]
 unfold WF;rw[cJ];unfold EW;simp -implicitDefEqProofs [cF,l,k]
theorem CF.names{e:Int->Int}{d f:cX}(h:CF e d f):∃as:List Int,as.length=AU f/\bA [d]=some (.lst (as.map .int),[])/\Z1 [f]=some (.lst ((as.map e).map .int),[])/\bA [f]=some (.lst ((as.map e).map .int),[])/\∀sure rows g,(∀b∈as,BV ((WU g (e b)).getD .non)=BV ((WU rows b).getD .non))->UN sure g f=UN sure rows d:=by
 cases h with
 |number=>exact⟨[],by kernel_rfl,by kernel_rfl,by kernel_rfl,by kernel_rfl,λ_ _ _ _=>rfl⟩
 | @two x a b i=>
  have j:¬OQ x:=λz=>by
   rcases z with rfl|rfl|rfl|rfl<;>simp at i
  refine⟨[a,b],?_,?_,?_,?_,λsure rows g h=>?_⟩;rotate_right
  ·show(if E6 (Am x)=true then _ else if Am x=Am "over" then !BV ((WU g (e b)).getD .non) else false)=(if E6 (Am x)=true then _ else if Am x=Am "over" then !BV ((WU rows b).getD .non) else false)
   rw[G8 j,h b (by simp)];simp only[Dx,if_false]
  all_goals
   simp only[Ai,Ax,or_false] at i;rcases i with rfl|rfl|rfl|rfl|rfl|rfl|rfl<;>kernel_rfl
 | @pick c a b=>exact⟨[c,a,b],by kernel_rfl,by kernel_rfl,by kernel_rfl,by kernel_rfl,λ_ _ _ _=>by kernel_rfl⟩
 |load=>exact⟨[],by kernel_rfl,by kernel_rfl,by kernel_rfl,by kernel_rfl,λ_ _ _ _=>rfl⟩
 | @take p c a=>exact⟨[c,a],by kernel_rfl,by kernel_rfl,by kernel_rfl,by kernel_rfl,λ_ _ _ _=>by kernel_rfl⟩
 | @store p a=>exact⟨[a],by kernel_rfl,by kernel_rfl,by kernel_rfl,by kernel_rfl,λ_ _ _ _=>by kernel_rfl⟩
 | @put p a c=>exact⟨[a,c],by kernel_rfl,by kernel_rfl,by kernel_rfl,by kernel_rfl,λ_ _ _ _=>by kernel_rfl⟩
theorem CF.same{l:Int->Int}{c e:cX}(h:CF l c e):P8 e=P8 c/\plD e=plD c/\BV e=BV c/\Q7 .w e=Q7 .w c/\∀zs,EF e zs=EF c zs:=by
 cases h with
 | @two x a b d=>
  have m:¬OQ x:=λz=>by
   rcases z with rfl|rfl|rfl|rfl<;>simp at d
  have f:=(KQ d (y:= "number") (by decide)).1;refine⟨rfl,?_,?_,?_,λzs=>?_⟩
  ·rw[LF,LF,G8 m]
   rfl
  ·show(decide (Am x=Am "number") && _)=(decide (Am x=Am "number") && _)
   rw[decide_eq_false (F2 f)];rfl
  ·simp only[Ai,Ax,or_false] at d
   rcases d with rfl|rfl|rfl|rfl|rfl|rfl|rfl<;>rfl
  ·have k := (KQ d (y := "load") (by decide)).1
   have j:=(KQ d (y:= "take") (by decide)).1;have i:=(KQ d (y:= "store") (by decide)).1;have g:=(KQ d (y:= "put") (by decide)).1;rw[KC f k j i g,KC f k j i g]
 |pick=>
  refine⟨rfl,by kernel_rfl,by kernel_rfl,rfl,λzs=>?_⟩;rw[KC (by decide) (by decide) (by decide) (by decide) (by decide),KC (by decide) (by decide) (by decide) (by decide) (by decide)]
 |_=>exact⟨rfl,rfl,rfl,rfl,λ_=>rfl⟩
noncomputable def J5(W:Nat->Int)(i:Nat):cX->Nat->Int
 |.int w,k=>if k=i then w else W k
 |_,k=>W k
inductive Out
 |dn (W:Nat->Int) (cs:List Int)
 |ft (i:Nat) (s:String) (cs:List Int)
section
variable(R:Nat->cX)(N:Nat->List Nat)
noncomputable def TM(i:Nat)(W:Nat->Int):VA:=EF (R i) ((N i).map W)
noncomputable def VM:List Nat->(Nat->Int)->List Int->Out
 |[],W,a=>.dn W a
 |i::l,W,a=>match(TM R N i W).go a with
  |some (m,cs1)=>VM l (J5 W i m) cs1
  |none=>.ft i (TM R N i W).why a
end
theorem W4{R:Nat->cX}{N:Nat->List Nat}{i:Nat}{l:List Nat}{W:Nat->Int}{a cs1:List Int}{m:cX}(h:(TM R N i W).go a=some (m,cs1)):VM R N (i::l) W a=VM R N l (J5 W i m) cs1:=by
 show(match(TM R N i W).go a with
  |some (m,cs1)=>VM R N l (J5 W i m) cs1
  |none=>.ft i (TM R N i W).why a)=_
 rw[h]
theorem V5{R:Nat->cX}{N:Nat->List Nat}{i:Nat}{l:List Nat}{W:Nat->Int}{a:List Int}(h:(TM R N i W).go a=none):VM R N (i::l) W a=.ft i (TM R N i W).why a:=by
 show(match(TM R N i W).go a with
  |some (m,cs1)=>VM R N l (J5 W i m) cs1
  |none=>.ft i (TM R N i W).why a)=_
 rw[h]
def Vt(A B:VA):Prop:=∀p q:Int,((∃u,A=.wr p u)/\(B=.rd q∨∃v,B=.wr q v)∨(∃u,B=.wr q u)/\A=.rd p)->p.toNat≠q.toNat
theorem VA.keep{A:VA}{a cs1:List Int}{m:cX}(h:A.go a=some (m,cs1)):(cs1=a/\∀p u,A≠ .wr p u)∨∃p u,A=.wr p u/\p.toNat<a.length/\cs1=a.set p.toNat u/\m=.non:=by
 cases A with
 |val w=>cases h;exact .inl ⟨rfl,λ_ _ z=>by cases z⟩
 |nop=>cases h;exact .inl ⟨rfl,λ_ _ z=>by cases z⟩
 |bad=>cases h
 |rd p=>
  have h:(a[p.toNat]?).map (λw=>(cX.int w,a))=some (m,cs1):=h;cases e:a[p.toNat]? with
  |none=>rw[e] at h;cases h
  |some w=>rw[e] at h;cases h;exact .inl ⟨rfl,λ_ _ z=>by cases z⟩
 |wr p u=>
  have h:(if p.toNat<a.length then some (cX.non,a.set p.toNat u) else none)=some (m,cs1):=h;split at h
  ·cases h;exact .inr ⟨p,u,rfl,by assumption,rfl,rfl⟩
  ·cases h
theorem VA.len{A:VA}{a cs1:List Int}{m:cX}(h:A.go a=some (m,cs1)):cs1.length=a.length:=by
 rcases VA.keep h with⟨rfl,_⟩|⟨p,u,_,_,rfl,_⟩
 ·rfl
 ·exact Bz
theorem VA.other{A:VA}{a:List Int}{p:Nat}{u:Int}(h:∀q,(A=.rd q∨∃v,A=.wr q v)->p≠q.toNat):A.go (a.set p u)=(A.go a).map λr=>(r.1,r.2.set p u):=by
 cases A with
 |val w=>rfl
 |nop=>rfl
 |bad=>rfl
 |rd q=>
  show((a.set p u)[q.toNat]?).map _=((a[q.toNat]?).map _).map _;rw[Ca (h q (.inl rfl))];cases a[q.toNat]? <;>rfl
 |wr q v=>
  show(if q.toNat<(a.set p u).length then some (cX.non,(a.set p u).set q.toNat v) else none)=(if q.toNat<a.length then some (cX.non,a.set q.toNat v) else none).map _;rw[Bz];split
  ·rw[Ek _ _ (h q (.inr ⟨v,rfl⟩))];rfl
  ·rfl
theorem kK{A B:VA}(h:Vt A B){d cs1 a:List Int}{m k:cX}(h1:A.go d=some (m,cs1))(h2:B.go d=some (k,a)):∃b,B.go cs1=some (k,b)/\A.go a=some (m,b):=by
 rcases VA.keep h1 with⟨rfl,g⟩|⟨p,u,rfl,c,rfl,rfl⟩
 ·rcases VA.keep h2 with⟨rfl,_⟩|⟨q,v,rfl,_,rfl,_⟩
  ·exact⟨_,h2,h1⟩
  ·refine⟨_,h2,?_⟩
   rw[VA.other λp c=>?_,h1]
   ·rfl
   ·rcases c with rfl|⟨u,e⟩
    ·exact Dn (h p q (.inr ⟨⟨v,rfl⟩,rfl⟩))
    ·exact absurd e (g _ _)
 ·refine⟨a.set p.toNat u,?_,?_⟩
  ·rw [VA.other λq f => h p q (.inl ⟨⟨u,rfl⟩,f⟩),h2]
   rfl
  ·exact if_pos (by rw[VA.len h2];exact c)
structure Vs(sure:Int)(R:Nat->cX)(W:Nat->Int)(cs:List Int):Prop where
 wd:∀k,Wd (W k)
 num:∀k (n:Int),R k=.tup [.str "number",.int n]->W k=n
 len:sure<=cs.length
 ok:∀c∈cs,Wd c
structure EC(sure:Int)(R:Nat->cX)(N:Nat->List Nat)(can:Nat->Bool)(i:Nat):Prop where
 fit:∀W:Nat->Int,(∀k,Wd (W k))->∃(x:String) (p:Int) (t:List cX),R i=.tup (.str x:: .int p::t)/\F3 x p ((N i).map W) (TM R N i W)
 safe:∀W cs,Vs sure R W cs->can i=false->(TM R N i W).go cs≠none
structure Ind(R:Nat->cX)(N:Nat->List Nat)(can:Nat->Bool)(i j:Nat):Prop where
 ne:i≠j
 n1:i∉N j
 n2:j∉N i
 sh:shT (R i) (R j)=false
 cc:¬(can i=true/\can j=true)
 cw:¬(can i=true/\P8 (R j)=true)
 wc:¬(can j=true/\P8 (R i)=true)
theorem G1{N:Nat->List Nat}{i j:Nat}{W:Nat->Int}{m:cX}(h:i∉N j):(N j).map (J5 W i m)=(N j).map W:=by
 refine Dq λk a=>?_;unfold J5;split
 ·exact if_neg λ(z:k=i)=>h (z▸a)
 ·rfl
theorem lY{W:Nat->Int}{i j:Nat}{m k:cX}(h:i≠j):J5 (J5 W i m) j k=J5 (J5 W j k) i m:=by funext a;unfold J5;split<;>split<;>(try split)<;>(try split)<;>(try rfl)<;>lia
theorem JE{x:String}{p:Int}{t:List cX}{zs:List Int}{A:VA}(h:F3 x p zs A):(∀q,A=.rd q->plD (.tup (.str x:: .int p::t))=some q/\0<=q)/\(∀q u,A=.wr q u->plD (.tup (.str x:: .int p::t))=some q/\0<=q/\P8 (.tup (.str x:: .int p::t))=true):=by
 refine⟨λq e=>?_,λq u e=>?_⟩
 ·subst e
  obtain⟨rfl,a,h1⟩:=h;rw[LF,C6 (by rcases h1 with rfl|rfl<;>simp[OQ])];exact⟨rfl,a⟩
 ·subst e
  obtain⟨rfl,a,_,h1⟩:=h;rw[LF,C6 (by rcases h1 with rfl|rfl<;>simp[OQ])];refine⟨rfl,a,?_⟩;rcases h1 with rfl|rfl<;>simp[P8,bM]
theorem lU{r s:cX}{A B:VA}{x y:String}{p q:Int}{t u:List cX}{zs ws:List Int}(i:r=.tup (.str x:: .int p::t))(es:s=.tup (.str y:: .int q::u))(f:F3 x p zs A)(d:F3 y q ws B)(h:shT r s=false):Vt A B:=by
 subst i es;have fa:=JE (t:=t) f;have fb:=JE (t:=u) d;intro p' j c e;have key:∀a b,plD (.tup (.str x:: .int p::t))=some a->plD (.tup (.str y:: .int q::u))=some b->0<=a->0<=b->(P8 (.tup (.str x:: .int p::t)) || P8 (.tup (.str y:: .int q::u)))=true->a.toNat≠b.toNat:=λa b h1 h2 m l g k=>by
  unfold shT at h;rw[h1,h2] at h;have:a=b:=by lia
  simp[this,g] at h
 rcases c with⟨⟨v,rfl⟩,rfl|⟨w,rfl⟩⟩|⟨⟨v,rfl⟩,rfl⟩
 ·exact key _ _ (fa.2 _ _ rfl).1 (fb.1 _ rfl).1 (fa.2 _ _ rfl).2.1 (fb.1 _ rfl).2 (by rw[(fa.2 _ _ rfl).2.2];rfl) e
 ·exact key _ _ (fa.2 _ _ rfl).1 (fb.2 _ _ rfl).1 (fa.2 _ _ rfl).2.1 (fb.2 _ _ rfl).2.1 (by rw[(fa.2 _ _ rfl).2.2];rfl) e
 ·exact key _ _ (fa.1 _ rfl).1 (fb.2 _ _ rfl).1 (fa.1 _ rfl).2 (fb.2 _ _ rfl).2.1 (by rw[(fb.2 _ _ rfl).2.2,Sj]) e
section
variable{sure:Int}{R:Nat->cX}{N:Nat->List Nat}{can:Nat->Bool}
theorem Vs.step{i:Nat}{W:Nat->Int}{b cs1:List Int}{m:cX}(V:Vs sure R W b)(G:EC sure R N can i)(h:(TM R N i W).go b=some (m,cs1))(f:∀n:Int,R i=.tup [.str "number",.int n]->m=.int n):Vs sure R (J5 W i m) cs1:=by
 obtain⟨x,p,t,e,F⟩:=G.fit W V.wd;refine⟨λk=>?_,λk n d=>?_,by rw[VA.len h];exact V.len,λc hc=>?_⟩
 ·unfold J5
  split
  ·split
   ·rename_i w _
    generalize TM R N i W=A at*;cases A with
    |val v=>cases h;exact F.1
    |nop=>cases h
    |bad=>cases h
    |rd q=>
     have h:(b[q.toNat]?).map (λw=>(cX.int w,b))=some (.int w,cs1):=h;cases a:b[q.toNat]? with
     |none=>rw[a] at h;cases h
     |some v=>rw[a] at h;cases h;exact V.ok _ (Bv a)
    |wr q u=>
     rcases VA.keep h with⟨_,z⟩|⟨_,_,_,_,_,z⟩
     ·exact absurd rfl (z _ _)
     ·cases z
   ·exact V.wd k
  ·exact V.wd k
 ·unfold J5
  split
  ·split
   ·rename_i g
    subst g;have:=f n d;cases this;rfl
   ·exact V.num k n d
  ·exact V.num k n d
 ·rcases VA.keep h with⟨rfl,_⟩|⟨q,u,a,_,rfl,_⟩
  ·exact V.ok c hc
  ·rcases Hg hc with z|z
   ·exact V.ok c z
   ·rw[a] at F
    rw[z];exact F.2.2.1
theorem mL{n:Int}{zs:List Int}:EF (.tup [.str "number",.int n]) zs=.val n:=by show Q8 _ _ _=_;unfold Q8;rw[if_pos rfl]
theorem Ve{i:Nat}{W:Nat->Int}{a cs1:List Int}{m:cX}(h:(TM R N i W).go a=some (m,cs1))(n:Int)(e:R i=.tup [.str "number",.int n]):m=.int n:=by unfold TM at h;rw[e,mL] at h;cases h;rfl
theorem swap{i j:Nat}(s:EC sure R N can i)(c:EC sure R N can j)(I:Ind R N can i j){l:List Nat}{W:Nat->Int}{a:List Int}(V:Vs sure R W a):VM R N (i::j::l) W a=VM R N (j::i::l) W a:=by
 have h:∀m,TM R N j (J5 W i m)=TM R N j W:=λm=>by unfold TM;rw[G1 I.n1]
 have n:∀m,TM R N i (J5 W j m)=TM R N i W:=λm=>by unfold TM;rw[G1 I.n2]
 obtain⟨x,p,t,D,B⟩:=s.fit W V.wd;obtain⟨y,q,u,C,v⟩:=c.fit W V.wd;have K:=lU D C B v I.sh;have o:∀{A:VA} {x:String} {p:Int} {t:List cX} {zs cs1:List Int} {m:cX} {r:cX},r=.tup (.str x:: .int p::t)->F3 x p zs A->A.go a=some (m,cs1)->¬P8 r=true->cs1=a:=λ{A x p t zs cs1 m r} e f g w=>by
  rcases VA.keep g with⟨z,_⟩|⟨q,u,H,_⟩
  ·exact z
  ·rw[e] at w
   exact absurd ((JE (t:=t) f).2 q u H).2.2 w
 cases h1:(TM R N i W).go a with
 |some r=>
  obtain⟨m,cs1⟩:=r;cases h2:(TM R N j W).go a with
  |some r=>
   obtain⟨k,b⟩:=r;obtain⟨J,G,F⟩:=kK K h1 h2;rw[W4 h1,W4 (by rw[h];exact G),W4 h2,W4 (by rw[n];exact F),lY I.ne]
  |none=>
   have d:can j=true:=by
    cases e:can j with
    |true=>rfl
    |false=>exact absurd h2 (c.safe W a V e)
   have:cs1=a:=o D B h1 λw=>I.wc ⟨d,w⟩;subst this;rw[W4 h1,V5 (by rw[h];exact h2),V5 h2,h]
 |none=>
  have E:can i=true:=by
   cases e:can i with
   |true=>rfl
   |false=>exact absurd h1 (s.safe W a V e)
  cases h2:(TM R N j W).go a with
  |some r=>
   obtain⟨k,b⟩:=r;have:b=a:=o C v h2 λw=>I.cw ⟨E,w⟩;subst this;rw[V5 h1,W4 h2,V5 (by rw[n];exact h1),n]
  |none=>
   have d:can j=true:=by
    cases e:can j with
    |true=>rfl
    |false=>exact absurd h2 (c.safe W a V e)
   exact absurd ⟨E,d⟩ I.cc
theorem Vi{x:Nat}(c:EC sure R N can x){v:List Nat}:∀(u:List Nat) (W:Nat->Int) (a:List Int),(∀y∈u,EC sure R N can y/\Ind R N can y x)->Vs sure R W a->VM R N (u++x::v) W a=VM R N (x::(u++v)) W a
 |[],W,a,_,_=>rfl
 | y :: u,W,a,h,V => by
  obtain⟨b,I⟩:=h y Ap;rw[Er,Er,<-swap b c I V];cases e:(TM R N y W).go a with
  |none=>rw[V5 e,V5 e]
  |some r=>
   obtain⟨m,cs1⟩:=r;rw[W4 e,W4 e];exact Vi c u _ _ (λz d=>h z (Ao _ d)) (V.step b e (Ve e))
theorem KY{D:Nat->Nat->Prop}{n:Nat}(o:∀a b,a<n->b<n->a≠b->¬D a b->¬D b a->Ind R N can a b):∀(d f:List Nat) (W:Nat->Int) (c:List Int),f.Perm d->d.Nodup->(∀a∈d,a<n/\EC sure R N can a)->f.Pairwise (λa b=>¬D b a)->d.Pairwise (λa b=>¬D b a)->Vs sure R W c->VM R N f W c=VM R N d W c
 |[],f,W,c,p,_,_,_,_,_=>by rw[List.perm_nil.mp p]
 | x :: t,f,W,c,p,l,g,h1,h2,V => by
  obtain⟨u,v,rfl⟩:=Kk (p.mem_iff.mpr Ap);have j:=p.nodup_iff.mpr l;have s:=(g x Ap).2;rw[Vi s u W c (λy k=>by
   have h:y∈x::t:=p.mem_iff.mp (Cp.mpr (.inl k));have i:y≠x:=λz=>by subst z;exact(Ow.mp j).2.2 y k y Ap rfl
   have q:=g y h;refine⟨q.2,o y x q.1 (g x Ap).1 i ?_ ?_⟩
   ·exact(Fd.mp h2).1 y ((Ai.mp h).resolve_left i)
   ·exact(Eo.mp h1).2.2 y k x Ap) V]
  have pt:(u++v).Perm t:=(List.perm_cons x).mp (List.perm_middle.symm.trans p);cases e:(TM R N x W).go c with
  |none=>rw[V5 e,V5 e]
  |some r=>
   obtain⟨m,cs1⟩:=r;rw[W4 e,W4 e];exact KY o t (u++v) _ _ pt (Cw.mp l).2 (λa w=>g a (Ao _ w)) (h1.sublist (List.Sublist.append_left (List.sublist_cons_self x v) u)) (Fd.mp h2).2 (V.step s e (Ve e))
end
theorem GB{sure:Int}{rows:List cX}{kds:List Kd}(h:Bl [] rows kds)(s0:0<=sure)(s1:sure<=64)(r40:rows.length<=40){a:List Int}(b:∀c∈a,Wd c)(hs:sure<=a.length)(d:a.length<=64):X9 [.tup [.int sure,.tup rows],.lst (a.map .int)]=some (.non,[]):=by have f:=MV h s0 s1 r40;have e:=dP b hs d;unfold X9;rw[cJ];unfold TZ;simp[cF,f,e]
noncomputable def D0(e:cX)(f:List cX)(ws:List cX)(a b c d:Sl):Ev:=
 [.va e,.ow (.lst f),.ow (.lst ws),a,b,c,d]
theorem gD{e:cX}{f ws:List cX}{a b c d:Sl}{i r:cX}:GP 3 4 (.tup [i,r]) (D0 e f ws a b c d)=some (D0 e f ws (.va i) (.va r) c d):=by simp[D0]
theorem fE{a:cX}{x:String}{p:Int}{t:List cX}{zs:List Int}(g:a=.tup (.str x:: .int p::t)){A:VA}(F:F3 x p zs A){b cs1:List Int}{m:cX}(d:∀c∈b,Wd c)(h:A.go b=some (m,cs1))(f:Q7 .w a=.w):∃w,Wd w/\m=.int w:=by
 subst g;have hw:¬x= "store" /\¬x= "put":=⟨λz=>by subst z;simp[Q7,bM] at f,λz=>by subst z;simp[Q7,bM] at f⟩;cases A with
 |val v=>cases h;exact⟨v,F.1,rfl⟩
 |nop=>exact absurd F hw.2
 |bad=>cases h
 |rd q=>
  have h:(b[q.toNat]?).map (λw=>(cX.int w,b))=some (m,cs1):=h;cases e:b[q.toNat]? with
  |none=>rw[e] at h;cases h
  |some v=>rw[e] at h;cases h;exact⟨v,d _ (Bv e),rfl⟩
 |wr q u=>exact(F.2.2.2.elim (absurd · hw.1) (absurd · hw.2))
structure Sm(R:Nat->cX)(N:Nat->List Nat)(π:Nat->Int)(row:cX)(i:Nat):Prop where
 nm:Z1 [row]=some (.lst (((N i).map π).map .int),[])
 ac:∀zs,EF row zs=EF (R i) zs
def ResX(π:Nat->Int)(e:cX):Out->Option Ou->Prop
 |.dn _ f,r=>∃ws a b c d,r=some (.nx (D0 e (f.map .int) ws a b c d))
 |.ft i s f,r=>∃ws a b c d,r=some (.rt (.tup [.lst ws,.tup [.int (π i),.str s]]) (D0 e (f.map .int) ws a b c d))
theorem mD{ws:List cX}{m:cX}{a:Int}(b:0<=a)(h:a<ws.length):wv (ws++[m]) a=wv ws a:=by unfold wv;rw[Y0 b (by simp;lia),Y0 b h,Af (by lia)]
theorem simX{R:Nat->cX}{N:Nat->List Nat}{π:Nat->Int}{kds ao:List Kd}{D:List cX}(h:Bl kds D ao): ∀(l g:List Nat) (ws:List cX) (W:Nat->Int) (o:List Int),D.length=l.length->(∀(k:Nat) r i,D[k]? =some r->l[k]? =some i->Sm R N π r i)->(∀(k:Nat) (i:Nat),(g++l)[k]? =some i->π i=k)->kds.length=g.length->(∀u i v,g++l=u++i::v-> ∀a∈N i,a∈u)->Ws kds ws->(∀a∈g,Nm kds .w (π a)->wv ws (π a)=W a)->(∀c∈o,Wd c)->kds.length+D.length<1000->∀n a b c d,ResX π n (VM R N l W o) (WY (GP 3 4) YC (Y6 kds.length D) (D0 n (o.map .int) ws a b c d)):=by
 induction h with
 | @nil kds=>
  intro l g ws W o hl _ _ _ _ _ _ _ _ n a b c d;obtain rfl:l=[]:=Ff.mp hl.symm;exact⟨ws,a,b,c,d,by simp[Y6]⟩
 | @cons kds ao f D ok h K=>
  intro l g ws W o hl hS y hp hN J hW s M n a b c d;match l,hl with
  |i::l,hl=>
   simp only[Bu] at M hl;have S:=hS 0 f i rfl rfl;obtain⟨as,hM,H,_,P⟩:=U3 ok;have I:as=(N i).map π:=T7 (by have:=P.symm.trans S.nm;simpa using this);have A:ws.length<16777216:=by rw[J.len];lia
   have Q:as.map (wv ws)=(N i).map W:=by rw[I,Fa];refine Dq λa C=>hW a (hN g i l rfl a C) (hM _ (by rw[I];exact Be.mpr ⟨a,C,rfl⟩))
   have O:=F1 (d:=.lst ws) (ws:=ws) (as:=as) (by rw[H];exact nP _) λa C=>by rw[gO];exact(J.word (hM a C)).1
   obtain⟨x,p,t,er,F,st⟩:=HW ok (as.map (wv ws)) (by simpa using H) (λw hw=>by obtain⟨q,hq,rfl⟩:=Be.mp hw;exact(J.word (hM q hq)).2)
   have ea:EF f (as.map (wv ws))=TM R N i W:=by unfold TM;rw[S.ac,Q]
   rw[ea] at F st;have st:=st o s;have E:π i=kds.length:=by rw[y g.length i (by simp),hp]
   rw[SS,RB,gD,NC];cases e:(TM R N i W).go o with
   |none=>
    rw[e] at st;have st:J8 f (as.map (wv ws)) o .non (.str (TM R N i W).why) o:=st;unfold J8 at st;rw[V5 e];have e1:YC (D0 n (o.map .int) ws (.va (.int kds.length)) (.va f) c d)=some (.rt (.tup [.lst ws,.tup [.int kds.length,.str (TM R N i W).why]]) (D0 n (o.map .int) ws (.va (.int kds.length)) (.va f) (.va .non) (.va (.str (TM R N i W).why)))):=by generalize as.map (wv ws)=zs at O st;unfold YC;simp[D0,P,a9,O,st]
    rw[e1,Zm];exact⟨ws,_,_,_,_,by rw[E]⟩
   |some r=>
    obtain⟨m,cs1⟩:=r;rw[e] at st;have st:J8 f (as.map (wv ws)) o m .non cs1:=st;unfold J8 at st;rw[W4 e];have e1:YC (D0 n (o.map .int) ws (.va (.int kds.length)) (.va f) c d)=some (.nx (D0 n (cs1.map .int) (ws++[m]) (.va (.int kds.length)) (.va f) (.va m) (.va .non))):=by generalize as.map (wv ws)=zs at O st;unfold YC;simp[D0,P,a9,O,st,A]
    have hw:=fE er F s e;have K:=K l (g++[i]) (ws++[m]) (J5 W i m) cs1 (by lia) (λk r j h1 h2=>hS (k+1) r j (by simpa using h1) (by simpa using h2)) (by simpa using y) (by simp;lia) (by simpa using hN) (J.snoc hw) (λa C L=>?_) (λc hc=>?_) (by simp;lia) n (.va (.int kds.length)) (.va f) (.va m) (.va .non)
    ·rw[Cf,Ex] at K
     rw[e1,ND];exact K
    ·have U:=L.lt
     have h0:=L.1;have A:=J.len;rw[Cf,Ex] at U;by_cases B:π a=kds.length
     ·have V:Q7 .w f= .w:=by have:=L.2;rw[B,Dt] at this;simpa using this
      obtain⟨w,_,rfl⟩:=hw V;have Z:a=i:=by
       rcases Cp.mp C with z|z
       ·obtain⟨k,M⟩:=Ez.mp z
        have X:=(Ad.mp M).1;have:=y k a (by rw[Af X];exact M);lia
       ·exact Bb.mp z
      subst Z;unfold wv;rw[B,Y0 (by lia) (by simp;lia),Dt,<-A];simp[J5]
     ·have G : a ≠ i := λz => by subst z;exact B E
      have Y:a∈g:=by
       rcases Cp.mp C with z|z
       ·exact z
       ·exact absurd (Bb.mp z) G
      have T:Nm kds .w (π a):=⟨h0,by have:=L.2;rwa[Af (by lia)] at this⟩;rw[mD h0 (by lia),hW a Y T];unfold J5;split
      ·rw[if_neg G]
      ·rfl
    ·rcases VA.keep e with⟨rfl,_⟩|⟨q,u,e2,_,rfl,_⟩
     ·exact s c hc
     ·rcases Hg hc with z|z
      ·exact s c z
      ·rw[e2] at F
       rw[z];exact F.2.2.1
noncomputable def GJ(π:Nat->Int):Out->cX
 |.dn _ _=>.non
 |.ft i s _=>.tup [.int (π i),.str s]
noncomputable def ES:Out->List Int
 |.dn _ a=>a
 |.ft _ _ a=>a
theorem Vh{sure:Int}{rows:List cX}{kds:List Kd}(h:Bl [] rows kds)(s0:0<=sure)(s1:sure<=64)(r40:rows.length<=40){b:List Int}(d:∀c∈b,Wd c)(hs:sure<=b.length)(p:b.length<=64){R:Nat->cX}{N:Nat->List Nat}{π:Nat->Int}{l:List Nat}(W:Nat->Int)(hl:rows.length=l.length)(m:∀(k:Nat) r i,rows[k]?=some r->l[k]?=some i->Sm R N π r i)(f:∀(k:Nat) (i:Nat),l[k]?=some i->π i=k)(n:∀u i v,l=u++i::v->∀a∈N i,a∈u):QA [.tup [.int sure,.tup rows],.lst (b.map .int)]=some (.tup [.lst ((ES (VM R N l W b)).map .int),GJ π (VM R N l W b)],[]):=by
 have q:=GB h s0 s1 r40 d hs p;have A:=simX (R:=R) (N:=N) (π:=π) h l [] [] W b hl m (by simpa using f) rfl (by simpa using n) .nil (λ_ h=>nomatch h) d (by simp;lia) (.tup rows) .no .no .no .no;have g:∃ws,XG [.tup rows,.lst (b.map .int)]=some (.tup [.lst ws,GJ π (VM R N l W b)],[.lst ((ES (VM R N l W b)).map .int)]):=by
  generalize VM R N l W b=o at*;cases o with
  |dn z j=>
   obtain⟨ws,y,x,w,t,e⟩:=A;simp only[D0,Gr] at e;refine⟨ws,?_⟩;unfold XG;rw[cJ,SV.eq_1];simp[cF,e,GJ,ES]
  |ft i s j=>
   obtain⟨ws,y,x,w,t,e⟩:=A;simp only[D0,Gr] at e;refine⟨ws,?_⟩;unfold XG;rw[cJ,SV.eq_1];simp[cF,e,GJ,ES]
 obtain⟨ws,g⟩:=g;unfold QA;rw[cJ];unfold Ua;simp[cF,q,g]
noncomputable def nmO:Option (cX×List cX)->List Nat
 |some (.lst ds,_)=>ds.map λd=>match d with
  |.int a=>a.toNat
  |_=>0
 |_=>[]
noncomputable abbrev WE(rows:List cX)(k:Nat):cX:=(rows[k]?).getD .non
noncomputable def RP(rows:List cX)(k:Nat):List Nat:=nmO (bA [WE rows k])
noncomputable abbrev toI(l:List Nat):List Int:=l.map λa:Nat=>(a:Int)
section
variable{sure:Int}{rows:List cX}{kds:List Kd}
theorem DV{k:Nat}(a:k<rows.length):rows[k]?=some (WE rows k):=by unfold WE;rw[Bf a];rfl
theorem VU(hb:Bl [] rows kds){k:Nat}(f:k<rows.length):bA [WE rows k]=some (.lst ((toI (RP rows k)).map .int),[])/\Z1 [WE rows k]=some (.lst ((toI (RP rows k)).map .int),[])/\(RP rows k).length=AU (WE rows k)/\aB (λa=>Nm kds .w a/\a<k) (WE rows k)/\∀a∈RP rows k,a<k:=by
 obtain⟨ok,_,_⟩:=hb.at (DV f);have ok:aB (λa=>Nm kds .w a/\a<k) (WE rows k):=ok.imp λa h=>⟨h.1,by have:=h.2;simp only[Gr] at this;lia⟩;obtain⟨as,d,hc,h1,h2⟩:=U3 ok;have c:RP rows k=as.map Rb:=by unfold RP;rw[h1];show(as.map cX.int).map _=_;rw[Fa];rfl
 have g:toI (RP rows k)=as:=by rw[c];unfold toI;rw[Fa];refine(Dq λa b=>?_).trans (Nh as);have:=(d a b).1.1;simp only[Je,id];lia
 rw[g];refine⟨h1,h2,by rw[c,Cd,hc],ok,λa b=>?_⟩;rw[c] at b;obtain⟨z,e,rfl⟩:=Be.mp b;have:=d z e;have:=this.1.1;lia
noncomputable abbrev cnN(sure:Int)(rows:List cX)(k:Nat):Bool:=UN sure rows (WE rows k)
theorem Yp(hb:Bl [] rows kds){k:Nat}(J:k<rows.length):EC sure (WE rows) (RP rows) (cnN sure rows) k:=by
 obtain⟨h1,_,hc,ok,I⟩:=VU hb J;have m:∀W:Nat->Int,(∀k,Wd (W k))->∃(x:String) (p:Int) (t:List cX),WE rows k=.tup (.str x:: .int p::t)/\F3 x p ((RP rows k).map W) (TM (WE rows) (RP rows) k W):=λW L=>by
  obtain⟨x,p,t,e,F,_⟩:=HW ok ((RP rows k).map W) (by simpa using hc) (λw hw=>by obtain⟨a,_,rfl⟩:=Be.mp hw;exact L a)
  exact⟨x,p,t,e,F⟩
 refine⟨m,λW s V d=>?_⟩;obtain⟨x,p,t,e,F⟩:=m W V.wd;have o:OQ x->p<sure:=λf=>by unfold cnN at d;rw[e] at d;have:(if E6 (Am x)=true then decide (sure<=p) else _)=false:=d;rw[C6 f,if_pos rfl] at this;have:=of_decide_eq_false this;lia
 have hl:=V.len;generalize P:TM (WE rows) (RP rows) k W=A at F;cases A with
 |val v=>exact λz=>by cases z
 |nop=>exact λz=>by cases z
 |rd q=>
  obtain⟨rfl,M,f⟩:=F;have:=o (by rcases f with rfl|rfl<;>simp[OQ]);show(s[q.toNat]?).map _≠none;rw[Bf (show q.toNat<s.length by lia)];exact λz=>by cases z
 |wr q u=>
  obtain⟨rfl,M,_,f⟩:=F;have:=o (by rcases f with rfl|rfl<;>simp[OQ]);show(if q.toNat<s.length then some (cX.non,s.set q.toNat u) else none)≠none;rw[if_pos (by lia)];exact λz=>by cases z
 |bad=>
  obtain⟨rfl,u,h⟩:=F;obtain⟨N,a,as,E,B⟩:=ok.ints;rw[E] at e;simp only[cX.tup.injEq,Hz,cX.str.injEq,cX.int.injEq,bM] at e;obtain⟨rfl,rfl,_⟩:=e;obtain⟨b,rfl,D,K⟩:=B rfl;have Q:=D.1;have i:toI (RP rows k)=[a,b]:=T7 (by
   rw[E] at h1;have h2:bA [.tup (.str "over":: .int a::[b].map .int)]=some (.lst ([a,b].map .int),[]):=by kernel_rfl
   have:=h1.symm.trans h2;simpa using this)
  obtain⟨r,c,G⟩:∃r c:Nat,RP rows k=[r,c]/\(c:Int)=b:=by
   generalize RP rows k=l at i;match l,i with
   |[r,c],i=>simp[toI] at i;exact⟨r,c,rfl,i.2⟩
  obtain⟨C,rfl⟩:=G;rw[C] at h;have h:W c=0:=by simp at h;exact h.2
  have j:c<rows.length:=by lia
  unfold cnN at d;rw[E] at d;have d:(if E6 (Am "over")=true then decide (sure<=a) else if Am "over"=Am "over" then !BV ((WU rows (c:Int)).getD .non) else false)=false:=d;rw[G8 (by unfold OQ;decide),if_neg (by decide),if_pos rfl,TQ (DV j)] at d;have hs:BV (WE rows c)=true:=by simpa using d
  obtain⟨_,_,_,g,_⟩:=VU hb j;generalize H:WE rows c=O at hs g;cases g with
  | @number n _ _=>
   have hw:=V.num c n H;rw[h] at hw;simp[BV,<-hw] at hs
  |two f _ _=>simp[BV,bM,(KQ f (y:= "number") (by decide)).1] at hs
  |_=>simp[BV,bM] at hs
theorem HR{r s:cX}:shT r s=shT s r:=by
 unfold shT;cases plD r with
 |none=>cases plD s<;>rfl
 |some p=>
  cases plD s with
  |none=>rfl
  |some q=>
   show(decide (p=q)&&(P8 r || P8 s))=(decide (q=p)&&(P8 s || P8 r));rw[Sk,decide_eq_decide.mpr (eq_comm (a:=p) (b:=q))]
theorem gY{r s:cX}:B0 sure rows r s=B0 sure rows s r:=by unfold B0;rw[HR,Bool.and_comm];congr 2;exact Sk _ _
def Dm(sure:Int)(rows:List cX)(a b:Nat):Prop:=a<b/\b<rows.length/\mS sure rows a b=true
theorem K8(hb:Bl [] rows kds){a b:Nat}(g:a<rows.length)(d:b<rows.length):mS sure rows a b=(decide (a∈RP rows b) || B0 sure rows (WE rows a) (WE rows b)):=by
 have h:=(J1 (sure:=sure) hb g d).2 (toI (RP rows b)) (by
  have e:rows[b]=WE rows b:=by unfold WE;rw[Bf d];rfl
  rw[e];exact(VU hb d).1)
 rw[h];have e:∀{k:Nat} (f:k<rows.length),rows[k]=WE rows k:=λ{k} f=>by unfold WE;rw[Bf f];rfl
 rw[e,e];congr 1;refine decide_eq_decide.mpr ⟨λh=>?_,λh=>Be.mpr ⟨a,h,rfl⟩⟩;obtain⟨c,hc,e⟩:=Be.mp h;obtain rfl:c=a:=by lia
 exact hc
theorem gZ(hb:Bl [] rows kds)(a b:Nat)(k:a<rows.length)(c:b<rows.length)(d:a≠b)(h1:¬Dm sure rows a b)(h2:¬Dm sure rows b a):Ind (WE rows) (RP rows) (cnN sure rows) a b:=by
 have key:∀a b:Nat,a<b->b<rows.length->¬Dm sure rows a b->Ind (WE rows) (RP rows) (cnN sure rows) a b:=λa b g c h=>by
  have i:mS sure rows a b=false:=by
   cases e:mS sure rows a b with
   |false=>rfl
   |true=>exact absurd ⟨g,c,e⟩ h
  rw[K8 hb (by lia) c,Mw] at i;obtain⟨j,f⟩:=i;unfold B0 at f;simp only[Mw,Bool.and_eq_false_iff] at f;obtain⟨o,n,m,l⟩:=f;refine⟨by lia,of_decide_eq_false j,λz=>?_,n,λ⟨x,y⟩=>?_,λ⟨x,y⟩=>?_,λ⟨x,y⟩=>?_⟩
  ·have := (VU hb (show a < rows.length by lia)).2.2.2.2 b z
   lia
  ·rcases o with z|z
   ·exact absurd (x.symm.trans z) (by decide)
   ·exact absurd (y.symm.trans z) (by decide)
  ·rcases m with z|z
   ·exact absurd (x.symm.trans z) (by decide)
   ·exact absurd (y.symm.trans z) (by decide)
  ·rcases l with z|z
   ·exact absurd (x.symm.trans z) (by decide)
   ·exact absurd (y.symm.trans z) (by decide)
 rcases Nat.lt_or_gt_of_ne d with h|h
 ·exact key a b h c h1
 ·have I:=key b a h k h2
  exact⟨d,I.n2,I.n1,by rw[HR];exact I.sh,λz=>I.cc z.symm,I.wc,I.cw⟩
noncomputable def w0(rows:List cX)(k:Nat):Int:=match WE rows k with
 |.tup [.str x,.int n]=>if x=Am "number" then n else 0
 |_=>0
theorem vs_0(hb:Bl [] rows kds){b:List Int}(h1:sure<=b.length)(h2:∀c∈b,Wd c):Vs sure (WE rows) (w0 rows) b:=by
 refine⟨λk=>?_,λk n e=>?_,h1,h2⟩
 ·have z : Wd 0 := ⟨by decide,by decide⟩
  unfold w0;split
  ·rename_i x n e
   split
   ·rename_i d
    by_cases h:k<rows.length
    ·obtain⟨_,_,_,ok,_⟩:=VU hb h
     rw[e,d] at ok;generalize a:cX.tup [.str (Am "number"),.int n]=r at ok;cases ok with
     | @number m g f=>simp at a;rw[a];exact⟨g,f⟩
     |two d _ _=>simp at a
     |load=>simp[bM] at a
     |_=>simp at a
    ·unfold WE at e
     rw[Bq (by lia)] at e;cases e
   ·exact z
  ·exact z
 ·unfold w0
  rw[e];exact if_pos rfl
end
theorem GG{R:Nat->cX}{N:Nat->List Nat}{i:Nat}{s:String}{b:List Int}:∀{l:List Nat} {W:Nat->Int} {a:List Int},VM R N l W a=.ft i s b->i∈l
 |[],W,a,h=>by cases h
 |j::l,W,a,h=>by
  cases e:(TM R N j W).go a with
  |none=>rw[V5 e] at h;cases h;exact Ap
  |some r=>rw[W4 (m:=r.1) (cs1:=r.2) e] at h;exact Ao _ (GG h)
section
variable{sure:Int}{rows:List cX}{kds:List Kd}(hb:Bl [] rows kds){order:List Int}(o1:order.Perm (HK rows.length))(o2:∀p∈pq sure rows rows.length 0 rows.length,∀k:Nat,order[k]?=some p.2->p.1∈order.take k)
noncomputable abbrev oJ(order:List Int):List Nat:=order.map Rb
noncomputable abbrev pO(order:List Int)(a:Nat):Int:=(order.idxOf (a:Int):Nat)
noncomputable abbrev bN(rows:List cX)(order:List Int):List cX:=(order.map cX.int).map (NE rows (XC order))
include o1 in
theorem o_nd:order.Nodup:=o1.nodup_iff.mpr ((JU _).imp λh=>by lia)
include o1 in
theorem UP{k i:Nat}(h:(oJ order)[k]?=some i):order[k]?=some (i:Int)/\i<rows.length/\pO order i=k/\k<rows.length:=by
 unfold oJ at h;rw[Cb] at h;cases e:order[k]? with
 |none=>rw[e] at h;cases h
 |some r=>
  rw[e] at h;cases h;have d:=TD.mp (o1.mem_iff.mp (Bv e));have b:=(Ad.mp e);have a:((r.toNat:Nat):Int)=r:=by lia
  have c:order.length=rows.length:=by rw[o1.length_eq,WA]
  refine⟨by rw[a],by lia,?_,by have:=b.1;lia⟩;unfold pO;rw[a,<-b.2,(o_nd o1).idxOf_getElem k b.1]
include o1 in
theorem G7{i:Nat}(h:i<rows.length):∃k:Nat,(oJ order)[k]?=some i:=by have a:(i:Int)∈order:=o1.mem_iff.mpr (TD.mpr ⟨by lia,by lia⟩);obtain⟨k,b⟩:=Ez.mp a;exact⟨k,by unfold oJ;rw[Cb,b];simp⟩
include hb o1 o2
theorem q_at{k i:Nat}(h:(oJ order)[k]?=some i):(bN rows order)[k]?=some (WE (bN rows order) k)/\CF (λa=>(order.idxOf a:Int)) (WE rows i) (WE (bN rows order) k):=by
 obtain⟨e,hi,m,n⟩:=UP o1 h;have b:=Ad.mp e;have g:order=order.take k++(i:Int)::order.drop (k+1):=by rw[<-b.2,<-Cq b.1,Dr]
 obtain⟨d,l,_,_,_,f⟩:=DS hb (T9 (sure:=sure) hb) o1 o2 g;have c:(bN rows order)[k]?=some d:=by unfold bN;rw[Cb,Cb,e];show some (NE rows (XC order) (.int i))=_;rw[N5 l]
 have j:WE (bN rows order) k=d:=by unfold WE;rw[c];rfl
 rw[j];refine⟨c,?_⟩;have:WK rows (i:Int)=WE rows i:=by unfold WK WE;rw[Dt]
 rw[<-this];exact f
theorem q_bl:∃k',Bl [] (bN rows order) k':=⟨_,FF hb (T9 (sure:=sure) hb) o1 o2 order [] rfl⟩
theorem HH:(bN rows order).length=rows.length:=by simp[bN];rw[o1.length_eq,WA]
theorem JR{k i:Nat}(h:(oJ order)[k]?=some i):Z1 [WE (bN rows order) k]=some (.lst (((RP rows i).map (pO order)).map .int),[])/\bA [WE (bN rows order) k]=some (.lst (((RP rows i).map (pO order)).map .int),[])/\UN sure (bN rows order) (WE (bN rows order) k)=UN sure rows (WE rows i):=by
 obtain⟨e,hi,w,x⟩:=UP o1 h;obtain⟨y,o⟩:=q_at hb o1 o2 h;obtain⟨as,_,r,m,l,q⟩:=o.names;have n:as=toI (RP rows i):=T7 (by have:=r.symm.trans (VU hb hi).1;simpa using this);have t:as.map (λa=>(order.idxOf a:Int))=(RP rows i).map (pO order):=by rw[n,Fa];rfl
 rw[t] at m l;refine⟨m,l,q sure rows _ λb g=>?_⟩;rw[n] at g;obtain⟨c,hc,rfl⟩:=Be.mp g;have u:=(VU hb hi).2.2.2.2 c hc;obtain⟨s,f⟩:=G7 o1 (show c<rows.length by lia);obtain⟨_,j,d,_⟩:=UP o1 f;obtain⟨v,p⟩:=q_at hb o1 o2 f;have d:(order.idxOf (c:Int):Int)=s:=d;rw[d,TQ v,TQ (DV j)];exact p.same.2.2.1
theorem q_ms{k j a b:Nat}(f:(oJ order)[k]?=some a)(i:(oJ order)[j]?=some b):mS sure (bN rows order) k j=(decide (a∈RP rows b) || B0 sure rows (WE rows a) (WE rows b)):=by
 obtain⟨k',B⟩:=q_bl hb o1 o2;have hl:=HH hb o1 o2;obtain⟨_,z,g,v⟩:=UP o1 f;obtain⟨_,l,t,u⟩:=UP o1 i;rw[K8 B (by lia) (by lia)];obtain⟨C,p⟩:=q_at hb o1 o2 f;obtain⟨A,o⟩:=q_at hb o1 o2 i;have y:=(JR hb o1 o2 f).2.2;obtain⟨_,q,x⟩:=JR hb o1 o2 i;have s1:=p.same;have m:=o.same;have hs:B0 sure (bN rows order) (WE (bN rows order) k) (WE (bN rows order) j)=B0 sure rows (WE rows a) (WE rows b):=by unfold B0 shT;rw[y,x,s1.1,m.1,s1.2.1,m.2.1]
 rw[hs];congr 1;have n:toI (RP (bN rows order) j)=(RP rows b).map (pO order):=T7 (by have:=(VU B (show j<(bN rows order).length by lia)).1.symm.trans q;simpa using this)
 refine decide_eq_decide.mpr ⟨λh=>?_,λh=>?_⟩
 ·have h2:(k:Int)∈toI (RP (bN rows order) j):=Be.mpr ⟨k,h,rfl⟩
  rw[n] at h2;obtain⟨c,hc,e⟩:=Be.mp h2;have w:=(VU hb l).2.2.2.2 c hc;obtain⟨r,d⟩:=G7 o1 (show c<rows.length by lia);have s:=(UP o1 d).2.2.1;obtain rfl:r=k:=by lia
  rw[f] at d;cases d;exact hc
 ·have h2:(k:Int)∈(RP rows b).map (pO order):=Be.mpr ⟨a,h,g⟩
  rw[<-n] at h2;obtain⟨c,hc,e⟩:=Be.mp h2;obtain rfl:c=k:=by lia
  exact hc
theorem o_lt{a b k j:Nat}(h:Dm sure rows a b)(f:(oJ order)[k]?=some a)(g:(oJ order)[j]?=some b):k<j:=by have d:((a:Int),(b:Int))∈pq sure rows rows.length 0 rows.length:=W5.mpr ⟨a,b,h.1,h.2.1,h.2.2,rfl⟩;have e:=o2 _ d j (UP o1 g).1;obtain⟨w,hw⟩:=Ez.mp e;have c:=(Ad.mp hw).1;rw[Bt] at c;rw[Cc (by lia)] at hw;have i:=(UP o1 f).1;have h1:=Ad.mp hw;have h2:=Ad.mp i;have:w=k:=(Ln (o_nd o1)).mp (h1.2.trans h2.2.symm);lia
theorem DC{x:Int×Int}(h:x∈pq sure rows rows.length 0 rows.length):∃a b k j:Nat,x=((a:Int),(b:Int))/\pO order a=k/\pO order b=j/\k<j/\((k:Int),(j:Int))∈pq sure (bN rows order) (bN rows order).length 0 (bN rows order).length:=by
 obtain⟨a,b,h1,h2,f,rfl⟩:=W5.mp h;obtain⟨k,e⟩:=G7 o1 (show a<rows.length by lia);obtain⟨j,d⟩:=G7 o1 h2;have c:=o_lt hb o1 o2 ⟨h1,h2,f⟩ e d;refine⟨a,b,k,j,rfl,(UP o1 e).2.2.1,(UP o1 d).2.2.1,c,W5.mpr ⟨k,j,c,?_,?_,rfl⟩⟩
 ·rw[HH hb o1 o2];exact(UP o1 d).2.2.2
 ·rw[q_ms hb o1 o2 e d,<-K8 hb (by lia) h2];exact f
theorem Zy:(pq sure (bN rows order) (bN rows order).length 0 (bN rows order).length).length=(pq sure rows rows.length 0 rows.length).length:=by
 have t:∀{sure:Int} {rows:List cX} {n:Nat},(pq sure rows n 0 n).Nodup:=λ{sure rows n}=>zBL.imp λ{p q} h e=>by rw[e] at h;simp[AD,TS.lexP] at h
 have E:((pq sure rows rows.length 0 rows.length).map λx=>(pO order x.1.toNat,pO order x.2.toNat)).Perm (pq sure (bN rows order) (bN rows order).length 0 (bN rows order).length):=by
  refine(Kf ?_ t).mpr λx=>⟨λh=>?_,λh=>?_⟩
  ·refine Io.mpr (t.imp_of_mem λ{x y} A i m e => m ?_)
   obtain⟨a,b,k,j,rfl,h1,h2,_,_⟩:=DC hb o1 o2 A;obtain⟨O,N,k',P,rfl,J,I,_,_⟩:=DC hb o1 o2 i;have D:=congrArg Cz e;have C:=congrArg Ec e;simp only[Dt] at D C;have inj:∀c d:Nat,c<rows.length->d<rows.length->pO order c=pO order d->c=d:=λc d hc H R=>by
    obtain⟨u,B⟩:=G7 o1 hc;obtain⟨v,l⟩:=G7 o1 H;have:=(UP o1 B).2.2.1;have:=(UP o1 l).2.2.1;obtain rfl:u=v:=by lia
    rw[B] at l;exact Bw l
   obtain⟨c,d,T,S,_,K⟩:=W5.mp A;obtain⟨U,d',M,L,_,s⟩:=W5.mp i;simp only[Sa] at K s;rw[inj a O (by lia) (by lia) D,inj b N (by lia) (by lia) C]
  ·obtain⟨y,i,rfl⟩:=Be.mp h
   obtain⟨a,b,k,j,rfl,h1,h2,_,g⟩:=DC hb o1 o2 i;simp only[Dt,h1,h2];exact g
  ·obtain⟨k,j,h1,h2,g,rfl⟩:=W5.mp h
   rw[HH hb o1 o2] at h2;have F:order.length=rows.length:=by rw[o1.length_eq,WA]
   have get:∀k:Nat,k<rows.length->∃a,(oJ order)[k]?=some a:=λk Q=>⟨_,Bf (by simp[oJ];lia)⟩;obtain⟨a,r⟩:=get k (by lia);obtain⟨b,f⟩:=get j h2;obtain⟨_,al,pa,_⟩:=UP o1 r;obtain⟨_,bl,pb,_⟩:=UP o1 f;rw[q_ms hb o1 o2 r f] at g;have o:a<b:=by
    rcases Nat.lt_trichotomy a b with z|z|z
    ·exact z
    ·subst z
     lia
    ·have G : ¬ a ∈ RP rows b := λw => by have:=(VU hb bl).2.2.2.2 a w;lia
     rw[decide_eq_false G,Nx,gY] at g;have:=o_lt hb o1 o2 (a:=b) (b:=a) ⟨z,al,by rw[K8 hb bl al,g,Sj]⟩ f r;lia
   refine Be.mpr ⟨((a:Int),(b:Int)),W5.mpr ⟨a,b,o,bl,by rw[K8 hb al bl];exact g,rfl⟩,?_⟩;simp only[Dt,pa,pb]
 rw[<-E.length_eq,Cd]
theorem BS(s0:0<=sure)(s1:sure<=64)(r40:rows.length<=40){m:List Int}(l:∀c∈m,Wd c)(hs:sure<=m.length)(E:m.length<=64):∃o:Out,(∀i s c,o=.ft i s c->i<rows.length)∧QA [.tup [.int sure,.tup rows],.lst (m.map .int)]=some (.tup [.lst ((ES o).map .int),GJ (λa=>(a:Int)) o],[])∧QA [.tup [.int sure,.tup (bN rows order)],.lst (m.map .int)]=some (.tup [.lst ((ES o).map .int),GJ (pO order) o],[]):=by
 have I:order.length=rows.length:=by rw[o1.length_eq,WA]
 have hl:=HH hb o1 o2;obtain⟨k',B⟩:=q_bl hb o1 o2;have g:(Au rows.length).Perm (oJ order):=by
  have:=o1.map Rb;have e:(HK rows.length).map Rb=Au rows.length:=by unfold HK;rw[Fa];exact(Dq λa _=>by simp).trans (Nh _)
  rw[e] at this;exact this.symm
 have t:(oJ order).Nodup:=g.nodup_iff.mp List.nodup_range;have C:∀a∈oJ order,a<rows.length:=λa d=>Cr.mp (g.mem_iff.mpr d);have V:=vs_0 (sure:=sure) hb hs l;have ex:=KY (sure:=sure) (R:=WE rows) (N:=RP rows) (can:=cnN sure rows) (D:=Dm sure rows) (n:=rows.length) (λa b d A x h1 h2=>gZ hb a b d A x h1 h2) (oJ order) (Au rows.length) (w0 rows) m g t (λa d=>⟨C a d,Yp hb (C a d)⟩) (List.pairwise_lt_range.imp λ{a b} h z=>by have:=z.1;lia) (Hf.mpr λu v q G H z=>by have:=o_lt hb o1 o2 z (Bf G) (Bf q);lia) V
 refine⟨VM (WE rows) (RP rows) (Au rows.length) (w0 rows) m,λi s c e=>Cr.mp (GG e),?_,?_⟩
 ·refine Vh hb s0 s1 r40 l hs E (w0 rows) (by simp) (λk r i h1 h2 => ?_) (λk i h => ?_) (λu i v h a d => ?_)
  ·have f:=(Ad.mp h1).1
   rw[Hk f] at h2;cases h2;have:r=WE rows k:=by rw[DV f] at h1;exact(Bw h1).symm
   subst this;exact⟨(VU hb f).2.1,λ_=>rfl⟩
  ·have f:=(Ad.mp h).1
   rw[Ha] at f;rw[Hk f] at h;cases h;rfl
  ·have w:u.length<rows.length:=by have:=congrArg List.length h;simp at this;lia
   have hi:i=u.length:=by
    have:(Au rows.length)[u.length]?=some i:=by rw[h];simp
    rw[Hk w] at this;exact(Bw this).symm
   have p:=(VU hb (show i<rows.length by lia)).2.2.2.2 a d;have q:(Au rows.length)[a]?=some a:=Hk (by lia);rw[h,Af (by lia)] at q;exact Bv q
 ·rw[ex]
  refine Vh B s0 s1 (by lia) l hs E (w0 rows) (by rw[hl];simp[oJ];lia) (λk r i h1 h2=>?_) (λk i h=>(UP o1 h).2.2.1) (λu i v h a d=>?_)
  ·obtain⟨J,F⟩:=q_at hb o1 o2 h2
   rw[J] at h1;cases h1;exact⟨(JR hb o1 o2 h2).1,F.same.2.2.2.2⟩
  ·have hi : (oJ order)[u.length]? = some i := by rw [h];simp
   have j:=(UP o1 hi).2.1;have p:=(VU hb j).2.2.2.2 a d;obtain⟨k,f⟩:=G7 o1 (show a<rows.length by lia);have y:=o_lt hb o1 o2 (a:=a) (b:=i) ⟨p,j,by rw[K8 hb (by lia) j,decide_eq_true d];rfl⟩ f hi;rw[h,Af y] at f;exact Bv f
end
theorem CS{d:cX}(a:L8 d d=true):∀{ds:List cX},d∈ds->MD d ds=true
 |e::ds,h=>by
  rw[CQ];rcases Ai.mp h with rfl|h
  ·simp[a]
  ·simp[CS a h]
end L2
namespace RR
open PySem L2
noncomputable abbrev s7(ns:List Int)(n:Nat)(i ord dct j:cX)(a b c d e f g h:Sl):Ev:=[.va (XM ns),.ow (X7 n),.va i,.va ord,.va dct,.va j,a,b,c,d,e,f,g,h]
theorem QX{p:Int×Int}:RS 1 (aZ p):=SZ (aK ZH (aK ZH YF))
section
variable{sure:Int}{rows:List cX}{kds:List Kd}(hb:Bl [] rows kds){order:List Int}(o1:order.Perm (HK rows.length))(o2:∀p∈pq sure rows rows.length 0 rows.length,∀k:Nat,order[k]?=some p.2->p.1∈order.take k)(s0:0<=sure)(s1:sure<=64)(r40:rows.length<=40)
include hb o1 o2 s0 s1 r40
theorem FV(ns:List Int)(hl:ns.length<=63)(n:Nat)(y:n<10000)(dct:cX)(a b c d e f g h:Sl):∃(j:Nat) (d' K F g' h':Sl),j<=n+67/\IL (s7 ns n (.tup [.int sure,.tup rows]) (.lst (order.map .int)) dct (.tup [.int sure,.tup (bN rows order)]) a b c d e f g h)=some (.nx (s7 ns j (.tup [.int sure,.tup rows]) (.lst (order.map .int)) dct (.tup [.int sure,.tup (bN rows order)]) a b c d' K F g' h')):=by
 obtain⟨p,j,u,h1,h2,E,J⟩:=eD ns n sure hl y s0 s1;obtain⟨o,hi,I,H⟩:=BS hb o1 o2 s0 s1 r40 u h1 h2;have t:RS 1 (.lst ((ES o).map .int)):=X3 (VQ (k:=0) _);have l:=LC t t;rw[QN t,Oh] at l;have r:RS 1 (GJ (λa=>(a:Int)) o):=by
  cases o with
  |dn=>exact QW
  |ft i s=>exact SZ (aK ZH (aK YV YF))
 have m:=LC r r;rw[QN r,Oh] at m;refine⟨j,.va (.lst (p.map .int)),.va (.lst ((ES o).map .int)),.va (GJ (λa=>(a:Int)) o),.va (.lst ((ES o).map .int)),.va (GJ (λa=>(a:Int)) o),E,?_⟩;have B:XB (fB (f2 UA (fV 13) (fC .non))) (Z3 13 (xV (Z9 (cT (f2 cB (fV 3) (f2 cB (fV 13) (fC (.int 0)))) (cT (f2 cB (fV 13) (fC (.int 1))) bV))))) Z2 (s7 ns j (.tup [.int sure,.tup rows]) (.lst (order.map .int)) dct (.tup [.int sure,.tup (bN rows order)]) a b c (.va (.lst (p.map .int))) (.va (.lst ((ES o).map .int))) (.va (GJ (λa=>(a:Int)) o)) (.va (.lst ((ES o).map .int))) (.va (GJ (pO order) o)))=some (.nx (s7 ns j (.tup [.int sure,.tup rows]) (.lst (order.map .int)) dct (.tup [.int sure,.tup (bN rows order)]) a b c (.va (.lst (p.map .int))) (.va (.lst ((ES o).map .int))) (.va (GJ (λa=>(a:Int)) o)) (.va (.lst ((ES o).map .int))) (.va (GJ (λa=>(a:Int)) o)))):=by
  generalize (ES o).map cX.int=C;generalize p.map cX.int=D;generalize bN rows order=Q;cases o with
  |dn=>simp[s7,GJ]
  |ft i s w=>
   obtain⟨k,z⟩:=G7 o1 (hi i s w rfl);obtain⟨G,_,x,_⟩:=UP o1 z;have A:WU (order.map cX.int) (pO order i)=some (.int i):=by rw[x];exact TQ (by rw[Cb,G];rfl)
   simp only[GJ];generalize pO order i=q at*;generalize order.map cX.int=O at*;simp[s7,A]
 generalize GJ (λa=>(a:Int)) o=f1 at*;generalize GJ (pO order) o=v at*;generalize (ES o).map cX.int=C at*;generalize p.map cX.int=D at*;generalize bN rows order=Q at*;unfold IL;refine YK (δ1:=s7 ns j (.tup [.int sure,.tup rows]) (.lst (order.map .int)) dct (.tup [.int sure,.tup Q]) a b c (.va (.lst D)) e f g h) (by simp[s7,J]) ?_;refine YK (δ1:=s7 ns j (.tup [.int sure,.tup rows]) (.lst (order.map .int)) dct (.tup [.int sure,.tup Q]) a b c (.va (.lst D)) (.va (.lst C)) (.va f1) g h) (by simp[s7,I]) ?_;refine YK (δ1:=s7 ns j (.tup [.int sure,.tup rows]) (.lst (order.map .int)) dct (.tup [.int sure,.tup Q]) a b c (.va (.lst D)) (.va (.lst C)) (.va f1) (.va (.lst C)) (.va v)) (by simp[s7,H]) ?_;refine YK B ?_;simp[s7,l,m]
theorem Wn(ns:List Int)(hl:ns.length<=63)(n:Nat)(c d e f g h:Sl){o:cX}(E:WF [o]=some (.lst ((pq sure (bN rows order) (bN rows order).length 0 (bN rows order).length).map aZ),[])):∀(ps:List (Int×Int)) (a b:Sl),(∀p∈ps,p∈pq sure rows rows.length 0 rows.length)->∃w v:Sl,WY (GP 6 7) NS (ps.map aZ) (s7 ns n (.tup [.int sure,.tup rows]) (.lst (order.map .int)) (XC order) o a b c d e f g h)=some (.nx (s7 ns n (.tup [.int sure,.tup rows]) (.lst (order.map .int)) (XC order) o w v c d e f g h))
 |[],a,b,_=>⟨a,b,by simp⟩
 | p :: ps,a,b,m => by
  obtain⟨i,j,k,l,rfl,q,r,H,s⟩:=DC hb o1 o2 (m p Ap);obtain⟨w,v,F⟩:=Wn ns hl n c d e f g h E ps (.va (.int i)) (.va (.int j)) λp G=>m p (Ao _ G);refine⟨w,v,?_⟩;obtain⟨x,y,q1,q2,_,q3⟩:=W5.mp (m _ Ap);simp only[Sa] at q3;have A:=o_nd o1;have C:=MZ A (a:=(i:Int)) (o1.mem_iff.mpr (TD.mpr ⟨by lia,by lia⟩));have B:=MZ A (a:=(j:Int)) (o1.mem_iff.mpr (TD.mpr ⟨by lia,by lia⟩));have q:(order.idxOf (i:Int):Int)=k:=q;have r:(order.idxOf (j:Int):Int)=l:=r;rw[q] at C;rw[r] at B;have t:aS true (.tup [.int (k:Int),.int (l:Int)]) (.lst ((pq sure (bN rows order) (bN rows order).length 0 (bN rows order).length).map aZ))=some (.bl false):=by
   show aS true (aZ ((k:Int),(l:Int))) _=_;rw[M5 (j:=1) (k:=1) (QX (p:=((k:Int),(l:Int)))) (λe I=>by obtain⟨z,_,rfl⟩:=Be.mp I;exact QX),CS (QN (QX (p:=((k:Int),(l:Int))))) (Be.mpr ⟨_,s,rfl⟩)]
   rfl
  have u:¬(l:Int)<k:=by lia
  have J:NS (s7 ns n (.tup [.int sure,.tup rows]) (.lst (order.map .int)) (XC order) o (.va (.int i)) (.va (.int j)) c d e f g h)=some (.nx (s7 ns n (.tup [.int sure,.tup rows]) (.lst (order.map .int)) (XC order) o (.va (.int i)) (.va (.int j)) c d e f g h)):=by unfold NS XC;generalize (pq sure (bN rows order) (bN rows order).length 0 (bN rows order).length).map aZ=D at*;generalize (CW 0 order).map Cz=K at*;generalize (CW 0 order).map Ec=V at*;simp -implicitDefEqProofs [s7,C,B,E,t,u]
  have s1:GP 6 7 (aZ ((i:Int),(j:Int))) (s7 ns n (.tup [.int sure,.tup rows]) (.lst (order.map .int)) (XC order) o a b c d e f g h)=some (s7 ns n (.tup [.int sure,.tup rows]) (.lst (order.map .int)) (XC order) o (.va (.int i)) (.va (.int j)) c d e f g h):=by simp[s7,aZ]
  rw[Bg,RB,s1,NC,J,ND,F]
end
theorem oQ(ns:List Int)(hl:ns.length<=63):J9 [.lst (ns.map .int)]=some (.bl true,[]):=by
 obtain⟨sure,rows,kds,n,hb,am,s0,s1,hn,e1⟩:=lC ns 0 12 hl (by lia) (by lia) (by lia);have r40:rows.length<=40:=by lia
 have hS:cX.lst (ns.map .int)=XM ns:=rfl;obtain⟨hp,e2⟩:=G0 (sure:=sure) hb r40;have x:=C2 hb s0 s1 r40;obtain⟨order,o1,o2,e4⟩:=HB ns n (sure:=sure) hl (by lia) hb r40;have hol:order.length=rows.length:=by rw[o1.length_eq,WA]
 have U:=o_nd o1;have P:=T9 (sure:=sure) hb;obtain⟨k',B⟩:=q_bl hb o1 o2;have Z:=HH hb o1 o2;have L:=C2 B s0 s1 (by lia);have R:=VH 0 W2 (λ_=>true) (Z9 (cT (fV 1) (cT (fV 0) bV))) swD [] rfl (Y6 0 (order.map .int)) [] (λd c=>by obtain⟨i,hi,e⟩:=Jw c;obtain⟨z,_,rfl⟩:=QL (Ad.mpr ⟨hi,e⟩);exact⟨_,_,rfl,by simp,λ_=>by simp[swD]⟩) (by rw[QM];simp;lia)
 have f1:(Y6 0 (order.map cX.int)).filter (λ_=>true)=Y6 0 (order.map .int):=Np.mpr λ_ _=>rfl;rw[f1,Dc] at R;have c:LA (.lst ((Y6 0 (order.map .int)).map swD))=some (XC order):=by
  show(R0 ((Y6 0 (order.map .int)).map swD)).bind (λkds=>if(kds.map Cz).Nodup then some (cX.dct (kds.map Cz) (kds.map Ec)) else none)=_;rw[MY,Aw,if_pos]
  ·rfl
  ·rw[QS]
   exact Ip _ (λa b h e=>h (by injection e)) U
 have N:=VJ 2 (cL 2 [] b8 (aE (f2 cB (f2 cB (fV 0) (fC (.int 1))) (fV 2)) (aE (fV 1) bY))) [.va (.tup [.int sure,.tup rows]),.va (XC order)] (NE rows (XC order)) rfl (order.map .int) [] (λd c=>by obtain⟨r,Y,rfl⟩:=Be.mp c;obtain⟨T,rest,ho⟩:=Kk Y;obtain⟨aw,e,ea,_,_,_⟩:=DS hb P o1 o2 ho;have w:=N5 e;rw[w];simp[ea,e]) (by simp;lia)
 rw[Dc,show(order.map cX.int).map (NE rows (XC order))=bN rows order from rfl] at N;obtain⟨g,f,K⟩:=Wn hb o1 o2 s0 s1 r40 ns hl (n+rows.length) .no .no .no .no .no .no L (pq sure rows rows.length 0 rows.length) .no .no λ_ h=>h;obtain⟨W,b9,H,G,F,E,hn1,t1⟩:=FV hb o1 o2 s0 s1 r40 ns hl (n+rows.length) (by lia) (XC order) g f (.va (.int 0)) .no .no .no .no .no;obtain⟨V,c9,D,C,A,y,hn2,I⟩:=FV hb o1 o2 s0 s1 r40 ns hl W (by lia) (XC order) g f (.va (.int 1)) b9 H G F E;obtain⟨J,M,o,m,l,k,hn3,t3⟩:=FV hb o1 o2 s0 s1 r40 ns hl V (by lia) (XC order) g f (.va (.int 2)) c9 D C A y;have kp:RS 2 (.lst ((pq sure rows rows.length 0 rows.length).map aZ)):=X3 λd c=>by obtain⟨p,_,rfl⟩:=Be.mp c;exact QX
 have j:=LC kp kp;rw[QN kp,Oh] at j;have t:=Zy hb o1 o2;have u:((pq sure (bN rows order) (bN rows order).length 0 (bN rows order).length).map aZ).length=((pq sure rows rows.length 0 rows.length).map aZ).length:=by refine(Cd _).trans (Eq.trans ?_ (Cd _).symm);exact t
 have v:(bN rows order).length<=16777216:=by lia
 have X:cF [] 14 [XM ns]=[.va (XM ns),.no,.no,.no,.no,.no,.no,.no,.no,.no,.no,.no,.no,.no]:=(rfl);have cm:(Z3 1 (xO (X8 bV))) [.va (XM ns),.no,.no,.no,.no,.no,.no,.no,.no,.no,.no,.no,.no,.no]=some (.nx [.va (XM ns),.ow (X7 0),.no,.no,.no,.no,.no,.no,.no,.no,.no,.no,.no,.no]):=(rfl);simp only[s7] at K t1 I t3;have w:aG 0 3=[.int 0,.int 1,.int 2]:=rfl;rw[hS];unfold J9;rw[cJ,zCT.eq_1,X,FH,cm,qS_n];generalize (pq sure (bN rows order) (bN rows order).length 0 (bN rows order).length).map aZ=D2 at*;generalize (pq sure rows rows.length 0 rows.length).map aZ=D1 at*;generalize bN rows order=Q at*;generalize (Y6 0 (order.map cX.int)).map swD=S at*;generalize XC order=q at*;generalize order.map cX.int=O at*;have hh:∀{s:VS} {δ:Ev} {r:Option Ou},s δ=r->FD [] (s δ)=FD [] r:=λh=>by rw[h]
 refine(hh (YK (δ1:=[.va (XM ns),.ow (X7 n),.va (.tup [.int sure,.tup rows]),.no,.no,.no,.no,.no,.no,.no,.no,.no,.no,.no]) (by simp[e1]) ?_)).trans (b:=FD [] (some (.rt (.bl true) [.va (XM ns),.ow (X7 J),.va (.tup [.int sure,.tup rows]),.va (.lst O),.va q,.va (.tup [.int sure,.tup Q]),g,f,.va (.int 2),M,o,m,l,k]))) rfl;refine YK (δ1:=[.va (XM ns),.ow (X7 n),.va (.tup [.int sure,.tup rows]),.no,.no,.no,.no,.no,.no,.no,.no,.no,.no,.no]) (by simp[e2,x,j]) ?_;refine YK (δ1:=[.va (XM ns),.ow (X7 (n+rows.length)),.va (.tup [.int sure,.tup rows]),.va (.lst O),.no,.no,.no,.no,.no,.no,.no,.no,.no,.no]) (by simp[e4]) ?_;refine YK (δ1:=[.va (XM ns),.ow (X7 (n+rows.length)),.va (.tup [.int sure,.tup rows]),.va (.lst O),.va q,.no,.no,.no,.no,.no,.no,.no,.no,.no]) (by simp[a9,R,c]) ?_;refine YK (δ1:=[.va (XM ns),.ow (X7 (n+rows.length)),.va (.tup [.int sure,.tup rows]),.va (.lst O),.va q,.va (.tup [.int sure,.tup Q]),.no,.no,.no,.no,.no,.no,.no,.no]) (by simp[a9,N,v]) ?_;refine YK (δ1:=[.va (XM ns),.ow (X7 (n+rows.length)),.va (.tup [.int sure,.tup rows]),.va (.lst O),.va q,.va (.tup [.int sure,.tup Q]),g,f,.no,.no,.no,.no,.no,.no]) (by simp[x,K]) ?_;refine YK (δ1:=[.va (XM ns),.ow (X7 J),.va (.tup [.int sure,.tup rows]),.va (.lst O),.va q,.va (.tup [.int sure,.tup Q]),g,f,.va (.int 2),M,o,m,l,k]) (by simp[w,t1,I,t3]) ?_;simp[x,L,u]
end RR
namespace KK
open PySem PySem.W
noncomputable abbrev g(a i:Nat)(n:Ti)(d m:Te):Tq:=⟨.type "function",none,.func (fnOf n n (L2.ZG (RR.top i)) (L2.ZY (RR.top i)) (L2.cQ (RR.top i)) d .none .none m none (.ref (a - 1)) .none),#[]⟩
theorem p(P:Qc)(a i:Nat)(n:Ti)(m:Te)(h1:nsIn (K P) Tn n=some (some (.ref a)):=by kernel_rfl)(h2:(K P).lookup a=some (g a i n .none m):=by kernel_rfl)(b:codeIn (K P) (.ref (a - 1)) n=true:=by kernel_rfl):L2.A4 (K P) n (RR.top i) a:=L2.a4 h1 h2 b (by unfold keepIn;simp only[h2])
end KK
namespace RR
open PySem L2
abbrev Zn(K:As)(x:Ti):Prop:=Lp K Tn x=some none
abbrev Gn(K:As)(x:Ti)(v:Te):Prop:=Lp K Tn x=some (some v)
theorem MF{α:Type}{P:List α->Prop}(z:∀a,P [a]):∀b:List α,b.length=1->P b
 |[a],_=>z a
theorem VD{α:Type}{P:List α->Prop}(z:∀a b,P [a,b]):∀c:List α,c.length=2->P c
 |[a,b],_=>z a b
theorem L1{α:Type}{P:List α->Prop}(z:∀a b c,P [a,b,c]):∀d:List α,d.length=3->P d
 |[a,b,c],_=>z a b c
theorem Len4{α:Type}{P:List α->Prop}(z:∀a b c d,P [a,b,c,d]):∀e:List α,e.length=4->P e
 |[a,b,c,d],_=>z a b c d
theorem Len5{α:Type}{P:List α->Prop}(z:∀a b c d e,P [a,b,c,d,e]):∀f:List α,f.length=5->P f
 |[a,b,c,d,e],_=>z a b c d e
theorem Len6{α:Type}{P:List α->Prop}(z:∀a b c d e f,P [a,b,c,d,e,f]):∀g:List α,g.length=6->P g
 |[a,b,c,d,e,f],_=>z a b c d e f
theorem zJZ{l:Sg}{w:Tl}{K:As}{h:Tp}{mg:Ti->Option Te}{fa:Tf}(X:K.In h)(G:h.Ns Tn mg)(j:mg "law"=some (.ref fa)){f_x0 f_x1 f_x2 f_x3 f_x4 f_x5 f_x6 f_x7 f_x8 f_x9 f_x10 f_x11 f_x12 f_x13 f_x14 f_x15 f_x16 f_x17 f_x18 f_x19 f_x20 f_x21 f_x22 f_x23 f_x24 f_x25 f_x26 f_x27 f_x28:Tf}{kV_x28 dc_x28 pm_x28 cd_x28 ct_x28:Te}{t1:Tx}{a2 f_x29 f_x30 f_x31 f_x32 f_x33 f_x34 f_x35 f_x36 f_x37 f_x39 f_x38 f_x42 f_x43 f_x44 f_x45 f_x46 f_x40 f_x41 f_x47:Tf}{kV_x47 dc_x47 pm_x47 cd_x47 ct_x47:Te}{t3 t4 t5 t6 t7 t8 t9 t10:Tx}{a11:Tf}{t12 t13 t14 t15 t16 t17 t18:Tx}{a19:Tf}{h20 h21 h22 h23 h24 h25 h26:Int}{t27 t28 t29 t30 t31:Tx}{a32:Tf}{t33 t34 t35 t36 t37 t38 t39:Tx}{a40:Tf}{t41 t42 t43:Tx}{a44:Tf}{t45:Tx}{a46:Tf}{t47 t48 t49:Tx}{a50:Tf}{t51 t52:Tx}{a53:Tf}{t54 t55 t56:Tx}{a57 a58:Tf}{h59 h60 h61 h62 h63 h64:Int}{t65 t66:Tx}{a67:Tf}{t68 t69:Tx}{a70:Tf}{t71:Tx}(J:A4 K "is_whole" (top 7) f_x0)(n:A4 K "plus" (top 8) f_x1)(o:A4 K "minus" (top 9) f_x2)(p:A4 K "times" (top 10) f_x3)(q:A4 K "least" (top 11) f_x4)(r:A4 K "most" (top 12) f_x5)(t:A4 K "less" (top 13) f_x6)(u:A4 K "over" (top 14) f_x7)(L:A4 K "pick" (top 15) f_x8)(M:A4 K "done" (top 17) f_x9)(nq:A4 K "parts_of" (top 26) f_x10)(nk:A4 K "makes_word" (top 27) f_x11)(nj:A4 K "place_of" (top 28) f_x12)(ni:A4 K "names_of" (top 29) f_x13)(nh:A4 K "may_name" (top 30) f_x14)(ng:A4 K "fits" (top 31) f_x15)(mz:A4 K "is_row" (top 32) f_x16)(my:A4 K "is_block" (top 33) f_x17)(mx:A4 K "writes" (top 35) f_x18)(mw:A4 K "is_safe_number" (top 36) f_x19)(mo:A4 K "can_fault" (top 37) f_x20)(mn:A4 K "share_written_cell" (top 38) f_x21)(mj:A4 K "must_stay" (top 39) f_x22)(mi:A4 K "must_pairs" (top 40) f_x23)(mh:A4 K "must" (top 41) f_x24)(mf:A4 K "is_cells" (top 44) f_x25)(me:A4 K "touches" (top 45) f_x26)(md:A4 K "do_on_cell" (top 46) f_x27)(k:K.lookup a2=some ⟨.type "tuple",none,.seq #[.int 0 t1] 0,#[]⟩)(x:Lp K Tn "do_row"=some (some (.ref f_x28)))(V:K.lookup f_x28=some ⟨.type "function",none,.func (Jl "do_row" "do_row" (ZG (top 47)) (ZY (top 47)) (cQ (top 47)) (.ref a2) kV_x28 dc_x28 pm_x28 none cd_x28 ct_x28),#[]⟩)(Q:Kh K cd_x28 "do_row"=true)(i:Ht K (.ref f_x28)=true)(ma:A4 K "do_rows" (top 48) f_x29)(m8:A4 K "check_run" (top 49) f_x30)(m6:A4 K "run" (top 50) f_x31)(lz:A4 K "_law_cell_at" (top 52) f_x32)(ly:A4 K "_law_mixed" (top 53) f_x33)(lx:A4 K "_law_draw" (top 54) f_x34)(lw:A4 K "_law_pick" (top 55) f_x35)(lv:A4 K "_law_place" (top 56) f_x36)(lu:A4 K "_law_row" (top 57) f_x37)(lr:A4 K "_law_next" (top 59) f_x39)(ls:A4 K "_law_rows" (top 58) f_x38)(lj:A4 K "_law_names" (top 62) f_x42)(li:A4 K "_law_may" (top 63) f_x43)(lh:A4 K "_law_must" (top 64) f_x44)(lg:A4 K "_law_mixed_order" (top 65) f_x45)(lf:A4 K "_law_renamed" (top 66) f_x46)(ln:A4 K "_law_block" (top 60) f_x40)(ll:A4 K "_law_cells" (top 61) f_x41)(O:Lp K Tn "law"=some (some (.ref f_x47)))(W:K.lookup f_x47=some ⟨.type "function",none,.func (Jl "law" "law" (ZG (top 67)) (ZY (top 67)) (cQ (top 67)) .none kV_x47 dc_x47 pm_x47 none cd_x47 ct_x47),#[]⟩)(R:Kh K cd_x47 "law"=true)(S:Ht K (.ref f_x47)=true)(l5:Zn K "len")(jf:Zn K "range")(l3:Zn K "min")(l4:Zn K "max")(jv:Zn K "list")(je:Zn K "tuple")(gv:Zn K "sorted")(dg:Zn K "isinstance")(jx:Zn K "bool")(l6:Zn K "int")(l0:Zn K "str")(dr:Zn K "enumerate")(kz:Zn K "zip")(l7:Zn K "all")(jw:Zn K "dict")(f9:Gn K "MOST_WORD" (.int 999 t3))(ou:K.lookup a11=some ⟨.type "tuple",none,.seq #[.str "plus" t4,.str "minus" t5,.str "times" t6,.str "least" t7,.str "most" t8,.str "less" t9,.str "over" t10] 0,#[]⟩)(jj:Gn K "DEEDS" (.ref a11))(oo:K.lookup a19=some ⟨.type "dict",none,.dict #[⟨h20,.str "plus" t12,.ref f_x1⟩,⟨h21,.str "minus" t13,.ref f_x2⟩,⟨h22,.str "times" t14,.ref f_x3⟩,⟨h23,.str "least" t15,.ref f_x4⟩,⟨h24,.str "most" t16,.ref f_x5⟩,⟨h25,.str "less" t17,.ref f_x6⟩,⟨h26,.str "over" t18,.ref f_x7⟩] 7,#[]⟩)(Y:(a19==Fn)=false)(k9:Gn K "MADE" (.ref a19))(fg:Gn K "MOST_SURE" (.int 64 t27))(fm:Gn K "MOST_ROWS" (.int 40 t28))(dj:Gn K "MOST_PLACE" (.int 63 t29))(oj:K.lookup a32=some ⟨.type "tuple",none,.seq #[.str "row" t30,.str "row" t31] 0,#[]⟩)(dm:Gn K "DEED_PARTS" (.ref a32))(oh:K.lookup a40=some ⟨.type "tuple",none,.seq #[.str "word" t39] 0,#[]⟩)(og:K.lookup a44=some ⟨.type "tuple",none,.seq #[.str "row" t41,.str "row" t42,.str "row" t43] 0,#[]⟩)(oa:K.lookup a46=some ⟨.type "tuple",none,.seq #[.str "place" t45] 0,#[]⟩)(o9:K.lookup a50=some ⟨.type "tuple",none,.seq #[.str "place" t47,.str "row" t48,.str "row" t49] 0,#[]⟩)(o8:K.lookup a53=some ⟨.type "tuple",none,.seq #[.str "place" t51,.str "row" t52] 0,#[]⟩)(o7:K.lookup a57=some ⟨.type "tuple",none,.seq #[.str "place" t54,.str "row" t55,.str "row" t56] 0,#[]⟩)(o6:K.lookup a58=some ⟨.type "dict",none,.dict #[⟨h59,.str "number" t33,.ref a40⟩,⟨h60,.str "pick" t34,.ref a44⟩,⟨h61,.str "load" t35,.ref a46⟩,⟨h62,.str "take" t36,.ref a50⟩,⟨h63,.str "store" t37,.ref a53⟩,⟨h64,.str "put" t38,.ref a57⟩] 6,#[]⟩)(Z:(a58==Fn)=false)(cy:Gn K "OTHER_PARTS" (.ref a58))(ny:K.lookup a67=some ⟨.type "tuple",none,.seq #[.str "load" t65,.str "take" t66] 0,#[]⟩)(gu:Gn K "READERS" (.ref a67))(nv:K.lookup a70=some ⟨.type "tuple",none,.seq #[.str "store" t68,.str "put" t69] 0,#[]⟩)(gq:Gn K "WRITERS" (.ref a70))(dk:Gn K "MOST_CELLS" (.int 64 t71)):∃fd:Fk,(∀(s:Ah) (v:Te),Qk s fd ⟨[v],[]⟩ [("_law_script",v)])/\∀base:Tp,K.In base->base.Ns Tn mg->aU l.prog w K mg base CX0 9 fa fd ["_law_script"] (spV K [] 1 J9):=by
 have e:=j.symm.trans (Hi X G O);cases e;have T:Txt K mg:=⟨λ_ _ e=>Hi X G e,Dy X G l5,Dy X G jf,Dy X G l3,Dy X G l4,Dy X G jv,Dy X G je,Dy X G gv,Dy X G dg,Dy X G jx,Dy X G l6,Dy X G l0,Dy X G dr,Dy X G kz,Dy X G l7,Dy X G jw,⟨_,.ref a11,Hi X G jj,rfl,λ_ _ _=>(.tup (xs:=[.str "plus",.str "minus",.str "times",.str "least",.str "most",.str "less",.str "over"]) (.inr ⟨_,_,_,ou,rfl,rfl,(by show 7<=sizeLine;decide),(.cons ⟨_,rfl⟩ (.cons ⟨_,rfl⟩ (.cons ⟨_,rfl⟩ (.cons ⟨_,rfl⟩ (.cons ⟨_,rfl⟩ (.cons ⟨_,rfl⟩ (.cons ⟨_,rfl⟩ .nil)))))))⟩) (.cons (.str _) (.cons (.str _) (.cons (.str _) (.cons (.str _) (.cons (.str _) (.cons (.str _) (.cons (.str _) .nil))))))))⟩,⟨_,.ref a32,Hi X G dm,rfl,λ_ _ _=>(.tup (xs:=[.str "row",.str "row"]) (.inr ⟨_,_,_,oj,rfl,rfl,(by show 2<=sizeLine;decide),(.cons ⟨_,rfl⟩ (.cons ⟨_,rfl⟩ .nil))⟩) (.cons (.str _) (.cons (.str _) .nil)))⟩,⟨_,.ref a19,Hi X G k9,rfl,λ_ _ _=>(.ktb (D:=[("plus",.ref f_x1),("minus",.ref f_x2),("times",.ref f_x3),("least",.ref f_x4),("most",.ref f_x5),("less",.ref f_x6),("over",.ref f_x7)]) ⟨Y,_,_,_,oo,⟨rfl,rfl,rfl⟩,rfl,(.cons rfl rfl (.cons rfl rfl (.cons rfl rfl (.cons rfl rfl (.cons rfl rfl (.cons rfl rfl (.cons rfl rfl .nil)))))))⟩ (.cons (.fn n.ns) (.cons (.fn o.ns) (.cons (.fn p.ns) (.cons (.fn q.ns) (.cons (.fn r.ns) (.cons (.fn t.ns) (.cons (.fn u.ns) .nil))))))))⟩,⟨_,.int 64,Hi X G dk,⟨_,rfl⟩,λ_ _ _=>(.int _)⟩,⟨_,.int 63,Hi X G dj,⟨_,rfl⟩,λ_ _ _=>(.int _)⟩,⟨_,.int 40,Hi X G fm,⟨_,rfl⟩,λ_ _ _=>(.int _)⟩,⟨_,.int 64,Hi X G fg,⟨_,rfl⟩,λ_ _ _=>(.int _)⟩,⟨_,.int 999,Hi X G f9,⟨_,rfl⟩,λ_ _ _=>(.int _)⟩,⟨_,.ref a58,Hi X G cy,rfl,λ_ _ _=>(.ktb (D:=[("number",.ref a40),("pick",.ref a44),("load",.ref a46),("take",.ref a50),("store",.ref a53),("put",.ref a57)]) ⟨Z,_,_,_,o6,⟨rfl,rfl,rfl⟩,rfl,(.cons rfl rfl (.cons rfl rfl (.cons rfl rfl (.cons rfl rfl (.cons rfl rfl (.cons rfl rfl .nil))))))⟩ (.cons (.tup (xs:=[.str "word"]) (.inr ⟨_,_,_,oh,rfl,rfl,(by show 1<=sizeLine;decide),(.cons ⟨_,rfl⟩ .nil)⟩) (.cons (.str _) .nil)) (.cons (.tup (xs:=[.str "row",.str "row",.str "row"]) (.inr ⟨_,_,_,og,rfl,rfl,(by show 3<=sizeLine;decide),(.cons ⟨_,rfl⟩ (.cons ⟨_,rfl⟩ (.cons ⟨_,rfl⟩ .nil)))⟩) (.cons (.str _) (.cons (.str _) (.cons (.str _) .nil)))) (.cons (.tup (xs:=[.str "place"]) (.inr ⟨_,_,_,oa,rfl,rfl,(by show 1<=sizeLine;decide),(.cons ⟨_,rfl⟩ .nil)⟩) (.cons (.str _) .nil)) (.cons (.tup (xs:=[.str "place",.str "row",.str "row"]) (.inr ⟨_,_,_,o9,rfl,rfl,(by show 3<=sizeLine;decide),(.cons ⟨_,rfl⟩ (.cons ⟨_,rfl⟩ (.cons ⟨_,rfl⟩ .nil)))⟩) (.cons (.str _) (.cons (.str _) (.cons (.str _) .nil)))) (.cons (.tup (xs:=[.str "place",.str "row"]) (.inr ⟨_,_,_,o8,rfl,rfl,(by show 2<=sizeLine;decide),(.cons ⟨_,rfl⟩ (.cons ⟨_,rfl⟩ .nil))⟩) (.cons (.str _) (.cons (.str _) .nil))) (.cons (.tup (xs:=[.str "place",.str "row",.str "row"]) (.inr ⟨_,_,_,o7,rfl,rfl,(by show 3<=sizeLine;decide),(.cons ⟨_,rfl⟩ (.cons ⟨_,rfl⟩ (.cons ⟨_,rfl⟩ .nil)))⟩) (.cons (.str _) (.cons (.str _) (.cons (.str _) .nil)))) .nil)))))))⟩,⟨_,.ref a67,Hi X G gu,rfl,λ_ _ _=>(.tup (xs:=[.str "load",.str "take"]) (.inr ⟨_,_,_,ny,rfl,rfl,(by show 2<=sizeLine;decide),(.cons ⟨_,rfl⟩ (.cons ⟨_,rfl⟩ .nil))⟩) (.cons (.str _) (.cons (.str _) .nil)))⟩,⟨_,.ref a70,Hi X G gq,rfl,λ_ _ _=>(.tup (xs:=[.str "store",.str "put"]) (.inr ⟨_,_,_,nv,rfl,rfl,(by show 2<=sizeLine;decide),(.cons ⟨_,rfl⟩ (.cons ⟨_,rfl⟩ .nil))⟩) (.cons (.str _) (.cons (.str _) .nil)))⟩⟩
 have c:=Zb (st:=top 47) V Q i;have P:=c.binds (ps:=IH) (ds:=[]) (m:=4) k rfl λ_ _ _ _ _ _ g hl=>match g,hl with|[_,_,_,_],_=>⟨_,rfl,rfl⟩
 have ki:=c.binds (ps:=IH) (ds:=[.int 0 t1]) (m:=3) k rfl λ_ _ _ _ _ _ g hl=>match g,hl with|[_,_,_],_=>⟨_,rfl,rfl⟩
 have N:=Va (st:=top 67) W R S;refine⟨Jl "law" "law" (ZG (top 67)) (ZY (top 67)) (cQ (top 67)) .none kV_x47 dc_x47 pm_x47 none cd_x47 ct_x47,λs v=>.of_eq rfl,λbase _ _=>?_⟩;have d:cA l.prog w K mg base "is_whole" 1 Qx0 [] aR f_x0:=ZS X G J (λU=>iI U T) (L1 λ_ _ _=>rfl);have kx:cA l.prog w K mg base "plus" 1 Qx1 [] O0 f_x1:=ZS X G n (λU=>iK U T) (VD λ_ _=>rfl);have ku:cA l.prog w K mg base "minus" 1 Qx2 [] SI f_x2:=ZS X G o (λU=>oU U T) (VD λ_ _=>rfl);have kr:cA l.prog w K mg base "times" 1 Qx3 [] SJ f_x3:=ZS X G p (λU=>Xs U T) (VD λ_ _=>rfl);have kq:cA l.prog w K mg base "least" 1 Qx4 [] SH f_x4:=ZS X G q (λU=>oP U T) (VD λ_ _=>rfl);have ko:cA l.prog w K mg base "most" 1 Qx5 [] OY f_x5:=ZS X G r (λU=>jV U T) (VD λ_ _=>rfl);have kn:cA l.prog w K mg base "less" 1 Qx6 [] OX f_x6:=ZS X G t (λU=>fH U T) (VD λ_ _=>rfl);have km:cA l.prog w K mg base "over" 1 Qx7 [] TL f_x7:=ZS X G u (λU=>nI U T) (VD λ_ _=>rfl);have kj:cA l.prog w K mg base "pick" 1 Qx8 [] OZ f_x8:=ZS X G L (λU=>Zw U T) (L1 λ_ _ _=>rfl);have y:cA l.prog w K mg base "done" 2 Qx9 [] V1 f_x9:=ZS X G M (λU=>kN U T kx ku kr kq ko kn km kj) (VD λ_ _=>rfl);have A:cA l.prog w K mg base "parts_of" 1 AE [] aC f_x10:=ZS X G nq (λU=>kU U T) (MF λ_=>rfl);have jd:cA l.prog w K mg base "makes_word" 1 Qx11 [] YQ f_x11:=ZS X G nk (λU=>lW U T) (MF λ_=>rfl);have f:cA l.prog w K mg base "place_of" 1 EE [] b5 f_x12:=ZS X G nj (λU=>iP U T) (MF λ_=>rfl);have B:cA l.prog w K mg base "names_of" 2 AF [] Z1 f_x13:=ZS X G ni (λU=>iL U T A) (MF λ_=>rfl);have jc:cA l.prog w K mg base "may_name" 2 Qx14 [] XJ f_x14:=ZS X G nh (λU=>pD U T d) (VD λ_ _=>rfl);have j9:cA l.prog w K mg base "fits" 3 Qx15 [] V2 f_x15:=ZS X G ng (λU=>hU U T d jc) (L1 λ_ _ _=>rfl);have j8:cA l.prog w K mg base "is_row" 4 Qx16 [] VC f_x16:=ZS X G mz (λU=>Zd U T A j9) (VD λ_ _=>rfl);have C:cA l.prog w K mg base "is_block" 5 AG [] YX f_x17:=ZS X G my (λU=>lO U T d jd j8) (MF λ_=>rfl);have I:cA l.prog w K mg base "writes" 1 AH [] YG f_x18:=ZS X G mx (λU=>jC U T) (MF λ_=>rfl);have j7:cA l.prog w K mg base "is_safe_number" 1 Qx19 [] ZV f_x19:=ZS X G mw (λU=>Zh U T) (MF λ_=>rfl);have gk:cA l.prog w K mg base "can_fault" 2 Qx20 [] YW f_x20:=ZS X G mo (λU=>pB U T f j7) (VD λ_ _=>rfl);have j6:cA l.prog w K mg base "share_written_cell" 2 Qx21 [] aT f_x21:=ZS X G mn (λU=>Zs U T f I) (VD λ_ _=>rfl);have j5:cA l.prog w K mg base "must_stay" 3 Qx22 [] Z6 f_x22:=ZS X G mj (λU=>Zl U T B I gk j6) (L1 λ_ _ _=>rfl);have j4:cA l.prog w K mg base "must_pairs" 4 Qx23 [] YR f_x23:=ZS X G mi (λU=>jB U T j5) (MF λ_=>rfl);have cx:cA l.prog w K mg base "must" 6 Qx24 [] WF f_x24:=ZS X G mh (λU=>fY U T C j4) (MF λ_=>rfl);have j3:cA l.prog w K mg base "is_cells" 2 Qx25 [] XH f_x25:=ZS X G mf (λU=>lK U T d) (VD λ_ _=>rfl);have iz:cA l.prog w K mg base "touches" 1 Qx26 [] Y9 f_x26:=ZS X G me (λU=>fR U T) (VD λ_ _=>rfl);have z:cA l.prog w K mg base "do_on_cell" 2 Qx27 [3] bK f_x27:=ZS X G md (λU=>oZ U T iz) (Len4 λ_ _ _ _=>rfl);have ju:cA l.prog w K mg base "do_row" 3 IH [2] ZI f_x28:=⟨Hi X G x,⟨_,Xk c T y f z,P⟩,i⟩;have g9:DefD l.prog w K mg base "do_row" 3 IH (spV K [2] 4 ZI) f_x28 (.int 0):=⟨Hi X G x,⟨_,_,Xk c T y f z,ki,by first|exact⟨_,rfl⟩|rfl⟩,i⟩;have iy:cA l.prog w K mg base "do_rows" 4 Qx29 [1] XG f_x29:=ZS X G ma (λU=>gM U T B ju g9) (VD λ_ _=>rfl);have iw:cA l.prog w K mg base "check_run" 6 Qx30 [] X9 f_x30:=ZS X G m8 (λU=>oY U T C j3) (VD λ_ _=>rfl);have gf:cA l.prog w K mg base "run" 7 Qx31 [] QA f_x31:=ZS X G m6 (λU=>Ye U T iy iw) (VD λ_ _=>rfl);have iu:cA l.prog w K mg base "_law_cell_at" 1 Qx32 [] ZX f_x32:=ZS X G lz (λU=>iS U T) (VD λ_ _=>rfl);have iq:cA l.prog w K mg base "_law_mixed" 2 Qx33 [] YB f_x33:=ZS X G ly (λU=>dO U T iu) (L1 λ_ _ _=>rfl);have b:cA l.prog w K mg base "_law_draw" 3 II [1] bX f_x34:=ZS X G lx (λU=>kD U T iq) (L1 λ_ _ _=>rfl);have a:cA l.prog w K mg base "_law_pick" 4 MG [1] bP f_x35:=ZS X G lw (λU=>cY U T b) (L1 λ_ _ _=>rfl);have cv:cA l.prog w K mg base "_law_place" 5 Qx36 [1,2] Z5 f_x36:=ZS X G lv (λU=>Xq U T b a) (Len5 λ_ _ _ _ _=>rfl);have ip:cA l.prog w K mg base "_law_row" 6 Qx37 [1,3] WP f_x37:=ZS X G lu (λU=>kL U T b a cv) (Len5 λ_ _ _ _ _=>rfl);have im:cA l.prog w K mg base "_law_next" 5 Qx39 [1,4] ZE f_x39:=ZS X G lr (λU=>eB U T a) (Len6 λ_ _ _ _ _ _=>rfl);have io:cA l.prog w K mg base "_law_rows" 7 Qx38 [1] XI f_x38:=ZS X G ls (λU=>gE U T a ip im) (Len4 λ_ _ _ _=>rfl);have ij:cA l.prog w K mg base "_law_names" 1 Qx42 [] bA f_x42:=ZS X G lj (λU=>lB U T) (MF λ_=>rfl);have da:cA l.prog w K mg base "_law_may" 1 Qx43 [] YO f_x43:=ZS X G li (λU=>eS U T) (VD λ_ _=>rfl);have E:cA l.prog w K mg base "_law_must" 2 AI [] YZ f_x44:=ZS X G lh (λU=>fK U T ij da) (MF λ_=>rfl);have F:cA l.prog w K mg base "_law_mixed_order" 5 AJ [1] aY f_x45:=ZS X G lg (λU=>iN U T a E) (L1 λ_ _ _=>rfl);have H:cA l.prog w K mg base "_law_renamed" 1 AK [] b8 f_x46:=ZS X G lf (λU=>nO U T) (VD λ_ _=>rfl);have il:cA l.prog w K mg base "_law_block" 8 Qx40 [1] YY f_x40:=ZS X G ln (λU=>eN U T b a io F H) (L1 λ_ _ _=>rfl);have ik:cA l.prog w K mg base "_law_cells" 5 Qx41 [1] YA f_x41:=ZS X G ll (λU=>dQ U T b a) (L1 λ_ _ _=>rfl);exact jO N T cx gf il ik E F H
theorem zAT(K:As)(H:Hp)(a:Tf)(ns:List Int)(hl:ns.length<=63)(h:WT K H a (ns.map V.int)):spV K [] 1 J9 [.ref a] H (λv _=>v=.bl true) λ_ _ _=>False:=by
 have c:b7 K (Zp (λ_=>False) [] [.ref a]) H (ns.map V.int) (ns.map cX.int):=by
  clear h hl;induction ns with
  |nil=>exact .nil
  |cons n ns f=>exact .cons (.int n) f
 have g:∀b,¬Zp (λ_=>False) [] [V.ref a] b:=λb h=>by
  rcases h with h|⟨i,h,_⟩
  ·exact h
  ·cases h
 refine⟨λ_=>False,[.lst (ns.map .int)],.bl true,[],rfl,⟨rfl,(λi h=>nomatch h),λi d hi e=>?_,(λi d h=>nomatch h),(λi j b h=>nomatch h),λa h=>h.elim⟩,oQ ns hl,λv H' _ _ r=>by cases r;rfl⟩;cases i with
 |zero=>
  cases e;refine⟨_,rfl,?_⟩;rcases h with(h|⟨o,h⟩)|h
  ·exact .lst h (g a) c
  ·exact .fzl (.inl ⟨o,h⟩) c
  ·exact .fzl (.inr h) c
 |succ i=>cases i<;>cases e
end RR
open PySem PySem.W PyProof.Rows
set_option maxRecDepth 100000 in
set_option maxHeartbeats 0 in
theorem PySem.Challenge.cw_lanepacks_k07_whole_orders_kept_holds : PySem.Challenge.rw_lanepacks_k07_whole_orders_kept.Holds := by
 w_on;refine holds_law KK.said λsaid=>?_
 refine holds_open (q:=KK.view) (loose:=KK.lo) (Xt:=KK.X) (XP:=XL KK.view []) (Yf:=KK.H.obs) (Ya:=KK.H.val) (YP:=KK.H.says) (N:=5000) KK.hl (Hook.of _) (Hook.keeps _) (λs e=>xl_of s (Dv.mp e).1) XL.keeps (by rfl) (by rfl) (by rfl) (λs e=>recFacts_of (Dv.mp e).2) (by rfl) (by first|assumption|decide+kernel) (by decide+kernel) ⟨rfl,rfl,rfl,rfl,rfl,by decide+kernel⟩ ?hw ?hc
 case hw=>w_witness2
 refine L2.zA3 (l:=Jz) (n:=63) (k:=9) (x:= "_law_script") (CX:=L2.CX0) (sp:=λK=>L2.spV K [] 1 L2.J9) rfl (by decide) rfl ⟨rfl,by decide,by decide⟩ (λw h Y=>W.kIn_of (K:=KK.K) (as:=KK.A) (e:=KK.kA) Y) ?F (λK H a ns hl _ hS=>RR.zAT K H a ns hl hS) λ_ _ _ _ z=>z
 case F=>
  intro w mg fa h KX G hmg;exact RR.zJZ (K:=KK.K w.params) (f_x0:=59) (f_x1:=66) (f_x2:=73) (f_x3:=80) (f_x4:=87) (f_x5:=94) (f_x6:=101) (f_x7:=108) (f_x8:=115) (f_x9:=123) (f_x10:=140) (f_x11:=147) (f_x12:=154) (f_x13:=159) (f_x14:=166) (f_x15:=173) (f_x16:=178) (f_x17:=185) (f_x18:=192) (f_x19:=199) (f_x20:=206) (f_x21:=213) (f_x22:=220) (f_x23:=225) (f_x24:=232) (f_x25:=237) (f_x26:=244) (f_x27:=251) (f_x28:=259) (kV_x28:=.none) (dc_x28:=.none) (pm_x28:=.str "lanepacks.running" 514) (cd_x28:=.ref 258) (ct_x28:=.none) (t1:=542) (a2:=252) (f_x29:=264) (f_x30:=271) (f_x31:=278) (f_x32:=285) (f_x33:=292) (f_x34:=299) (f_x35:=306) (f_x36:=313) (f_x37:=318) (f_x39:=332) (f_x38:=325) (f_x42:=349) (f_x43:=354) (f_x44:=359) (f_x45:=364) (f_x46:=369) (f_x40:=337) (f_x41:=342) (f_x47:=374) (kV_x47:=.none) (dc_x47:=.none) (pm_x47:=.str "law_lanepacks_k07_whole_orders_kept" 581) (cd_x47:=.ref 373) (ct_x47:=.none) (t3:=241) (t4:=243) (t5:=244) (t6:=245) (t7:=246) (t8:=247) (t9:=248) (t10:=249) (a11:=52) (t12:=325) (t13:=326) (t14:=327) (t15:=328) (t16:=329) (t17:=330) (t18:=331) (a19:=116) (h20:=Ci w.params "plus") (h21:=Ci w.params "minus") (h22:=Ci w.params "times") (h23:=Ci w.params "least") (h24:=Ci w.params "most") (h25:=Ci w.params "less") (h26:=Ci w.params "over") (t27:=351) (t28:=353) (t29:=355) (t30:=357) (t31:=358) (a32:=124) (t33:=360) (t34:=362) (t35:=366) (t36:=368) (t37:=372) (t38:=375) (t39:=361) (a40:=126) (t41:=363) (t42:=364) (t43:=365) (a44:=127) (t45:=367) (a46:=128) (t47:=369) (t48:=370) (t49:=371) (a50:=129) (t51:=373) (t52:=374) (a53:=130) (t54:=376) (t55:=377) (t56:=378) (a57:=131) (a58:=125) (h59:=Ci w.params "number") (h60:=Ci w.params "pick") (h61:=Ci w.params "load") (h62:=Ci w.params "take") (h63:=Ci w.params "store") (h64:=Ci w.params "put") (t65:=386) (t66:=387) (a67:=132) (t68:=389) (t69:=390) (a70:=133) (t71:=516) KX G hmg
   (KK.p _ 59 7 "is_whole" (.str "lanepacks.words" 239))
   (KK.p _ 66 8 "plus" (.str "lanepacks.words" 239))
   (KK.p _ 73 9 "minus" (.str "lanepacks.words" 239))
   (KK.p _ 80 10 "times" (.str "lanepacks.words" 239))
   (KK.p _ 87 11 "least" (.str "lanepacks.words" 239))
   (KK.p _ 94 12 "most" (.str "lanepacks.words" 239))
   (KK.p _ 101 13 "less" (.str "lanepacks.words" 239))
   (KK.p _ 108 14 "over" (.str "lanepacks.words" 239))
   (KK.p _ 115 15 "pick" (.str "lanepacks.words" 239))
   (KK.p _ 123 17 "done" (.str "lanepacks.words" 239))
   (KK.p _ 140 26 "parts_of" (.str "lanepacks.blocks" 349))
   (KK.p _ 147 27 "makes_word" (.str "lanepacks.blocks" 349))
   (KK.p _ 154 28 "place_of" (.str "lanepacks.blocks" 349))
   (KK.p _ 159 29 "names_of" (.str "lanepacks.blocks" 349))
   (KK.p _ 166 30 "may_name" (.str "lanepacks.blocks" 349))
   (KK.p _ 173 31 "fits" (.str "lanepacks.blocks" 349))
   (KK.p _ 178 32 "is_row" (.str "lanepacks.blocks" 349))
   (KK.p _ 185 33 "is_block" (.str "lanepacks.blocks" 349))
   (KK.p _ 192 35 "writes" (.str "lanepacks.orders" 453))
   (KK.p _ 199 36 "is_safe_number" (.str "lanepacks.orders" 453))
   (KK.p _ 206 37 "can_fault" (.str "lanepacks.orders" 453))
   (KK.p _ 213 38 "share_written_cell" (.str "lanepacks.orders" 453))
   (KK.p _ 220 39 "must_stay" (.str "lanepacks.orders" 453))
   (KK.p _ 225 40 "must_pairs" (.str "lanepacks.orders" 453))
   (KK.p _ 232 41 "must" (.str "lanepacks.orders" 453))
   (KK.p _ 237 44 "is_cells" (.str "lanepacks.running" 514))
   (KK.p _ 244 45 "touches" (.str "lanepacks.running" 514))
   (KK.p _ 251 46 "do_on_cell" (.str "lanepacks.running" 514))
   (by kernel_rfl)
   (by kernel_rfl)
   (by kernel_rfl)
   (by kernel_rfl)
   (by kernel_rfl)
   (KK.p _ 264 48 "do_rows" (.str "lanepacks.running" 514))
   (KK.p _ 271 49 "check_run" (.str "lanepacks.running" 514))
   (KK.p _ 278 50 "run" (.str "lanepacks.running" 514))
   (KK.p _ 285 52 "_law_cell_at" KK.m)
   (KK.p _ 292 53 "_law_mixed" KK.m)
   (KK.p _ 299 54 "_law_draw" KK.m)
   (KK.p _ 306 55 "_law_pick" KK.m)
   (KK.p _ 313 56 "_law_place" KK.m)
   (KK.p _ 318 57 "_law_row" KK.m)
   (KK.p _ 332 59 "_law_next" KK.m)
   (KK.p _ 325 58 "_law_rows" KK.m)
   (KK.p _ 349 62 "_law_names" KK.m)
   (KK.p _ 354 63 "_law_may" KK.m)
   (KK.p _ 359 64 "_law_must" KK.m)
   (KK.p _ 364 65 "_law_mixed_order" KK.m)
   (KK.p _ 369 66 "_law_renamed" KK.m)
   (KK.p _ 337 60 "_law_block" KK.m)
   (KK.p _ 342 61 "_law_cells" KK.m)
   (by kernel_rfl)
   (by kernel_rfl)
   (by kernel_rfl)
   (by kernel_rfl)
   (by kernel_rfl)
   (by kernel_rfl)
   (by kernel_rfl)
   (by kernel_rfl)
   (by kernel_rfl)
   (by kernel_rfl)
   (by kernel_rfl)
   (by kernel_rfl)
   (by kernel_rfl)
   (by kernel_rfl)
   (by kernel_rfl)
   (by kernel_rfl)
   (by kernel_rfl)
   (by kernel_rfl)
   (by kernel_rfl)
   (by kernel_rfl)
   (by kernel_rfl)
   (by kernel_rfl)
   (by kernel_rfl)
   (by decide)
   (by kernel_rfl)
   (by kernel_rfl)
   (by kernel_rfl)
   (by kernel_rfl)
   (by kernel_rfl)
   (by kernel_rfl)
   (by kernel_rfl)
   (by kernel_rfl)
   (by kernel_rfl)
   (by kernel_rfl)
   (by kernel_rfl)
   (by kernel_rfl)
   (by kernel_rfl)
   (by decide)
   (by kernel_rfl)
   (by kernel_rfl)
   (by kernel_rfl)
   (by kernel_rfl)
   (by kernel_rfl)
   (by kernel_rfl)
end
