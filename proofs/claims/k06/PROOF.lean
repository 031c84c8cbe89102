import PyProof.Rows.All
import KE.KFromBytes
import KE.KTab
import KE.KIsAll
import KE.KDictOf
import KE.KEqDeep
import KE.KItem
import KE.KUnpackStar
import Wide.FinOn
import Wide.Line
import KE.KSortTup
import PyProof.AttrMissSeq
import PySem.Challenge.RW_lanepacks_k06_whole_faults_foreseen
set_option Elab.async false
set_option linter.all false
set_option maxRecDepth 100000
set_option maxHeartbeats 4000000
set_option bootstrap.genMatcherCode false
set_option compiler.extract_closed false
open PySem renaming wpAny_bind→Aa,Shared→Ag,starEach→Ah,wpAny_pure→Ai,wpAny_mono→Av,bootBuiltins→Bg,Program→Bn,mem_of_lookup→Bu,wpAny_holding→Ce,wpAny_newObj_type→Cu,Around→Cy,sizeLine_eq→Db,compareOp→De,wpAny_callSpecial?_slot→Di,wpAny_standAt→Dq,wpAny_truthy_bool→Ds,wpAny_field→Dz,wpAny_call_entry→Ec,wpAny_seqItems→Ep,letOwnedTupleGo→Er,FuncData→Et,sysModules→Ex,backTo→Ez,swapsWithSole→Fa,swappedStores→Fb,wpAny_Call_Name_kw→Fc,wpAny_setField_rec→Fe,wpAny_passesOwn→Fi,binaryOp→Fs,swapsWith→Fu,codeAny→Fw,wpAny_assign_Name→Gb,wpAny_rule→Gc,wpAny_pyIter_list→Gd,wpAny_comprehension_free→Gs,wpAny_pyIter_tuple→Gv,behindInMarks→Gx,attributeBase→Ha,tupleKind_room_in1→Hc,sliceBounds→Hn,wpAny_bindName→Hs,wpAny_updateSeq_pair→Hz,bindName→Ib,unpackItems→Im,keywordEach→Ip,Keyword→Iq,pushCells_keeps→Ja,codeAny_mono→Jj,wpAny_typeOf→Jl,newFunctionEnv→Jr,Spec→Js,wpAny_sequenceKey→Jw,pushCells→Kb,getItem→Kg,wpAny_onRaise→Kk,wpAny_eqBool_int→Km,noFill_tuple_add→Kn,wpAny_pyNext_list_item→Kq,codeAny_compStart_list→Kt,DictEntry→Kv,importedModules→Kw,standAt→Ky,holding→Kz,wpAny_execs_nil→La,wpAny_pyNext_list_end→Lb,concat_meets→Ld,call_meetsIn→Lg,theTreesLotGoes→Lj,exec_Assign_Name_used→Lo,ZipApart→Lq,PyData→Ly,callerA→Mc,Builtin→Mf,bltViewBooted→Mi,seq_tuple_add→Ml,backToKw→Mm,wpAny_attempt→Mp,name_of_addr→Mr,getattributeRaised→Mu,call_meets→Mz,valueAt→Na,wpAny_Call_method→Nb,wpAny_pyIter_enum→Nd,seqIndex_neg→Nl,codeAny_loop→Np,compTurn→Of,compEnvC→Og,Params→Oi,PassesOwn→Oo,pyIter→Op,lastMarks→Oq,Result→Ot,BindsTo→Ov,seqIndex_of→Ow,noteFrame→Oy,wpAny_noted→Oz,wpAny_letGo→Pc,wpAny_Name→Qe,call→Qf,newList→Ql,Within→Qq,stored→Qs,again→Rf
open PySem.Heap renaming get?_push_of_some→Ac,lt_size→Am,get?_push_size→Au,size_push→Cw,SameBut→Ey,get?_push_ne→Hq,ExtBut→Ix,get?_update_other→Ks,get?_update_self→Le,get?_update_ne→Mh
open List renaming getElem?_eq_some_iff→Ad,getElem?_append_left→Ae,mem_cons→Aj,mem_cons_of_mem→Ao,size_toArray→Aq,range→Ar,mem_singleton→As,mem_append_right→At,append_assoc→Ax,not_mem_nil→Ay,map_cons→Az,mem_cons_self→Ba,getElem?_append_right→Bb,replicate→Be,mem_append→Bi,length_cons→Bo,mem_append_left→Bp,getElem?_eq_getElem→Br,mem_range→Bt,length_append→Bv,getElem?_eq_none→Bw,mem_map→Bx,getElem?_set_ne→By,getElem?_take_of_lt→Cf,take_of_length_le→Cg,length_take→Ci,length_set→Cj,length_map→Ck,lookup_cons→Cn,take_append_of_le_length→Co,perm_append_comm→Cq,getElem?_map→Cr,getElem?_replicate→Cs,nodup_cons→Ct,drop_eq_getElem_cons→Cv,getElem?_set_self→Cz,take_append_drop→Dg,nil_append→Dh,append_nil→Dn,length_singleton→Dt,map_nil→Du,lookup_cons_self→Dw,mem_of_getElem?→Eb,set_comm→Ef,mem_filter→Eh,set_append_right→Ek,drop_length→Eo,length_eq_zero_iff→Fl,cons_append→Fn,find?_cons→Fx,length_nil→Fy,getElem?_eq_none_iff→Gj,mem_or_eq_of_mem_set→Gm,map_congr_left→Go,any_cons→Hb,map_append→Hf,range_succ_eq_map→Hj,length_range→Ho,length_replicate→Ht,mem_iff_getElem?→Hv,all_eq_true→Hw,getElem_mem→Hx,dropLast_concat_getLast→Ig,filterMap_cons→Ik,forIn_cons→Ir,take_succ_cons→Iu,idxOf_lt_length_of_mem→Je,pairwise_cons→Jo,drop_zero→Jq,ext_getElem?→Jy,zip_nil_left→Jz,reverse_perm→Ke,of_mem_zip→Lc,zip_append→Lm,map_map→Ln,getElem?_mapIdx→Lr,mem_of_mem_take→Lu,forIn_nil→Lz,take_take→Ma,lookup→Md,mem_filterMap→Mk,getElem?_take→Ms,getElem_idxOf→Mv,map_set→Nq,getElem_inj→Nr,length_drop→Nu,isEmpty_iff→Nw,zipIdx_cons→Nx,zipIdx_nil→Pb,filter_map→Pn,mapM_cons→Pq,take_succ→Pr,drop_take→Ps,drop_drop→Pw,take_left→Px,take_zero→Py,all_cons→Qm,all_map→Qu
open Bool renaming and_eq_true→Af,false_ne_true→Dd,false_eq_true→Fd,or_eq_true→He,beq_eq_decide_eq→Lp,and_eq_true_iff→Lv,false_or→Qj,true_and→Qo
open Option renaming bind_some→Ak,isSome_some→Mn,getD_none→Nv,map_some→Pl
open PySem.W renaming Frag→An,mg_none_of→Dm,kia_one→Fj,mg_of→Gp,keepIn→Gy,kas_item→Ie,fnOf→Io,codeIn→Jk,nsIn→Lk,kitx_list→Mb,cellsFrom_some→Nt,methodObj→Om,kasC_bind→Pf,kasC_modify→Pg,kas_item_eq→Pj,looseW→Pz,instObj→Qp,OpenLaw→Qt
open Nat renaming le_refl→Ap,lt_of_lt_of_le→Aw,ne_of_lt→Bf,lt_irrefl→Ca,zero_le→Dc,le_of_succ_le→Ee,le_trans→Ei,le_succ→Fm,ne_of_gt→Fv,min_eq_left→Hg,zero_add→Jm,sub_self→Jn,lt_of_not_le→Ko,lt_succ_of_lt→Nh,le_of_lt→Nk,lt_trans→No,succ_le_succ→Nz,not_le_of_lt→Oa,not_lt_zero→Pd,min_le_left→Pe,add_assoc→Qn
open PySem.Str renaming ofString→Bh,ofString_eq_toList→Hk
open PySem.F renaming slot_list_append→Bj,type_list_append→Bk,slot_dict_get→Dv,entry_dict_get→Eu,slot_tuple_iterator_next→Ew,args_tuple_add_2→Gq,entry_tuple_add→Gz,args_dict_get_2→Hd,slot_tuple_add→Hi,args_tuple_iterator_next_1→Ic,entry_tuple_iterator_next→Iy,slot_zip_next→Iz,slot_dict_getitem→Jp,args_dict_get_3→Kh,plainAttrs_dict→Ki,plainAttrs_list→Kj,type_dict_get→Li,args_zip_next_1→Nf,entry_zip_next→Ny
open PySem.NameKind renaming free→Bm,cell→Cb
open PySem.Value renaming ref→Bq,type→Jt,int→Oj,str→Ol,bool→Qd,isStrOf→Qh,isInt→Qx,float→Qy
open PySem.PyData renaming keyHash→Bz,depthAll→Es,canLay0→Fo,canLayAll0→Hr,depth→Hu,eqv→Ih,int→Nc,strOk→Qv
open PySem.Builtin.SmallTypes renaming nextOf→Cc,ownedTupleIsFree→Dr,ownedTupleHandOut→Gk
open Option.some renaming inj→Cd
open Array renaming toList_append→Cm,toList_push→Gf,toList_reverse→Gh,length_toList→Il,perm_iff_toList_perm→Ji,eraseIdxIfInBounds→Ka,getD→Kc,toList_inj→Od,toList→Qr
open ForInStep renaming yield→Cp
open List.Perm renaming append_left→Df,append_right→Fq,trans→Jb,append→Ob,cons→Pt
open Prod renaming fst→Dj,snd→Eg
open Ne renaming symm→Dk
open PyProof.Rows renaming assignInOrder_cons→Dx,callWith_type1→Dy,slot_tuple_getitem→Ed,SortSt→Fh,seqObj→Gu,assignInOrder_nil→Hl,envOfC→Jv,subscriptTail_builtinR→Kr,AllBare→Kx,listUpdate_at→Mt,unpackItems_tuple→My,pairsOf→Ng,SortKind→Oh,seqEpoch_at→Ph,expectedOf→Qa,plainGoodE→Qb,plainGoodD→Qc,drecsOf→Qg,tail_any→Qi,IntsAre→Qk
open PySem.PassesOwn renaming never→Ea
open PySem.SeqAt renaming shaped→Ej
open PySem.Obj renaming mapSeq→El,data_mapFields→Mo
open Int renaming emod_lt_of_pos→Em,toNat_natCast→Ge,emod_nonneg→Hh,ediv_nonneg→Pk
open PySem.Builtin.Slice renaming slicePlaces→Ff,sliceAdjust→Gi,sliceApplied→Jg,slicePartIndex→Oe,sliceFields→Pp
open PyProof.Rows.KTD renaming datumAt→Fg
open PySem.Builtin.Tuple renaming tupleExact→Fk,tupleItemsOf→Jh,tupleIsExact→Po
open PySem.Calls renaming callWith_builtin→Fp,spliced_cons→Ft,evalArgs_plain→Gg,spliced_nil→Hm,Name_function_global→Jf
open Pure renaming pure→Fz
open False renaming elim→Ga
open PySem.AutoSeq1 renaming wpAny_loadPart'→Gr
open PySem.Builtin.Range renaming rangeSize→Gw,small→Rb
open PySem.Challenge renaming pw_lanepacks_k06_whole_faults_foreseen→Hy,rw_lanepacks_k06_whole_faults_foreseen→Ia
open PyProof.Rows.SortSt renaming mk'→Ii
open Prod.mk renaming inj→Ij
open List.cons renaming injEq→Jd
open PyProof.Rows.IsTup renaming new→Ju
open List.Pairwise renaming nil→Jx,map→Kf
open PySem.Builtin.Dict renaming updateFrom→Kl,pairItems→Ku,missed→Mg
open Classical renaming choose_spec→Ll
open PySem.Around renaming under_plainId→Ls
open Or renaming inl→Lw,inr→Lx
open PySem.Heap.SameBut renaming update→Me
open PySem.Paired renaming length→Mj,snoc→Ra
open Function renaming comp→Mq,comp_def→Nj
open Sum renaming inl→Mw,inr→Mx
open Char renaming toNat→Ni
open PySem.Heap.DictOf renaming new→Ox
open PySem.Shared renaming heap→Pa
open PySem.MeetsSeq.EqGives renaming int→Qw
open PySem.IsRange renaming new→Qz
open PySem.Heap.Ns renaming new→Rc
open PySem.Heap.IsSliceOf renaming new→Rg
open PySem.W.WShape renaming has→Rh
noncomputable section
namespace RR
open PySem
def top(i:Nat):Stmt:=PySem.Challenge.pw_lanepacks_k06_whole_faults_foreseen.main.body.getD i (.Pass ⟨0,0,0,0⟩)
end RR
namespace KK
open PySem PySem.W PySem.Calls PyProof.Rows
def dA(s:Stmt):Arguments:=match s with
 | .FunctionDef _ a _ _ _ _ _ _ _ _=>a
 |_=>⟨[],[],none,[],[],none,[]⟩
def dB(s:Stmt):List Stmt:=match s with
 | .FunctionDef _ _ b _ _ _ _ _ _ _=>b
 |_=>[]
def dS(s:Stmt):Scope:=match s with
 | .FunctionDef _ _ _ _ _ _ c _ _ _=>c
 |_=>{kind:= .function,names:=[],isGenerator:=false,isCoroutine:=false}
abbrev s(x:Str)(t:Nat):Value:= .str x t
abbrev e(P:Oi)(x:Str)(t:Nat)(v:Value):Kv:=⟨PyData.keyHash P x,s x t,v⟩
abbrev f(a i:Nat)(n:Str)(d m:Value):Nat×Obj:=(a,⟨.type "function",none,.func (fnOf n n (dA (RR.top i)) (dB (RR.top i)) (dS (RR.top i)) d .none .none m none (.ref (a - 1)) .none),#[]⟩)
abbrev fk(a i:Nat)(n:Str)(d k m:Value):Nat×Obj:=(a,⟨.type "function",none,.func (fnOf n n (dA (RR.top i)) (dB (RR.top i)) (dS (RR.top i)) d k .none m none (.ref (a - 1)) .none),#[]⟩)
abbrev co(a:Nat)(n:Str)(t:Nat)(l k:Int)(u:Nat)(x y z v:Value):Nat×Obj:=(a,⟨.type "code",none,.fields #[s n t,s n (t+1),s "/claim/cut.py" (t+2),.int l 0,.int k 0,.int 0 0,.int 0 0,.int 3 0,x,.bool true,.int 181 0,y,.none,z,v,.ref (a - 1),.int u 0,.int l 0,s "/claim/cut.py" (u+1)],#[]⟩)
abbrev c(a:Nat)(n:Str)(t:Nat)(l k:Int)(u:Nat):Nat×Obj:=co a n t l k u (.ref (a - 5)) (.ref (a - 4)) (.ref (a - 3)) (.ref (a - 2))
abbrev b(a:Nat)(n:Str)(t:Nat)(l k:Int)(u:Nat):Nat×Obj:=co a n t l k u (.ref (a - 3)) (.ref (a - 2)) .none .none
abbrev m:Value:=s "law_lanepacks_k06_whole_faults_foreseen" 633
noncomputable def K(P:Oi):Frag:=[(3,⟨.type "dict",none,.dict #[e P "__name__" 165 (s "law_lanepacks_k06_whole_faults_foreseen" 633),e P "__doc__" 166 (.none),e P "__package__" 167 (.none),e P "__loader__" 168 (.builtin "__main__.__loader__#opaque"),e P "__spec__" 169 (.none),e P "__annotations__" 170 (.ref 6),e P "__builtins__" 171 (.ref 4),e P "__file__" 173 (s "/claim/cut.py" 172),e P "__cached__" 174 (.none),e P "PackError" 206 (.ref 24),e P "NoBlock" 222 (.ref 37),e P "NoCells" 238 (.ref 49),e P "NoRow" 263 (.ref 68),e P "MOST_WORD" 267 (.int 999 266),e P "DEEDS" 275 (.ref 71),e P "is_whole" 284 (.ref 78),e P "plus" 292 (.ref 85),e P "minus" 300 (.ref 92),e P "times" 308 (.ref 99),e P "least" 316 (.ref 106),e P "most" 324 (.ref 113),e P "less" 332 (.ref 120),e P "over" 340 (.ref 127),e P "pick" 349 (.ref 134),e P "MADE" 364 (.ref 135),e P "done" 373 (.ref 142),e P "MOST_SURE" 377 (.int 64 376),e P "MOST_ROWS" 379 (.int 40 378),e P "MOST_PLACE" 381 (.int 63 380),e P "DEED_PARTS" 384 (.ref 143),e P "OTHER_PARTS" 410 (.ref 144),e P "READERS" 413 (.ref 151),e P "WRITERS" 416 (.ref 152),e P "parts_of" 423 (.ref 159),e P "makes_word" 430 (.ref 166),e P "place_of" 437 (.ref 173),e P "names_of" 443 (.ref 178),e P "may_name" 451 (.ref 185),e P "fits" 460 (.ref 192),e P "is_row" 466 (.ref 197),e P "is_block" 477 (.ref 204),e P "row_at" 486 (.ref 211),e P "writes" 495 (.ref 218),e P "is_safe_number" 502 (.ref 225),e P "can_fault" 514 (.ref 232),e P "share_written_cell" 522 (.ref 239),e P "must_stay" 534 (.ref 246),e P "must_pairs" 540 (.ref 251),e P "may_fault" 548 (.ref 258),e P "must" 555 (.ref 265),e P "MOST_CELLS" 559 (.int 64 558),e P "is_cells" 565 (.ref 270),e P "touches" 573 (.ref 277),e P "do_on_cell" 583 (.ref 284),e P "do_row" 597 (.ref 292),e P "do_rows" 603 (.ref 297),e P "check_run" 611 (.ref 304),e P "run" 622 (.ref 311),e P "values" 632 (.ref 318),e P "_law_cell_at" 644 (.ref 325),e P "_law_mixed" 654 (.ref 332),e P "_law_draw" 663 (.ref 339),e P "_law_pick" 672 (.ref 346),e P "_law_place" 683 (.ref 353),e P "_law_row" 689 (.ref 358),e P "_law_rows" 703 (.ref 365),e P "_law_next" 720 (.ref 372),e P "_law_block" 726 (.ref 377),e P "_law_cells" 732 (.ref 382),e P "_law_names" 739 (.ref 389),e P "_law_may" 745 (.ref 394),e P "_law_must" 751 (.ref 399),e P "_law_mixed_order" 757 (.ref 404),e P "_law_renamed" 763 (.ref 409),e P "law" 769 (.ref 414)] 75,#[]⟩),
 (71,⟨.type "tuple",none,.seq #[s "plus" 268,s "minus" 269,s "times" 270,s "least" 271,s "most" 272,s "less" 273,s "over" 274] 0,#[]⟩),
 f 78 8 "is_whole" (.none) (s "lanepacks.words" 264),
 c 77 "is_whole" 276 16 3 282,
 f 85 9 "plus" (.none) (s "lanepacks.words" 264),
 c 84 "plus" 285 20 2 290,
 f 92 10 "minus" (.none) (s "lanepacks.words" 264),
 c 91 "minus" 293 22 2 298,
 f 99 11 "times" (.none) (s "lanepacks.words" 264),
 c 98 "times" 301 24 2 306,
 f 106 12 "least" (.none) (s "lanepacks.words" 264),
 c 105 "least" 309 26 2 314,
 f 113 13 "most" (.none) (s "lanepacks.words" 264),
 c 112 "most" 317 28 2 322,
 f 120 14 "less" (.none) (s "lanepacks.words" 264),
 c 119 "less" 325 30 2 330,
 f 127 15 "over" (.none) (s "lanepacks.words" 264),
 c 126 "over" 333 32 2 338,
 f 134 16 "pick" (.none) (s "lanepacks.words" 264),
 c 133 "pick" 341 34 3 347,
 (135,⟨.type "dict",none,.dict #[e P "plus" 350 (.ref 85),e P "minus" 351 (.ref 92),e P "times" 352 (.ref 99),e P "least" 353 (.ref 106),e P "most" 354 (.ref 113),e P "less" 355 (.ref 120),e P "over" 356 (.ref 127)] 7,#[]⟩),
 f 142 18 "done" (.none) (s "lanepacks.words" 264),
 c 141 "done" 365 37 2 371,
 (143,⟨.type "tuple",none,.seq #[s "row" 382,s "row" 383] 0,#[]⟩),
 (144,⟨.type "dict",none,.dict #[e P "number" 385 (.ref 145),e P "pick" 387 (.ref 146),e P "load" 391 (.ref 147),e P "take" 393 (.ref 148),e P "store" 397 (.ref 149),e P "put" 400 (.ref 150)] 6,#[]⟩),
 (145,⟨.type "tuple",none,.seq #[s "word" 386] 0,#[]⟩),
 (146,⟨.type "tuple",none,.seq #[s "row" 388,s "row" 389,s "row" 390] 0,#[]⟩),
 (147,⟨.type "tuple",none,.seq #[s "place" 392] 0,#[]⟩),
 (148,⟨.type "tuple",none,.seq #[s "place" 394,s "row" 395,s "row" 396] 0,#[]⟩),
 (149,⟨.type "tuple",none,.seq #[s "place" 398,s "row" 399] 0,#[]⟩),
 (150,⟨.type "tuple",none,.seq #[s "place" 401,s "row" 402,s "row" 403] 0,#[]⟩),
 (151,⟨.type "tuple",none,.seq #[s "load" 411,s "take" 412] 0,#[]⟩),
 (152,⟨.type "tuple",none,.seq #[s "store" 414,s "put" 415] 0,#[]⟩),
 f 159 27 "parts_of" (.none) (s "lanepacks.blocks" 374),
 c 158 "parts_of" 417 50 1 421,
 f 166 28 "makes_word" (.none) (s "lanepacks.blocks" 374),
 c 165 "makes_word" 424 54 1 428,
 f 173 29 "place_of" (.none) (s "lanepacks.blocks" 374),
 c 172 "place_of" 431 56 1 435,
 f 178 30 "names_of" (.none) (s "lanepacks.blocks" 374),
 b 177 "names_of" 438 58 1 441,
 f 185 31 "may_name" (.none) (s "lanepacks.blocks" 374),
 c 184 "may_name" 444 61 2 449,
 f 192 32 "fits" (.none) (s "lanepacks.blocks" 374),
 c 191 "fits" 452 63 3 458,
 f 197 33 "is_row" (.none) (s "lanepacks.blocks" 374),
 b 196 "is_row" 461 69 2 464,
 f 204 34 "is_block" (.none) (s "lanepacks.blocks" 374),
 c 203 "is_block" 467 77 1 475,
 f 211 35 "row_at" (.none) (s "lanepacks.blocks" 374),
 c 210 "row_at" 478 91 2 484,
 f 218 37 "writes" (.none) (s "lanepacks.orders" 487),
 c 217 "writes" 489 99 1 493,
 f 225 38 "is_safe_number" (.none) (s "lanepacks.orders" 487),
 c 224 "is_safe_number" 496 101 1 500,
 f 232 39 "can_fault" (.none) (s "lanepacks.orders" 487),
 c 231 "can_fault" 503 103 2 512,
 f 239 40 "share_written_cell" (.none) (s "lanepacks.orders" 487),
 c 238 "share_written_cell" 515 110 2 520,
 f 246 41 "must_stay" (.none) (s "lanepacks.orders" 487),
 c 245 "must_stay" 523 112 3 532,
 f 251 42 "must_pairs" (.none) (s "lanepacks.orders" 487),
 b 250 "must_pairs" 535 120 1 538,
 f 258 43 "may_fault" (.none) (s "lanepacks.orders" 487),
 c 257 "may_fault" 541 124 2 546,
 f 265 44 "must" (.none) (s "lanepacks.orders" 487),
 c 264 "must" 549 127 1 553,
 f 270 47 "is_cells" (.none) (s "lanepacks.running" 556),
 b 269 "is_cells" 560 133 2 563,
 f 277 48 "touches" (.none) (s "lanepacks.running" 556),
 c 276 "touches" 566 137 2 571,
 f 284 49 "do_on_cell" (.none) (s "lanepacks.running" 556),
 c 283 "do_on_cell" 574 143 4 581,
 (285,⟨.type "tuple",none,.seq #[.int 0 584] 0,#[]⟩),
 f 292 50 "do_row" (.ref 285) (s "lanepacks.running" 556),
 c 291 "do_row" 585 152 4 595,
 f 297 51 "do_rows" (.none) (s "lanepacks.running" 556),
 b 296 "do_rows" 598 161 2 601,
 f 304 52 "check_run" (.none) (s "lanepacks.running" 556),
 c 303 "check_run" 604 169 2 609,
 f 311 53 "run" (.none) (s "lanepacks.running" 556),
 c 310 "run" 612 174 2 620,
 f 318 54 "values" (.none) (s "lanepacks.running" 556),
 c 317 "values" 623 179 2 630,
 f 325 56 "_law_cell_at" (.none) m,
 c 324 "_law_cell_at" 635 184 2 642,
 f 332 57 "_law_mixed" (.none) m,
 c 331 "_law_mixed" 645 193 3 652,
 f 339 58 "_law_draw" (.none) m,
 c 338 "_law_draw" 655 196 3 661,
 f 346 59 "_law_pick" (.none) m,
 c 345 "_law_pick" 664 199 3 670,
 f 353 60 "_law_place" (.none) m,
 c 352 "_law_place" 673 201 5 681,
 f 358 61 "_law_row" (.none) m,
 b 357 "_law_row" 684 204 5 687,
 f 365 62 "_law_rows" (.none) m,
 c 364 "_law_rows" 690 222 4 701,
 f 372 63 "_law_next" (.none) m,
 c 371 "_law_next" 704 234 6 718,
 f 377 64 "_law_block" (.none) m,
 b 376 "_law_block" 721 245 3 724,
 f 382 65 "_law_cells" (.none) m,
 b 381 "_law_cells" 727 254 3 730,
 f 389 66 "_law_names" (.none) m,
 c 388 "_law_names" 733 258 1 737,
 f 394 67 "_law_may" (.none) m,
 b 393 "_law_may" 740 262 2 743,
 f 399 68 "_law_must" (.none) m,
 b 398 "_law_must" 746 267 1 749,
 f 404 69 "_law_mixed_order" (.none) m,
 b 403 "_law_mixed_order" 752 279 3 755,
 f 409 70 "_law_renamed" (.none) m,
 b 408 "_law_renamed" 758 286 2 761,
 f 414 71 "law" (.none) m,
 b 413 "law" 764 291 1 767]
noncomputable def A:List Nat:=[3,71,78,77,85,84,92,91,99,98,106,105,113,112,120,119,127,126,134,133,135,142,141,143,144,145,146,147,148,149,150,151,152,159,158,166,165,173,172,178,177,185,184,192,191,197,196,204,203,211,210,218,217,225,224,232,231,239,238,246,245,251,250,258,257,265,264,270,269,277,276,284,283,285,292,291,297,296,304,303,311,310,318,317,325,324,332,331,339,338,346,345,353,352,358,357,365,364,372,371,377,376,382,381,389,388,394,393,399,398,404,403,409,408,414,413]
noncomputable def view:Bn:={Hy with main:={PySem.Challenge.pw_lanepacks_k06_whole_faults_foreseen.main with body:=[1,2,3,4,6,7,8,9,10,11,12,13,14,15,16,17,18,20,21,22,23,24,25,26,27,28,29,30,31,32,33,34,35,37,38,39,40,41,42,43,44,46,47,48,49,51,52,53,54,56,57,58,59,60,61,62,63,64,65,66,67,68,69,70,71].map RR.top}}
abbrev lo:List Str:=["MADE","OTHER_PARTS","do_row"]
theorem kA(P:Oi):A=(K P).map (·.1):=by kernel_rfl
noncomputable def X(s:Ag):Bool:=xlAt view [] s && recOk (RowW.records (OpenRow.toRowW PySem.Challenge.rw_lanepacks_k06_whole_faults_foreseen.row)) s
noncomputable abbrev H:Hook:=kHook K A kA
abbrev pr:Bn:=PySem.Challenge.rw_lanepacks_k06_whole_faults_foreseen.row.prog
abbrev go(w:World)(b:Bool):Option Ag:=openEnds treeTable pr (w.withFollow "special-get-raises" b) 5676
noncomputable abbrev fA(s:Ag):=seen ((recsOf view).map (·.name)) (ownsOf view) [] {s with gens:= #[]}
noncomputable abbrev fB(s:Ag):=(s.heap.bltView,tabsOk view s)
noncomputable abbrev fC(s:Ag):Bool:=s.heap.keysOk (Pz view lo) ((recsOf view).map (·.name)) ((litsOf view).map (·.1)) ((clssOf view (Pz view lo)).map (·.name)) && s.heap.accountedOkI (Kw pr.main.body) && s.heap.isNs mainGlobals && s.heap.isNs builtinsNs && tablesOk view s.heap && X s && (if true then s.gens.size==0 else !leftWithCleanup s.gens)
noncomputable abbrev fD(s:Ag):=(pinSeenD view (Qg view) s,plainSeenE view (Pz view lo) s,plainSeenD view lo s,wideSeen view s,clsSeenW view lo s,H.obs s)
set_option maxRecDepth 100000 in
set_option maxHeartbeats 0 in
theorem rAf(w:World):(go w false).map fA=some (Qa view):=by kernel_rfl
set_option maxRecDepth 100000 in
set_option maxHeartbeats 0 in
theorem rBf(w:World):(go w false).map fB=some ((Mi,true)):=by kernel_rfl
set_option maxRecDepth 100000 in
set_option maxHeartbeats 0 in
theorem rCf(w:World):(go w false).map fC=some (true):=by kernel_rfl
set_option maxRecDepth 100000 in
set_option maxHeartbeats 0 in
theorem rDf(w:World):(go w false).map fD=some ((pinGoodD (Qg view),Qb view (Pz view lo),Qc view lo,wideGood view,clsGoodW view lo,H.val (w.withFollow "special-get-raises" false))):=by kernel_rfl
set_option maxRecDepth 100000 in
set_option maxHeartbeats 0 in
theorem rAt(w:World):(go w true).map fA=some (Qa view):=by kernel_rfl
set_option maxRecDepth 100000 in
set_option maxHeartbeats 0 in
theorem rBt(w:World):(go w true).map fB=some ((Mi,true)):=by kernel_rfl
set_option maxRecDepth 100000 in
set_option maxHeartbeats 0 in
theorem rCt(w:World):(go w true).map fC=some (true):=by kernel_rfl
set_option maxRecDepth 100000 in
set_option maxHeartbeats 0 in
theorem rDt(w:World):(go w true).map fD=some ((pinGoodD (Qg view),Qb view (Pz view lo),Qc view lo,wideGood view,clsGoodW view lo,H.val (w.withFollow "special-get-raises" true))):=by kernel_rfl
theorem jn{o:Option Ag}{v:H.α}(ha:o.map fA=some (Qa view))(hb:o.map fB=some (Mi,true))(hc:o.map fC=some true)(hd:o.map fD=some (pinGoodD (Qg view),Qb view (Pz view lo),Qc view lo,wideGood view,clsGoodW view lo,v)):
  o.map (λs=>(openSeen view lo (Kw pr.main.body) X true s,H.obs s))=some (openGood view lo,v):=by
 cases o with
 |none=>cases ha
 |some s=>
  have ea:fA s=_:=Cd ha
  have eb:fB s=_:=Cd hb
  have ec:fC s=_:=Cd hc
  have ed:fD s=_:=Cd hd
  obtain⟨b1,b2⟩:=Ij eb
  obtain⟨d1,ed⟩:=Ij ed
  obtain⟨d2,ed⟩:=Ij ed
  obtain⟨d3,ed⟩:=Ij ed
  obtain⟨d4,ed⟩:=Ij ed
  obtain⟨d5,d6⟩:=Ij ed
  show some ((fA s,s.heap.bltView,fC s,tabsOk view s,pinSeenD view (Qg view) s,plainSeenE view (Pz view lo) s,plainSeenD view lo s,wideSeen view s,clsSeenW view lo s),H.obs s)=_
  rw[ea,b1,ec,b2,d1,d2,d3,d4,d5,d6]
  rfl
theorem hl:LeftO pr view lo X H.obs H.val 5676:=λw=>byRow2 "special-get-raises" (P:=λw=>(openEnds treeTable pr w 5676).map (λs=>(openSeen view lo (Kw pr.main.body) X true s,H.obs s))=some (openGood view lo,H.val w)) (λw=>jn ((rAf w)) ((rBf w)) ((rCf w)) ((rDf w))) (λw=>jn ((rAt w)) ((rBt w)) ((rCt w)) ((rDt w))) w
set_option maxRecDepth 100000 in
set_option maxHeartbeats 0 in
theorem said:PySem.Challenge.rw_lanepacks_k06_whole_faults_foreseen.wellSaid=true:=by kernel_rfl
end KK
namespace L2
open PySem PySem.Spec PyProof.Rows
abbrev aR:=Sum Int Str
noncomputable def MG:aR->Value->Bool
 | .inl k,v=>Qx k v
 | .inr x,v=>Qh x v
def keyH(w:World):aR->Int
 | .inl k=>hashInt k
 | .inr x=>hashStr w x
theorem Z0: ∀{k:aR} {v:Value},MG k v=true->(∃i t,k=Mw i/\v=Oj i t)∨(∃x t,k=Mx x/\v=Ol x t)
 | .inl i,v,h=>by
  obtain⟨t,e⟩:=Value.isInt_shape (k:=i) (v:=v) h
  exact .inl ⟨i,t,rfl,e⟩
 | .inr x,v,h=>by
  obtain⟨t,e⟩:=Value.isStrOf_shape (x:=x) (v:=v) h
  exact .inr ⟨x,t,rfl,e⟩
theorem C2(i:Int)(t:Tok):MG (.inl i) (.int i t)=true:=by simp[MG,Qx]
theorem C3(x:Str)(t:Tok):MG (.inr x) (.str x t)=true:=by simp[MG,Qh]
theorem zHU(a b:Int):decide ((Mw a:aR)=Mw b)=(a==b):=by
 by_cases e:a=b
 ·subst e;simp
 ·have h : ¬ (Mw a : aR) = Mw b := λq => e (Sum.inl.inj q)
  rw[decide_eq_false h]
  exact(beq_eq_false_iff_ne.mpr e).symm
theorem zHR(a b:Str):decide ((Mx a:aR)=Mx b)=decide (a=b):=by
 by_cases e:a=b
 ·subst e;simp
 ·have h : ¬ (Mx a : aR) = Mx b := λq => e (Sum.inr.inj q)
  rw[decide_eq_false h,decide_eq_false e]
theorem zHT(a:Int)(b:Str):decide ((Mw a:aR)=Mx b)=false:=decide_eq_false (λq=>nomatch q)
theorem zHS(a:Str)(b:Int):decide ((Mx a:aR)=Mw b)=false:=decide_eq_false (λq=>nomatch q)
def a7(prog:Bn)(w:World):PySem.KeyKind prog w aR where
 is:=MG
 hash:=keyH w
 inj:=λv a b ha hb=>by
  rcases Z0 ha with⟨i,t,rfl,rfl⟩|⟨x,t,rfl,rfl⟩
  ·rcases Z0 hb with⟨j,u,rfl,e⟩|⟨y,u,rfl,e⟩
   ·injection e with e1 _;rw[e1]
   ·exact nomatch e
  ·rcases Z0 hb with⟨j,u,rfl,e⟩|⟨y,u,rfl,e⟩
   ·exact nomatch e
   ·injection e with e1 _;rw[e1]
 byValue:=λk v h=>by
  rcases Z0 h with⟨i,t,rfl,rfl⟩|⟨x,t,rfl,rfl⟩<;>rfl
 pyHash:=λhv h=>by
  rcases Z0 hv with⟨i,t,rfl,rfl⟩|⟨x,t,rfl,rfl⟩
  ·exact wpAny_pyHash_int h
  ·exact wpAny_pyHash_str h
 eqBool:=λhu hv h=>by
  rcases Z0 hu with⟨i,t,rfl,rfl⟩|⟨x,t,rfl,rfl⟩
  ·rcases Z0 hv with⟨j,u,rfl,rfl⟩|⟨y,u,rfl,rfl⟩
   ·rw[zHU] at h;exact Km h
   ·rw[zHT] at h;exact SeqAt.EqAt.int_str i t y u _ _ _ _ h
  ·rcases Z0 hv with⟨j,u,rfl,rfl⟩|⟨y,u,rfl,rfl⟩
   ·rw[zHS] at h;exact SeqAt.EqAt.str_int x t j u _ _ _ _ h
   ·rw[zHR] at h;exact wpAny_eqBool_str h
 «strs» :=λk x t v h=>by
  rcases Z0 h with⟨i,u,rfl,e⟩|⟨y,u,rfl,e⟩
  ·exact nomatch e
  ·injection e with e1 _
   subst e1
   cases v<;>rfl
theorem IM(prog:Bn)(w:World)(i:Int)(t:Tok):(a7 prog w).is (.inl i) (.int i t)=true:=C2 i t
theorem IN(prog:Bn)(w:World)(x:Str)(t:Tok):(a7 prog w).is (.inr x) (.str x t)=true:=C3 x t
inductive V where
 |non|bl (b:Bool)|int (i:Int)|str (x:Str)|byt (b:Array UInt8)|flt (b:UInt64)|ref (a:Addr)|ty (n:String)
 deriving DecidableEq
def bZ:V->Value->Prop
 | .non,u=>u=Value.none
 | .bl b,u=>u=Qd b
 | .int i,u=> ∃t,u=Oj i t
 | .str x,u=> ∃t,u=Ol x t
 | .byt b,u=> ∃t,u=Value.bytes b t
 | .flt b,u=> ∃t,u=Qy b t
 | .ref a,u=>u=Bq a
 | .ty n,u=>u=Jt n
abbrev bT:List V->List Value->Prop:=Paired bZ
theorem bT.length{xs:List V}{us:List Value}(r:bT xs us):xs.length=us.length:=Mj r
theorem bT.get: ∀{xs:List V} {us:List Value} {i:Nat} {x:V},bT xs us->xs[i]? =some x-> ∃u,us[i]? =some u/\bZ x u
 |_,_,_,_,.nil,e=>by simp at e
 |_,_,0,_,.cons r _,e=>by simp at e;subst e;exact⟨_,rfl,r⟩
 |_,_,i+1,x,.cons _ t,e=>by
  obtain⟨u,h1,h2⟩:=bT.get (i:=i) (x:=x) t (by simpa using e)
  exact⟨u,by simpa using h1,h2⟩
theorem bT.set{x:V}{u:Value}(r:bZ x u): ∀{xs:List V} {us:List Value} (i:Nat),bT xs us->bT (xs.set i x) (us.set i u)
 |_,_,_,.nil=> .nil
 |_,_,0,.cons _ t=> .cons r t
 |_,_,i+1,.cons q t=> .cons q (bT.set r i t)
theorem bT.append: ∀{xs ys:List V} {us ws:List Value},bT xs us->bT ys ws->bT (xs++ys) (us++ws)
 |_,_,_,_,.nil,s=>s
 |_,_,_,_,.cons r t,s=> .cons r (bT.append t s)
theorem bT.take: ∀{xs:List V} {us:List Value} (n:Nat),bT xs us->bT (xs.take n) (us.take n)
 |_,_,0,_=> .nil
 |_,_,_+1,.nil=> .nil
 |_,_,n+1,.cons r t=> .cons r (bT.take n t)
theorem bT.drop: ∀{xs:List V} {us:List Value} (n:Nat),bT xs us->bT (xs.drop n) (us.drop n)
 |_,_,0,r=>r
 |_,_,_+1,.nil=> .nil
 |_,_,n+1,.cons _ t=>bT.drop n t
def QD:Option V->Option Value->Prop
 |some v,some u=>bZ v u
 |none,none=>True
 |_,_=>False
def KV{κ:Type}:List (κ×V)->List (κ×Value)->Prop:=Paired λ(p:κ×V) (q:κ×Value)=>p.1=q.1/\bZ p.2 q.2
noncomputable def kV:aR->V
 | .inl i=> .int i
 | .inr x=> .str x
inductive HO where
 |lst (xs:List V)
 |tup (xs:List V)
 |dK (kvs:List (aR×V))|dT (kvs:List (List aR×V))
 |set (S:Int->Bool) (n:Nat)
 |ins (C dx:Addr) (fs:List (Str×V))
 |own (x:Addr)
 |xd (fs:List (Str×V))
 |met (f x:Addr)
 |rng (lo hi:Int)
 |frz (o:Obj) (u:HO)
 |tbl (ps:Array Value)
 |ext (φ:Heap->Prop)
abbrev Hp:=Addr->Option HO
def bA(H:Hp)(a:Addr)(o:HO):Hp:=λb=>if b=a then some o else H b
theorem cH{H:Hp}{a:Addr}{o:HO}:bA H a o a=some o:=by unfold bA;rw[if_pos rfl]
theorem bQ{H:Hp}{a b:Addr}{o:HO}(h:b≠a):bA H a o b=H b:=by unfold bA;rw[if_neg h]
theorem zK1{H:Hp}{a b:Addr}{o u:HO}(h:H a=some o)(h':H b=some u)(d:o≠u):a≠b:=by intro e;subst e;rw[h] at h';exact d (Cd h')
theorem X8{H:Hp}{a b:Addr}{o:HO}(h:H a=some o)(h':H b=none):a≠b:=by intro e;subst e;rw[h] at h';cases h'
section
variable(P:Bn)(w:World)
def ZQ(H:Hp)(h:Heap)(a:Addr):HO->Prop
 | .lst xs => xs.length <= sizeLine /\ ∃ (its : List Value) (n : Nat),bT xs its /\ h.get? a = some { cls := .type "list",data := .seq its.toArray n }
 | .tup xs => xs.length <= sizeLine /\ ∃ its : List Value,bT xs its /\ IsTup h a its.toArray
 | .dK kvs => kvs.length <= sizeLine /\ (a == Ex) = false /\ ∃ vs,KV kvs vs /\ h.DictOf (a7 P w) a vs
 | .dT kvs => kvs.length <= sizeLine /\ (a == Ex) = false /\ ∃ xs : List (List aR × Addr × Value),
   Paired (λ(p:List aR×V) (q:List aR×Addr×Value)=>p.1=q.1/\H q.2.1=some (.tup (p.1.map kV))/\bZ p.2 q.2.2) kvs xs∧
   ∃o es ep,h.get? a=some o/\o.ExactDict/\o.data= .dict es ep/\es.toList=xs.map (entryOfKey (tupleKind (a7 P w)))/\(xs.map (·.1)).Nodup
 | .set S n => h.SetOf (intKind P w) a S n
 | .ins C dx fs => H dx = some (.own a) /\ fs.length <= 1000 /\ dx ≠ a /\ h.get? a = some (Qp C dx) ∧
   ∃mA,h.Ns1 dx mA/\(∀f,QD (fs.lookup f) (mA f))/\Qq mA (fs.map (·.1))
 | .own _=> ∃o,h.get? a=some o
 | .xd fs=> ∃mA,h.Ns1 a mA/\ ∀f,QD (fs.lookup f) (mA f)
 | .rng lo hi=> ∃t u v,h.get? a=some {cls:= .type "range",data:= .fields #[.int lo t,.int hi u,.int 1 v]}
 | .frz o u=>h.get? a=some o/\ZQ H h a u
 | .tbl ps=>h.get? a=some {cls:= .none,data:= .fields ps}
 | .met f x=>h.get? a=some (Om (.ref f) (.ref x))
 | .ext φ=>φ h/\(∃o,h.get? a=some o)/\ ∀h1 h2:Heap,φ h1->(∀o,h1.get? a=some o->h2.get? a=some o)->φ h2
def RS(H:Hp)(h:Heap):Prop:= ∀a o,H a=some o->ZQ P w H h a o
end
section
variable{P:Bn}{w:World}{H H':Hp}{h h':Heap}{a:Addr}{o:HO}
theorem ZQ.lt(x:ZQ P w H h a o):a<h.objs.size:=by
 cases o with
 |lst xs=>obtain⟨_,_,_,_,e⟩:=x;exact Am e
 |tup xs=>obtain⟨_,_,_,p⟩:=x;exact p.lt
 |dK kvs=>obtain⟨_,_,_,_,o,_,_,e,_⟩:=x;exact Am e
 |dT kvs=>obtain⟨_,_,_,_,o,_,_,e,_⟩:=x;exact Am e
 |set S n=>obtain⟨o,_,_,_,e,_⟩:=x;exact Am e
 |ins C dx fs=>obtain⟨_,_,_,e,_⟩:=x;exact Am e
 |own y=>obtain⟨_,e⟩:=x;exact Am e
 |xd fs=>obtain⟨_,⟨_,_,_,e,_⟩,_⟩:=x;exact Am e
 |rng lo hi=>obtain⟨_,_,_,e⟩:=x;exact Am e
 |frz ob u=>obtain⟨e,_⟩:=x;exact Am e
 |tbl ps=>exact Am (show h.get? a=some _ from x)
 |met f y=>exact Am (show h.get? a=some _ from x)
 |ext φ=>obtain⟨_,⟨_,e⟩,_⟩:=x;exact Am e
theorem Paired.mapP{α β:Type}{F G:α->β->Prop}: ∀{l₁:List α} {l₂:List β},Paired F l₁ l₂->(∀a b,F a b->G a b)->Paired G l₁ l₂
 |_,_,.nil,_=> .nil
 |_,_,.cons r t,f=> .cons (f _ _ r) (Paired.mapP t f)
theorem ZQ.stay(x:ZQ P w H h a o)(k: ∀b u,(b=a∨H b=some (.own a))->h.get? b=some u->h'.get? b=some u)
  (ho: ∀b,H b=some (.own a)->H' b=some (.own a)) (ht: ∀b xs,H b=some (.tup xs)->H' b=some (.tup xs)):ZQ P w H' h' a o:=by
 induction o with
 |lst xs=>obtain⟨z,its,n,r,e⟩:=x;exact⟨z,its,n,r,k _ _ (.inl rfl) e⟩
 |tup xs=>obtain⟨z,its,r,ob,e,c⟩:=x;exact⟨z,its,r,ob,k _ _ (.inl rfl) e,c⟩
 |dK kvs=>obtain⟨z,y,vs,r,ob,es,ep,e,c⟩:=x;exact⟨z,y,vs,r,ob,es,ep,k _ _ (.inl rfl) e,c⟩
 |dT kvs=>
  obtain⟨z,y,xs,r,ob,es,ep,e,c⟩:=x
  exact⟨z,y,xs,Paired.mapP r λp q z=>⟨z.1,ht _ _ z.2.1,z.2.2⟩,ob,es,ep,k _ _ (.inl rfl) e,c⟩
 |set S n=>obtain⟨ob,es,ep,t,e,c⟩:=x;exact⟨ob,es,ep,t,k _ _ (.inl rfl) e,c⟩
 |ins C dx fs=>
  obtain⟨d,z,ne,e,mA,⟨od,es,ep,e2,c⟩,r⟩:=x
  exact⟨ho _ d,z,ne,k _ _ (.inl rfl) e,mA,⟨od,es,ep,k _ _ (.inr d) e2,c⟩,r⟩
 |own y=>obtain⟨ob,e⟩:=x;exact⟨ob,k _ _ (.inl rfl) e⟩
 |xd fs=>obtain⟨mA,⟨od,es,ep,e,c⟩,r⟩:=x;exact⟨mA,⟨od,es,ep,k _ _ (.inl rfl) e,c⟩,r⟩
 |rng lo hi=>obtain⟨t,u,v,e⟩:=x;exact⟨t,u,v,k _ _ (.inl rfl) e⟩
 |frz ob u ih=>obtain⟨e,q⟩:=x;exact⟨k _ _ (.inl rfl) e,ih q⟩
 |tbl ps=>
  have e:h.get? a=some {cls:= .none,data:= .fields ps}:=x
  show h'.get? a=some {cls:= .none,data:= .fields ps}
  exact k a _ (.inl rfl) e
 |met f y=>
  have e:h.get? a=some (Om (.ref f) (.ref y)):=x
  show h'.get? a=some (Om (.ref f) (.ref y))
  exact k a _ (.inl rfl) e
 |ext φ=>obtain⟨p,⟨o,e⟩,st⟩:=x;exact⟨st _ _ p λo q=>k _ _ (.inl rfl) q,⟨o,k _ _ (.inl rfl) e⟩,st⟩
theorem RS.lt(x:RS P w H h)(e:H a=some o):a<h.objs.size:=(x a o e).lt
theorem RS.fresh(x:RS P w H h)(e:h.objs.size<=a):H a=none:=by
 cases q:H a with
 |none=>rfl
 |some u=>exact absurd (Aw (x.lt q) e) (Ca _)
theorem RS.kept(x:RS P w H h)(k: ∀b u,h.get? b=some u->h'.get? b=some u):RS P w H h':=λa o e=>
 (x a o e).stay (λb u _ q=>k b u q) (λ_ q=>q) λ_ _ q=>q
theorem RS.laid(x:RS P w H h)(k: ∀b u,h.get? b=some u->h'.get? b=some u)(hp:h.objs.size<=a)(new:ZQ P w (bA H a o) h' a o):RS P w (bA H a o) h':=λb u e=>by
 have hn:=x.fresh hp
 by_cases hb:b=a
 ·subst hb;rw[cH] at e;cases e;exact new
 ·rw[bQ hb] at e
  exact(x b u e).stay (λc v _ q=>k c v q) (λc q=>by rw[bQ (X8 q hn)];exact q) λc xs q=>by rw[bQ (X8 q hn)];exact q
end
def Rd(H:Hp)(a:Addr)(u:HO):Prop:=H a=some u∨ ∃o,H a=some (.frz o u)
theorem Rd.ok{P:Bn}{w:World}{H:Hp}{h:Heap}{a:Addr}{u:HO}(r:Rd H a u)(x:RS P w H h):ZQ P w H h a u:=by
 rcases r with r|⟨o,r⟩
 ·exact x a u r
 ·obtain⟨_,q⟩:=x a _ r
  exact q
def Mut:Option HO->Prop
 |some (.lst _)=>True
 |some (.dK _)=>True
 |some (.dT _)=>True
 |some (.set _ _)=>True
 |some (.ins _ _ _)=>True
 |some (.ext _)=>True
 |_=>False
section
variable{P:Bn}{w:World}{H:Hp}{h h':Heap}{x e:Addr}{o':HO}
theorem RS.write(ok:RS P w H h)(mu:Mut (H x))(he:e=x∨H e=some (.own x))(k: ∀b u,b≠e->h.get? b=some u->h'.get? b=some u)(heo: ∃u,h'.get? e=some u)
  (new : ZQ P w (bA H x o') h' x o') : RS P w (bA H x o') h' := λb u q => by
 have nq: ∀c y,H c=some (.own y)->c≠x:=λc y r z=>by subst z;rw[r] at mu;exact mu
 have pq: ∀c xs,H c=some (.tup xs)->c≠x:=λc xs r z=>by subst z;rw[r] at mu;exact mu
 by_cases hb:b=x
 ·subst hb;rw[cH] at q;cases q;exact new
 ·rw[bQ hb] at q
  by_cases hbe:b=e
  ·have q':H b=some (.own x):=by
    rcases he with z|z
    ·exact absurd (hbe.trans z) hb
    ·rw[hbe];exact z
   rw[q] at q';cases q'
   obtain⟨v,hv⟩:=heo
   exact⟨v,by rw[hbe];exact hv⟩
  ·refine (ok b u q).stay (λc v hc r => k c v ?_ r) (λc r => by rw [bQ (nq c b r)];exact r) λc xs r => by rw [bQ (pq c xs r)];exact r
   rcases hc with rfl|hc
   ·exact hbe
   ·rintro rfl
    rcases he with z|z
    ·exact nq c b hc z
    ·rw[hc] at z;cases z;exact hb rfl
end
structure Un(fs ex:List Addr)(H H':Hp)(h h':Heap):Prop where
 keep: ∀b o,h.get? b=some o->H b=none->b∉fs->b∉ex->h'.get? b=some o
 slot: ∀b o,h.get? b=some o->H b=none->b∈fs->b∉ex-> ∃sl,h'.get? b=some {o with slots:=sl}
 free: ∀b o,h.get? b=some o->H b=none->b∉ex->H' b=none
 there: ∀b o,h.get? b=some o->b∉ex-> ∃o',h'.get? b=some o'
 tups: ∀b xs,H b=some (.tup xs)->H' b=some (.tup xs)
 frzs: ∀b o u,H b=some (.frz o u)->H' b=some (.frz o u)
 tbls: ∀b ps,H b=some (.tbl ps)-> ∃more,H' b=some (.tbl (ps++more))
section
variable{fs fs' ex ex':List Addr}{H H1 H2:Hp}{h h1 h2 h':Heap}{a x e:Addr}{o:HO}
theorem Un.any(u:Un fs ex H H1 h h1){b:Addr}{ob:Obj}(q:h.get? b=some ob)(n:H b=none)(hx:b∉ex): ∃sl,h1.get? b=some {ob with slots:=sl}:=by
 by_cases hb:b∈fs
 ·exact u.slot b ob q n hb hx
 ·exact⟨ob.slots,u.keep b ob q n hb hx⟩
theorem Un.kept(k: ∀b u,h.get? b=some u->h'.get? b=some u):Un fs ex H H h h':=
 ⟨λb ob q _ _ _=>k b ob q,λb ob q _ _ _=>⟨ob.slots,k b ob q⟩,λ_ _ _ n _=>n,λb ob q _=>⟨ob,k b ob q⟩,λ_ _ q=>q,λ_ _ _ q=>q,λ_ ps q=>⟨#[],by rw[q];simp⟩⟩
theorem Un.refl:Un fs ex H H h h:=Un.kept λ_ _ q=>q
theorem Un.laid(k: ∀b u,h.get? b=some u->h'.get? b=some u)(hp:h.objs.size<=a)(hn:H a=none):Un fs ex H (bA H a o) h h' where
 keep:=λb u q _ _ _=>k b u q
 slot:=λb u q _ _ _=>⟨u.slots,k b u q⟩
 free:=λb u q n _=>by rw[bQ (Bf (Aw (Am q) hp))];exact n
 there:=λb u q _=>⟨u,k b u q⟩
 tups:=λb xs q=>by rw[bQ (X8 q hn)];exact q
 frzs:=λb u xs q=>by rw[bQ (X8 q hn)];exact q
 tbls:=λb ps q=>⟨#[],by rw[bQ (X8 q hn),q];simp⟩
theorem Un.write(mu:Mut (H x))(he:e=x∨H e=some (.own x))(k: ∀b u,b≠e->h.get? b=some u->h'.get? b=some u)(heo: ∃u,h'.get? e=some u):Un fs ex H (bA H x o) h h':=by
 have hx: ∀b,H b=none->b≠x:=λb n z=>by subst z;rw[n] at mu;exact mu
 have hb: ∀b,H b=none->b≠e:=λb n z=>by
  subst z
  rcases he with r|r
  ·exact hx b n r
  ·rw[n] at r;cases r
 have hm: ∀b u,H b=some u-> ¬Mut (some u)->b≠x:=λb u q nm z=>by subst z;rw[q] at mu;exact nm mu
 refine⟨λb u q n _ _=>k b u (hb b n) q,λb u q n _ _=>⟨u.slots,k b u (hb b n) q⟩,λb u q n _=>by rw[bQ (hx b n)];exact n,λb u q _=> ?_,
  λb xs q=>by rw[bQ (hm b _ q λz=>z)];exact q,λb u xs q=>by rw[bQ (hm b _ q λz=>z)];exact q,λb ps q=>⟨#[],by rw[bQ (hm b _ q λz=>z),q];simp⟩⟩
 by_cases hbe:b=e
 ·subst hbe;exact heo
 ·exact⟨u,k b u hbe q⟩
end
def trk(h:Heap)(H:Hp):List Addr:=(Ar h.objs.size).filter λa=>(H a).isSome
def K2(h:Heap)(H:Hp):Heap:=W.hideAll h (trk h H)
theorem CY(h:Heap)(H:Hp):(K2 h H).objs.size=h.objs.size:=W.hideAll_size _ _
theorem zBC{h:Heap}{H:Hp}{b:Addr}{o:Obj}(e:h.get? b=some o)(n:H b=none):(K2 h H).get? b=some o:=
 W.hideAll_get _ e λhm=>by
  have q:(H b).isSome=true:=(Eh.mp hm).2
  rw[n] at q;simp at q
theorem zCW{h:Heap}{H:Hp}{b:Addr}{o:Obj}(e:(K2 h H).get? b=some o):h.get? b=some o/\H b=none:=by
 have e':h.get? b=some o:=W.of_hideAll (trk h H) e
 refine⟨e',?_⟩
 cases q:H b with
 |none=>rfl
 |some x=>
  have hm:b∈trk h H:=Eh.mpr ⟨Bt.mpr (Am e'),by simp[q]⟩
  have z:(K2 h H).get? b=none:=W.hideAll_none (trk h H) hm
  rw[z] at e;cases e
structure Mod(K:An)(mg:Str->Option Value)(base:Heap):Prop where
 kin:K.In base
 glob:base.Ns mainGlobals mg
 blt: ∃mb,base.Ns builtinsNs mb/\ ∀x:Str,x≠ "__name__" ->mb x=Bg x
 nolimit:base.NoLimit
structure Cx where
 prog:Bn
 w:World
 K:An
 mg:Str->Option Value
 base:Heap
 A:Cy
 N:List Str
 s₀:Ag
 H₀:Hp
 env:Env
 outer:List Env
 stack:List Env
 ex:List Addr
 fn:Str->Bool
 calm:Bool
 pn:List (Addr×Obj)
 xe:Value->Ag->Prop
def CW(l:List Env):List Addr:=l.filterMap (·.frame)
abbrev Cx.fs(X:Cx):List Addr:=CW X.outer
def Vis(sc:Scope)(x:Str):Prop:=sc.names.lookup x=some .local∨sc.names.lookup x=some .cell∨sc.names.lookup x=some .free
def B6(sc:Scope)(x:Str):Prop:=sc.names.lookup x=some .local∨sc.names.lookup x=some .cell
def Look(env:Env)(h:Heap)(m:Str->Option Value)(x:Str)(u:Value):Prop:=
 (env.kindOf x=some .local/\m x=some u)∨((env.kindOf x=some .cell∨env.kindOf x=some .free)/\ ∃c,env.cells.lookup x=some c/\h.IsCell c (some u))
structure Cx.Ok(X:Cx):Prop where
 mod:Mod X.K X.mg X.base
 kind:X.env.scope.kind= .function
 glob:X.env.globals=mainGlobals
 blt:X.env.builtins=builtinsNs
 above:X.s₀.heap.objs.size<=X.env.locals
 inj: ∀x y c,X.env.cells.lookup x=some c->X.env.cells.lookup y=some c->x=y
 has: ∀x,(X.env.kindOf x=some .cell∨X.env.kindOf x=some .free)-> ∃c,X.env.cells.lookup x=some c
 cab: ∀x c,X.fn x=true->X.env.cells.lookup x=some c->X.s₀.heap.objs.size<=c
 hd:X.calm=true->X.A.handled=none
 frames:X.A.frames=some X.stack
 stk:X.stack=X.outer∨(X.stack=X.env::X.outer/\X.env.frame=some X.env.locals)
 exf: ∀b∈X.ex,b≠X.env.locals/\ ∀x c,X.env.cells.lookup x=some c->c≠b
 bs: ∀b o,X.base.get? b=some o->X.s₀.heap.get? b=some o/\X.H₀ b=none
 bsz:X.base.objs.size<=X.s₀.heap.objs.size
 noex: ∀b o,X.base.get? b=some o->b∉X.ex
 exfs: ∀b∈X.ex,b∉X.fs
 funs:X.s₀.heap.FunFrames X.base X.outer
 frf: ∀b∈X.fs,X.H₀ b=none
structure cN(X:Cx)(aa:List (Addr×Obj))(σ:List (Option V))(H:Hp)(s:Ag):Prop where
 ok:X.Ok
 os:s.os=X.s₀.os
 bare:Kx s.gens
 base:Un X.fs X.ex X.H₀ H X.s₀.heap s.heap
 loc: ∃m,s.heap.Ns X.env.locals m/\ ∀(i:Nat) (x:Str) (v:V),X.N[i]? =some x->σ[i]? =some (some v)->Vis X.env.scope x-> ∃u,bZ v u/\Look X.env s.heap m x u
 cell: ∀x c,X.env.cells.lookup x=some c-> ∃v,s.heap.IsCell c v
 free:H X.env.locals=none
 freeC: ∀x c,X.env.cells.lookup x=some c->H c=none
 pin: ∀p∈X.pn++aa,s.heap.get? p.1=some p.2/\H p.1=none/\p.1≠X.env.locals/\p.1∉X.fs/\ ∀v,p.2.data≠ .cell v
 hok:RS X.prog X.w H s.heap
 len:σ.length=X.N.length
section
variable{X:Cx}{aa:List (Addr×Obj)}{σ:List (Option V)}{H H':Hp}{s:Ag}{h':Heap}
theorem Cx.Ok.nofr(ok:X.Ok){b:Addr}{o:Obj}(e:X.base.get? b=some o):b∉X.fs:=λhb=>by
 have:=(ok.funs.mem hb).1
 rw[e] at this;cases this
theorem cN.bs(I:cN X aa σ H s): ∀b o,X.base.get? b=some o->s.heap.get? b=some o/\H b=none:=λb o e=>
 ⟨I.base.keep b o (I.ok.bs b o e).1 (I.ok.bs b o e).2 (I.ok.nofr e) (I.ok.noex b o e),I.base.free b o (I.ok.bs b o e).1 (I.ok.bs b o e).2 (I.ok.noex b o e)⟩
theorem cN.bk(I:cN X aa σ H s): ∀b o,X.base.get? b=some o->s.heap.get? b=some o:=λb o e=>(I.bs b o e).1
theorem cN.mod(I:cN X aa σ H s):Mod X.K X.mg X.base:=I.ok.mod
theorem cN.kIn(I:cN X aa σ H s):X.K.In s.heap:=I.ok.mod.kin.keeps I.bk
theorem cN.lt(I:cN X aa σ H s):X.env.locals<s.heap.objs.size:=let ⟨_,hn,_⟩:=I.loc;hn.lt
theorem cN.sz(I:cN X aa σ H s):X.s₀.heap.objs.size<=s.heap.objs.size:=Ei I.ok.above (Nk I.lt)
theorem cN.nofs(I:cN X aa σ H s){a:Addr}(h:s.heap.objs.size<=a):a∉X.fs:=λhb=>by
 obtain⟨_,o,ho,_⟩:=I.ok.funs.mem hb
 exact absurd (Aw (Am ho) (Ei I.sz h)) (Ca _)
theorem cN.cne(I:cN X aa σ H s): ∀x c,X.env.cells.lookup x=some c->c≠X.env.locals:=λx c e z=>by
 obtain⟨v,o,ho,hd⟩:=I.cell x c e
 obtain⟨m,⟨o',es,ep,ho',hd',_⟩,_⟩:=I.loc
 rw[z,ho'] at ho;cases ho;rw[hd'] at hd;cases hd
theorem cN.funs(I:cN X aa σ H s):s.heap.FunFrames X.base X.outer:=by
 have all: ∀(l:List Env),(∀b∈CW l,b∈X.fs)->X.s₀.heap.FunFrames X.base l->s.heap.FunFrames X.base l:=by
  intro l
  induction l with
  |nil=>intro _ _;trivial
  |cons env r ih=>
   intro hs hl
   obtain⟨hk,⟨L,o,hf,hn,ho,hd⟩,hr⟩:=hl
   have hL:L∈X.fs:=hs L (by unfold CW;rw[Ik,hf];exact Ba)
   obtain⟨sl,e⟩:=I.base.slot L o ho (I.ok.frf L hL) hL λz=>I.ok.exfs L z hL
   exact⟨hk,⟨L,_,hf,hn,e,hd⟩,ih (λb hb=>hs b (by unfold CW;rw[Ik,hf];exact Ao _ hb)) hr⟩
 exact all X.outer (λ_ hb=>hb) I.ok.funs
theorem cN.stack(I:cN X aa σ H s):s.heap.FunFrames X.base X.stack:=by
 rcases I.ok.stk with e|⟨e,hf⟩
 ·rw[e];exact I.funs
 ·rw[e]
  obtain⟨m,hn,_⟩:=I.loc
  refine .cons (by rw[I.ok.kind];decide) hf hn ?_ I.funs
  exact Heap.get?_none_of_le (Ei I.ok.bsz I.ok.above)
theorem cN.stkSub(I:cN X aa σ H s): ∀b∈CW X.stack,b∈X.env.locals::X.fs:=λb hb=>by
 rcases I.ok.stk with e|⟨e,hf⟩
 ·rw[e] at hb;exact Ao _ hb
 ·rw[e] at hb
  unfold CW at hb
  rw[Ik,hf] at hb
  exact hb
theorem cN.stkFree(I:cN X aa σ H s): ∀b∈CW X.stack,H b=none:=λb hb=>by
 rcases Aj.mp (I.stkSub b hb) with e|hb
 ·rw[e];exact I.free
 ·obtain⟨_,o,ho,_⟩:=I.ok.funs.mem hb
  exact I.base.free b o ho (I.ok.frf b hb) λz=>I.ok.exfs b z hb
theorem cN.step{g':Array GenState}{t':Nat}{d':Drawn}{ch:List Addr}(I:cN X aa σ H s)
  (hch: ∀b∈ch,(b∈X.ex∨X.s₀.heap.objs.size<=b)/\b≠X.env.locals/\(∀x c,X.env.cells.lookup x=some c->c≠b)/\ ∀p∈X.pn++aa,p.1≠b)
  (keep: ∀b o,b≠X.env.locals->b∉X.fs->b∉ch->s.heap.get? b=some o->H b=none->h'.get? b=some o)
  (slot: ∀b o,b≠X.env.locals->b∈X.fs->b∉ch->s.heap.get? b=some o->H b=none-> ∃sl,h'.get? b=some {o with slots:=sl}) (free: ∀b o,b∉ch->s.heap.get? b=some o->H b=none->H' b=none)
  (there: ∀b o,b∉ch->s.heap.get? b=some o-> ∃o',h'.get? b=some o')
  (tups: ∀b xs,H b=some (.tup xs)->H' b=some (.tup xs)) (frzs: ∀b o u,H b=some (.frz o u)->H' b=some (.frz o u)) (tbls: ∀b ps,H b=some (.tbl ps)-> ∃more,H' b=some (.tbl (ps++more)))
  (ns: ∀m,s.heap.Ns X.env.locals m->h'.Ns X.env.locals m) (hok:RS X.prog X.w H' h') (hg:Kx g'):
  cN X aa σ H' {s with heap:=h',gens:=g',drawn:=d',toks:=t'}:=by
 have neL: ∀b o,X.s₀.heap.get? b=some o->b≠X.env.locals:=λb o e=>Bf (Aw (Am e) I.ok.above)
 have neC: ∀b o,X.s₀.heap.get? b=some o->b∉X.ex->b∉ch:=λb o e hx hb=>by
  rcases(hch b hb).1 with z|z
  ·exact hx z
  ·exact absurd (Aw (Am e) z) (Ca _)
 have jc: ∀x c,X.env.cells.lookup x=some c-> ∀v,s.heap.IsCell c v->h'.IsCell c v:=λx c e v q0=>by
  obtain⟨o,ho,hd⟩:=q0
  have nch:c∉ch:=λz=>(hch c z).2.2.1 x c e rfl
  by_cases hc:c∈X.fs
  ·obtain⟨sl,q⟩:=slot c o (I.cne x c e) hc nch ho (I.freeC x c e)
   exact⟨_,q,hd⟩
  ·exact⟨o,keep c o (I.cne x c e) hc nch ho (I.freeC x c e),hd⟩
 refine⟨I.ok,I.os,hg,⟨λb o e n hb hx=> ?_,λb o e n hb hx=> ?_,λb o e n hx=> ?_,λb o e hx=> ?_,λb xs e=>tups b xs (I.base.tups b xs e),λb o xs e=>frzs b o xs (I.base.frzs b o xs e),λb ps e=> ?_⟩,?_,λx c e=> ?_,?_,λx c e=> ?_,λp hp=> ?_,hok,I.len⟩
 ·exact keep b o (neL b o e) hb (neC b o e hx) (I.base.keep b o e n hb hx) (I.base.free b o e n hx)
 ·obtain⟨sl,e1⟩:=I.base.slot b o e n hb hx
  obtain⟨sl',e2⟩:=slot b _ (neL b o e) hb (neC b o e hx) e1 (I.base.free b o e n hx)
  exact⟨sl',e2⟩
 ·obtain⟨o',e1⟩:=I.base.there b o e hx
  exact free b o' (neC b o e hx) e1 (I.base.free b o e n hx)
 ·obtain⟨o',e1⟩:=I.base.there b o e hx
  exact there b o' (neC b o e hx) e1
 ·obtain⟨m1,e1⟩:=I.base.tbls b ps e
  obtain⟨m2,e2⟩:=tbls b _ e1
  exact⟨m1++m2,by rw[e2,Array.append_assoc]⟩
 ·obtain⟨m,hn,hl⟩:=I.loc
  refine⟨m,ns m hn,λi x v e1 e2 e3=> ?_⟩
  obtain⟨u,r,l⟩:=hl i x v e1 e2 e3
  refine⟨u,r,?_⟩
  rcases l with l|⟨k,c,e,z⟩
  ·exact .inl l
  ·exact .inr ⟨k,c,e,jc x c e _ z⟩
 ·obtain⟨v,z⟩:=I.cell x c e
  exact⟨v,jc x c e v z⟩
 ·obtain⟨m,⟨o,_,_,ho,_⟩,_⟩:=I.loc
  exact free _ o (λz=>(hch _ z).2.1 rfl) ho I.free
 ·obtain⟨v,o,ho,hd⟩:=I.cell x c e
  exact free c o (λz=>(hch c z).2.2.1 x c e rfl) ho (I.freeC x c e)
 ·obtain⟨e,n,ne,nf,d⟩:=I.pin p hp
  have nch:p.1∉ch:=λz=>(hch p.1 z).2.2.2 p hp rfl
  exact⟨keep p.1 p.2 ne nf nch e n,free p.1 p.2 nch e n,ne,nf,d⟩
theorem cN.un{t':Nat}(I:cN X aa σ H s)(u:Un X.fs [] H H' s.heap h')(hok:RS X.prog X.w H' h'):cN X aa σ H' {s with heap:=h',toks:=t'}:=by
 obtain⟨m,⟨o,es,ep,ho,r⟩,_⟩:=id I.loc
 obtain⟨sl,hL⟩:=u.any ho I.free (by simp)
 exact I.step (g':=s.gens) (d':=s.drawn) (ch:=[]) (λ_ z=>nomatch z) (λb o _ hb _ e n=>u.keep b o e n hb (by simp)) (λb o _ hb _ e n=>u.slot b o e n hb (by simp)) (λb o _ e n=>u.free b o e n (by simp)) (λb o _ e=>u.there b o e (by simp)) u.tups u.frzs u.tbls (λm' hm=>by
  obtain⟨o',es',ep',ho',r'⟩:=hm
  rw[ho] at ho';cases ho'
  exact⟨_,es',ep',hL,r'⟩) hok I.bare
theorem cN.call{g':Array GenState}{t':Nat}{d':Drawn}{ch:List Addr}(I:cN X aa σ H s)(u:Un (CW X.stack) ch H H' s.heap h')(hok:RS X.prog X.w H' h')(hg:Kx g')
  (hch: ∀b∈ch,(b∈X.ex∨X.s₀.heap.objs.size<=b)/\b≠X.env.locals/\(∀x c,X.env.cells.lookup x=some c->c≠b)/\ ∀p∈X.pn++aa,p.1≠b):
  cN X aa σ H' {s with heap:=h',gens:=g',drawn:=d',toks:=t'}:=by
 obtain⟨m,⟨o,es,ep,ho,r⟩,_⟩:=id I.loc
 obtain⟨sl,hL⟩:=u.any ho I.free λz=>(hch _ z).2.1 rfl
 exact I.step (ch:=ch) hch (λb o hL hb hc e n=>u.keep b o e n (λz=>(Aj.mp (I.stkSub b z)).elim hL hb) hc) (λb o _ _ hc e n=>u.any e n hc) (λb o hc e n=>u.free b o e n hc) (λb o hc e=>u.there b o e hc) u.tups u.frzs u.tbls (λm' hm=>by
  obtain⟨o',es',ep',ho',r'⟩:=hm
  rw[ho] at ho';cases ho'
  exact⟨_,es',ep',hL,r'⟩) hok hg
theorem cN.turned{t':Nat}{it:Addr}(I:cN X aa σ H s)(k: ∀b o,b≠it->s.heap.get? b=some o->h'.get? b=some o)(hn:H it=none)(hL:it≠X.env.locals)
  (h1:it∈X.ex∨X.s₀.heap.objs.size<=it) (h2: ∀x c,X.env.cells.lookup x=some c->c≠it) (h3: ∀p∈X.pn++aa,p.1≠it):cN X aa σ H {s with heap:=h',toks:=t'}:=by
 have nit: ∀b u,H b=some u->b≠it:=λb u e z=>by rw[z,hn] at e;cases e
 refine I.step (g':=s.gens) (d':=s.drawn) (ch:=[it]) (λb hb=> ?_) (λb o _ _ hc e _=>k b o (λz=>hc (by simp[z])) e) (λb o _ _ hc e _=>⟨o.slots,k b o (λz=>hc (by simp[z])) e⟩) (λ_ _ _ _ n=>n)
  (λb o hc e=>⟨o,k b o (λz=>hc (by simp[z])) e⟩) (λ_ _ e=>e) (λ_ _ _ e=>e) (λb ps e=>⟨#[],by rw[e];simp⟩) (λm hm=> ?_) (λb u e=> ?_) I.bare
 ·have e : b = it := by simpa using hb
  subst e
  exact⟨h1,hL,h2,h3⟩
 ·obtain⟨o,es,ep,ho,r⟩:=hm
  exact⟨o,es,ep,k _ o (Dk hL) ho,r⟩
 ·refine (I.hok b u e).stay (λc v hc q => k c v ?_ q) (λ_ q => q) λ_ _ q => q
  rcases hc with z|z
  ·rw[z];exact nit b u e
  ·exact nit c _ z
theorem cN.tok(I:cN X aa σ H s)(t:Nat):cN X aa σ H {s with toks:=t}:=I.un (h':=s.heap) (t':=t) Un.refl I.hok
theorem cN.kept{t':Nat}(I:cN X aa σ H s)(k: ∀b u,s.heap.get? b=some u->h'.get? b=some u):cN X aa σ H {s with heap:=h',toks:=t'}:=I.un (Un.kept k) (I.hok.kept k)
theorem cN.laid{a:Addr}{o:HO}{t':Nat}(I:cN X aa σ H s)(k: ∀b u,s.heap.get? b=some u->h'.get? b=some u)(hp:s.heap.objs.size<=a)(new:ZQ X.prog X.w (bA H a o) h' a o):
  cN X aa σ (bA H a o) {s with heap:=h',toks:=t'}:=I.un (Un.laid k hp (I.hok.fresh hp)) (I.hok.laid k hp new)
theorem cN.write{x e:Addr}{o:HO}{t':Nat}(I:cN X aa σ H s)(mu:Mut (H x))(he:e=x∨H e=some (.own x))(k: ∀b u,b≠e->s.heap.get? b=some u->h'.get? b=some u)(heo: ∃u,h'.get? e=some u)
  (new:ZQ X.prog X.w (bA H x o) h' x o):cN X aa σ (bA H x o) {s with heap:=h',toks:=t'}:=I.un (Un.write mu he k heo) (I.hok.write mu he k heo new)
theorem cN.weak{σ':List (Option V)}(I:cN X aa σ H s)(hl:σ'.length=σ.length)(w: ∀(i:Nat) v,σ'[i]? =some (some v)->σ[i]? =some (some v)):cN X aa σ' H s:=
 ⟨I.ok,I.os,I.bare,I.base,let ⟨m,hn,hl'⟩:=I.loc;⟨m,hn,λi x v e1 e2 e3=>hl' i x v e1 (w i v e2) e3⟩,I.cell,I.free,I.freeC,I.pin,I.hok,hl.trans I.len⟩
theorem cN.pins_of{j7:List (Addr×Obj)}(I:cN X aa σ H s)(h: ∀p∈j7,s.heap.get? p.1=some p.2/\H p.1=none/\p.1≠X.env.locals/\p.1∉X.fs/\ ∀v,p.2.data≠ .cell v):cN X j7 σ H s:=
 ⟨I.ok,I.os,I.bare,I.base,I.loc,I.cell,I.free,I.freeC,λp hp=>(Bi.mp hp).elim (λz=>I.pin p (Bp _ z)) (h p),I.hok,I.len⟩
theorem IQ{N:List Str}(hN:N.Nodup){i j:Nat}{x:Str}(a:N[i]? =some x)(b:N[j]? =some x):i=j:=by
 obtain⟨h1,e1⟩:=Ad.mp a
 obtain⟨h2,e2⟩:=Ad.mp b
 exact(Nr hN).mp (e1.trans e2.symm)
theorem QX{M:Model}{A:Cy}{E:Value->Ag->Prop}{i:Nat}{x:Str}{v:V}{u:Value}{Q:Unit->Ag->Prop}(I:cN X aa σ H s)(hN:X.N.Nodup)(hi:X.N[i]? =some x)(hx:B6 X.env.scope x)(r:bZ v u)
  (h : ∀ s',cN X aa (σ.set i (some v)) H s' -> (∃ a,Ey a s.heap s'.heap /\ (a = X.env.locals ∨ X.env.cells.lookup x = some a)) -> Q () s') (hf : X.fn x = true ∨ X.env.scope.names.lookup x = some .local := by first | exact .inl rfl | exact .inr rfl | assumption) : wpAny M A (storeName X.env x u) Q E s := by
 obtain⟨m,hn,hl⟩:=id I.loc
 have qv:(X.env.scope.kind== .class || (X.env.scope.kind== .module && X.env.locals !=X.env.globals))=false:=by rw[I.ok.kind];rfl
 have hiσ:i<σ.length:=by rw[I.len];exact(Ad.mp hi).1
 have cne:=I.cne
 have eo: ∀{a:Addr} {h':Heap},(∃o,s.heap.get? a=some o/\H a=none)->Ey a s.heap h'->RS X.prog X.w H h':=λ{a h'} ha hs b ob e=>by
  obtain⟨_,_,bm⟩:=ha
  refine(I.hok b ob e).stay (λc w' hc q=>(hs.2 c ?_).trans q) (λ_ q=>q) λ_ _ q=>q
  rintro rfl
  rcases hc with rfl|hc
  ·rw[bm] at e;cases e
  ·rw[bm] at hc;cases hc
 rcases hx with hk|hk
 ·refine wpAny_storeName_local hk hn (λh' hn' hs => ?_) qv
  obtain⟨oL,_,_,hoL,_⟩:=id hn
  refine h _ ⟨I.ok,I.os,I.bare,⟨λb o e n hb hx=> ?_,λb o e n hb hx=> ?_,I.base.free,λb o e hx=> ?_,I.base.tups,I.base.frzs,I.base.tbls⟩,⟨_,hn',λj y v' e1 e2 e3=> ?_⟩,λy c e=> ?_,I.free,I.freeC,λp hp=> ?_,eo ⟨oL,hoL,I.free⟩ hs,by simpa using I.len⟩ ⟨_,hs,.inl rfl⟩
  ·exact(hs.2 b (Bf (Aw (Am e) I.ok.above))).trans (I.base.keep b o e n hb hx)
  ·obtain⟨sl,e1⟩:=I.base.slot b o e n hb hx
   exact⟨sl,(hs.2 b (Bf (Aw (Am e) I.ok.above))).trans e1⟩
  ·obtain⟨o',e1⟩:=I.base.there b o e hx
   exact⟨o',(hs.2 b (Bf (Aw (Am e) I.ok.above))).trans e1⟩
  ·by_cases hj:j=i
   ·subst hj
    rw[hi] at e1;cases e1
    rw[Cz hiσ] at e2
    cases e2
    exact⟨u,r,.inl ⟨hk,by simp⟩⟩
   ·rw[By (Dk hj)] at e2
    obtain⟨u',r',q⟩:=hl j y v' e1 e2 e3
    refine⟨u',r',?_⟩
    rcases q with⟨k,e⟩|⟨k,c,e,z⟩
    ·refine .inl ⟨k,?_⟩
     have:y≠x:=λe=>hj (IQ hN e1 (e▸hi))
     simp[this,e]
    ·exact .inr ⟨k,c,e,z.sameBut hs (cne y c e)⟩
  ·obtain⟨w',z⟩:=I.cell y c e
   exact⟨w',z.sameBut hs (cne y c e)⟩
  ·obtain⟨e,n,ne,nf,d⟩:=I.pin p hp
   exact⟨(hs.2 p.1 ne).trans e,n,ne,nf,d⟩
 ·have hfn:X.fn x=true:=by
   rcases hf with z|z
   ·exact z
   ·rw[z] at hk;cases hk
  obtain⟨c,hc⟩:=I.ok.has x (.inl hk)
  obtain⟨w',z⟩:=I.cell x c hc
  refine wpAny_storeName_cell I.ok.kind hk hc z (λh' hc' hs=> ?_)
  obtain⟨oc,hoc,qo⟩:=id z
  refine h {s with heap:=h'} ⟨I.ok,I.os,I.bare,⟨λb o e n hb hx=> ?_,λb o e n hb hx=> ?_,I.base.free,λb o e hx=> ?_,I.base.tups,I.base.frzs,I.base.tbls⟩,⟨m,hn.sameBut hs (Dk (cne x c hc)),λj y v' e1 e2 e3=> ?_⟩,λy c' e=> ?_,I.free,I.freeC,λp hp=> ?_,eo ⟨oc,hoc,I.freeC x c hc⟩ hs,by simpa using I.len⟩ ⟨c,hs,.inr hc⟩
  ·exact(hs.2 b (Bf (Aw (Am e) (I.ok.cab x c hfn hc)))).trans (I.base.keep b o e n hb hx)
  ·obtain⟨sl,e1⟩:=I.base.slot b o e n hb hx
   exact⟨sl,(hs.2 b (Bf (Aw (Am e) (I.ok.cab x c hfn hc)))).trans e1⟩
  ·obtain⟨o',e1⟩:=I.base.there b o e hx
   exact⟨o',(hs.2 b (Bf (Aw (Am e) (I.ok.cab x c hfn hc)))).trans e1⟩
  ·by_cases hj:j=i
   ·subst hj
    rw[hi] at e1;cases e1
    rw[Cz hiσ] at e2
    cases e2
    exact⟨u,r,.inr ⟨.inl hk,c,hc,hc'⟩⟩
   ·rw[By (Dk hj)] at e2
    obtain⟨u',r',q⟩:=hl j y v' e1 e2 e3
    refine⟨u',r',?_⟩
    rcases q with q|⟨k,c',e,z'⟩
    ·exact .inl q
    ·refine .inr ⟨k,c',e,z'.sameBut hs ?_⟩
     rintro rfl
     exact hj (IQ hN e1 (I.ok.inj _ _ _ e hc▸hi))
  ·by_cases hcc:c'=c
   ·subst hcc;exact⟨_,hc'⟩
   ·obtain⟨w2,z2⟩:=I.cell y c' e
    exact⟨w2,z2.sameBut hs hcc⟩
  ·obtain⟨e,n,ne,nf,d⟩:=I.pin p hp
   refine⟨(hs.2 p.1 ?_).trans e,n,ne,nf,d⟩
   intro q
   rw[q,hoc] at e
   have q':oc=p.2:=Cd e
   exact d w' (by rw[<- q'];exact qo)
theorem YG{M:Model}{A:Cy}{E:Value->Ag->Prop}{i:Nat}{x:Str}{v:V}{u:Value}{Q:Unit->Ag->Prop}(I:cN X aa σ H s)(hN:X.N.Nodup)(hi:X.N[i]? =some x)(hx:B6 X.env.scope x)(r:bZ v u)
  (h: ∀s',cN X aa (σ.set i (some v)) H s'->Q () s') (hf:X.fn x=true∨X.env.scope.names.lookup x=some .local:=by first|exact .inl rfl|exact .inr rfl|assumption):wpAny M A (storeName X.env x u) Q E s:=
 QX I hN hi hx r (λs' I' _=>h s' I') hf
theorem cN.call'{s':Ag}{ch:List Addr}(I:cN X aa σ H s)(ho:s'.os=s.os)(u:Un (CW X.stack) ch H H' s.heap s'.heap)(hok:RS X.prog X.w H' s'.heap)(hg:Kx s'.gens)
  (hch: ∀b∈ch,(b∈X.ex∨X.s₀.heap.objs.size<=b)/\b≠X.env.locals/\(∀x c,X.env.cells.lookup x=some c->c≠b)/\ ∀p∈X.pn++aa,p.1≠b):cN X aa σ H' s':=by
 obtain⟨h',g',d',t',o'⟩:=s'
 have e:o'=s.os:=ho
 subst e
 exact I.call (g':=g') (t':=t') (d':=d') u hok hg hch
end
abbrev XK:=Value->Option Addr->Hp->Prop
abbrev St:=List (Option V)
abbrev VK:=V->Hp->Prop
abbrev TE:=St->Hp->VK->Prop
abbrev TT:=St->Hp->(Bool->Hp->Prop)->Prop
abbrev TA:=St->Hp->(List V->Hp->Prop)->Prop
structure FT where
 nx:St->Hp->Prop
 rt:VK
 bk:St->Hp->Prop:=λ_ _=>False
 ct:St->Hp->Prop:=λ_ _=>False
abbrev TS:=FT->St->Hp->Prop
def EP(X:Cx)(aa:List (Addr×Obj))(σ:St)(Q:VK)(u:Value)(s':Ag):Prop:= ∃v H',cN X aa σ H' s'/\bZ v u/\Q v H'
def TP(X:Cx)(aa:List (Addr×Obj))(σ:St)(Q:Bool->Hp->Prop)(b:Bool)(s':Ag):Prop:= ∃H',cN X aa σ H' s'/\Q b H'
def AP(X:Cx)(aa:List (Addr×Obj))(σ:St)(Q:List V->Hp->Prop)(us:List Value)(s':Ag):Prop:= ∃vs H',cN X aa σ H' s'/\bT vs us/\Q vs H'
def SP(X:Cx)(aa:List (Addr×Obj))(D:FT)(f:Flow)(s':Ag):Prop:=
 match f with
 | .next=> ∃σ' H',cN X aa σ' H' s'/\D.nx σ' H'
 | .brk=> ∃σ' H',cN X aa σ' H' s'/\D.bk σ' H'
 | .cont=> ∃σ' H',cN X aa σ' H' s'/\D.ct σ' H'
 | .ret u=> ∃v σ' H',cN X aa σ' H' s'/\bZ v u/\D.rt v H'
def PE(X:Cx)(e:Expr)(t:TE):Prop:=
 ∀(aa:List (Addr×Obj)) (s:Ag) (σ:St) (H:Hp) (Q:VK),cN X aa σ H s->t σ H Q->wpAny (model X.prog X.w) X.A (eval e X.env) (EP X aa σ Q) X.xe s
def PT(X:Cx)(e:Expr)(t:TT):Prop:=
 ∀(aa:List (Addr×Obj)) (s:Ag) (σ:St) (H:Hp) (Q:Bool->Hp->Prop),cN X aa σ H s->t σ H Q->wpAny (model X.prog X.w) X.A (isTrue e X.env (eval e X.env)) (TP X aa σ Q) X.xe s
def PW(X:Cx)(e:Expr)(t:TT):Prop:=
 ∀(br:Sem Value) (aa:List (Addr×Obj)) (s:Ag) (σ:St) (H:Hp) (Q:Bool->Hp->Prop),cN X aa σ H s->t σ H Q->wpAny (model X.prog X.w) X.A (isTrue e X.env br) (TP X aa σ Q) X.xe s
theorem PW.pt{X:Cx}{e:Expr}{t:TT}(h:PW X e t):PT X e t:=h _
def PA(X:Cx)(es:List Expr)(t:TA):Prop:=
 ∀(pos:Pos) (aa:List (Addr×Obj)) (s:Ag) (σ:St) (H:Hp) (Q:List V->Hp->Prop),cN X aa σ H s->t σ H Q->wpAny (model X.prog X.w) X.A (spliced (Ez pos (Ah es X.env))) (AP X aa σ Q) X.xe s
def PS(X:Cx)(st:Stmt)(t:TS):Prop:=
 ∀(aa:List (Addr×Obj)) (s:Ag) (σ:St) (H:Hp) (D:FT),cN X aa σ H s->t D σ H->wpAny (model X.prog X.w) X.A (exec st X.env) (SP X aa D) X.xe s
def PR(X:Cx)(st:List Stmt)(t:TS):Prop:=
 ∀(aa:List (Addr×Obj)) (s:Ag) (σ:St) (H:Hp) (D:FT),cN X aa σ H s->t D σ H->wpAny (model X.prog X.w) X.A (execs st X.env) (SP X aa D) X.xe s
theorem ZG{α:Type}{t:Sem α}{Q Q':α->Ag->Prop}{M:Model}{A:Cy}{E:Value->Ag->Prop}{s:Ag}(h:wpAny M A t Q E s)(hQ: ∀a s,Q a s->Q' a s):wpAny M A t Q' E s:=Av h hQ λ_ _ x=>x
section
variable{X:Cx}
def PN(i:Nat):TE:=λσ H Q=> ∃v,σ[i]? =some (some v)/\Q v H
def tC(v:V):TE:=λ_ H Q=>Q v H
theorem GS{i:Nat}{x:Str}{pos:Pos}(hN:X.N[i]? =some x)(hv:Vis X.env.scope x)(hd:(x==("__debug__":Str))=false:=by decide) (hcd:(x==("__classdict__":Str))=false:=by decide):PE X (.Name x pos) (PN i):=by
 intro aa s σ H Q I h
 obtain⟨v,e,h⟩:=h
 obtain⟨m,hn,hl⟩:=I.loc
 obtain⟨u,r,l⟩:=hl i x v hN e hv
 have fin:EP X aa σ Q u s:=⟨v,H,I,r,h⟩
 rcases l with⟨hk,hm⟩|⟨hk,c,hc,j9⟩
 ·exact Qe (wpAny_loadName_local I.ok.kind hk hn hm fin) hd
 ·rcases hk with hk|hk
  ·exact Qe (wpAny_loadName_cell I.ok.kind hk hc j9 fin) hd
  ·exact Qe (wpAny_loadName_free I.ok.kind hk hc j9 fin hcd) hd
theorem zG5{i j pos}:PE X (.Constant (.int i) j pos) (tC (.int i)):=λ_ _ _ H _ I h=>wpAny_Constant_int ⟨.int i,H,I.tok _,⟨_,rfl⟩,h⟩
theorem zJO{b j pos}:PE X (.Constant (.bool b) j pos) (tC (.bl b)):=λ_ _ _ H _ I h=>Constant_bool ⟨.bl b,H,I,rfl,h⟩
theorem zG3{j pos}:PE X (.Constant .none j pos) (tC .non):=λ_ _ _ H _ I h=>Constant_none ⟨.non,H,I,rfl,h⟩
theorem zG0{x j pos}:PE X (.Constant (.str x) j pos) (tC (.str x)):=λ_ _ _ H _ I h=>Calls.Constant_str ⟨.str x,H,I.tok _,⟨_,rfl⟩,h⟩
def Gl(X:Cx)(x:Str):Prop:=X.env.kindOf x=some .globalImplicit
theorem EL{E:Value->Ag->Prop}{aa:List (Addr×Obj)}{s:Ag}{σ:St}{H:Hp}{x:Str}{u:Value}{pos:Pos}{Q:Value->Ag->Prop}(I:cN X aa σ H s)(hg:Gl X x)(hm:X.mg x=some u)(h:Q u s)
  (hd:(x==("__debug__":Str))=false:=by decide):wpAny (model X.prog X.w) X.A (eval (.Name x pos) X.env) Q E s:=
 Jf I.ok.kind hg (Calls.loadGlobal_global (by rw[I.ok.glob];exact I.mod.glob.keeps I.bk) hm h) hd
theorem SF{E:Value->Ag->Prop}{aa:List (Addr×Obj)}{s:Ag}{σ:St}{H:Hp}{x:Str}{u:Value}{pos:Pos}{Q:Value->Ag->Prop}(I:cN X aa σ H s)(hg:Gl X x)(hm:X.mg x=none)(hv:Bg x=some u)(h:Q u s)
  (hn:x≠ "__name__":=by decide) (hd:(x==("__debug__":Str))=false:=by decide):wpAny (model X.prog X.w) X.A (eval (.Name x pos) X.env) Q E s:=by
 obtain⟨mb,h1,h2⟩:=I.mod.blt
 exact Jf I.ok.kind hg (Calls.loadGlobal_builtin (by rw[I.ok.glob];exact I.mod.glob.keeps I.bk) hm (by rw[I.ok.blt];exact h1.keeps I.bk) ((h2 x hn).trans hv) h) hd
theorem zCQ{x:Str}{v:V}{u:Value}{pos:Pos}(hg:Gl X x)(hm:X.mg x=some u)(r:bZ v u)(hd:(x==("__debug__":Str))=false:=by decide):PE X (.Name x pos) (tC v):=
 λ_ _ _ H _ I h=>EL I hg hm ⟨v,H,I,r,h⟩ hd
theorem zCS{x:Str}{v:V}{u:Value}{pos:Pos}(hg:Gl X x)(hm:X.mg x=none)(hv:Bg x=some u)(r:bZ v u)(hn:x≠ "__name__":=by decide) (hd:(x==("__debug__":Str))=false:=by decide):PE X (.Name x pos) (tC v):=
 λ_ _ _ H _ I h=>SF I hg hm hv ⟨v,H,I,r,h⟩ hn hd
variable{a b:Expr}{ta tb:TE}{pos:Pos}
def tB(t:TE):TT:=λσ H Q=>t σ H λx H1=> ∃c,x= .bl c/\Q c H1
theorem zFP{e:Expr}{t:TE}(h:PE X e t)(he: ∀br,isTrue e X.env br=(do let v<- br;Ky e.pos;Kz [v] (truthy v)):=by intro _;rfl):PT X e (tB t):=by
 intro aa s σ H Q I hw
 refine isTrue_plain (ZG (h aa s σ H _ I hw) λv s1 ⟨x,H1,I1,r1,q1⟩=> ?_) (he _)
 obtain⟨d,rfl,q⟩:=q1
 cases r1
 exact Ds ⟨H1,I1,q⟩
variable{tA tB':TT}{rest:List Expr}
def tAnd(t u:TT):TT:=λσ H Q=>t σ H λc H1=>if c=true then u σ H1 Q else Q false H1
def tOr(t u:TT):TT:=λσ H Q=>t σ H λc H1=>if c=true then Q true H1 else u σ H1 Q
def tNot(t:TT):TT:=λσ H Q=>t σ H λc H1=>Q (!c) H1
theorem zCE(ha:PT X a tA):PW X (.BoolOp .And [a] pos) tA:=by
 intro wh aa s σ H Q I h
 refine isTrue_and (ZG (ha aa s σ H Q I h) λc s1 e=> ?_)
 cases c with
 |true=>exact isTrue_and_nil e
 |false=>exact e
theorem zFN(ha:PT X a tA):PW X (.BoolOp .Or [a] pos) tA:=by
 intro wh aa s σ H Q I h
 refine isTrue_or (ZG (ha aa s σ H Q I h) λc s1 e=> ?_)
 cases c with
 |false=>exact isTrue_or_nil e
 |true=>exact e
theorem zFO(ha:PT X a tA)(hb:PW X (.BoolOp .And (b::rest) pos) tB'):PW X (.BoolOp .And (a::b::rest) pos) (tAnd tA tB'):=by
 intro wh aa s σ H Q I h
 refine isTrue_and (ZG (ha aa s σ H _ I h) λc s1 ⟨H1,I1,q1⟩=> ?_)
 cases c with
 |true=>exact hb wh aa s1 σ H1 Q I1 q1
 |false=>exact⟨H1,I1,q1⟩
theorem zJI(ha:PT X a tA)(hb:PW X (.BoolOp .Or (b::rest) pos) tB'):PW X (.BoolOp .Or (a::b::rest) pos) (tOr tA tB'):=by
 intro wh aa s σ H Q I h
 refine isTrue_or (ZG (ha aa s σ H _ I h) λc s1 ⟨H1,I1,q1⟩=> ?_)
 cases c with
 |true=>exact⟨H1,I1,q1⟩
 |false=>exact hb wh aa s1 σ H1 Q I1 q1
theorem zFQ(ha:PT X a tA):PT X (.UnaryOp .Not a pos) (tNot tA):=by
 intro aa s σ H Q I h
 exact isTrue_not (ha aa s σ H (λc H1=>Q (!c) H1) I h)
def zIU(ta tb:TE):TE:=λσ H Q=>ta σ H λx H1=> ∃c,x= .bl c/\if c=true then tb σ H1 Q else Q (.bl false) H1
def tOrV(ta tb:TE):TE:=λσ H Q=>ta σ H λx H1=> ∃c,x= .bl c/\if c=true then Q (.bl true) H1 else tb σ H1 Q
def zIQ(ta:TE):TE:=λσ H Q=>ta σ H λx H1=> ∃c,x= .bl c/\Q (.bl (!c)) H1
theorem zG1{op}{t:TE}(h:PE X a t):PE X (.BoolOp op [a] pos) t:=λaa s σ H Q I hw=>BoolOp_one (h aa s σ H Q I hw)
theorem zG6(ha:PE X a ta)(hb:PE X (.BoolOp .And (b::rest) pos) tb):PE X (.BoolOp .And (a::b::rest) pos) (zIU ta tb):=by
 intro aa s σ H Q I h
 refine BoolOp_and (ZG (ha aa s σ H _ I h) λv s1 ⟨x,H1,I1,r1,q1⟩=> ?_)
 obtain⟨c,rfl,q1⟩:=q1
 cases r1
 refine Ds ?_
 cases c with
 |true=>exact hb aa s1 σ H1 Q I1 q1
 |false=>exact⟨.bl false,H1,I1,rfl,q1⟩
theorem zJL(ha:PE X a ta)(hb:PE X (.BoolOp .Or (b::rest) pos) tb):PE X (.BoolOp .Or (a::b::rest) pos) (tOrV ta tb):=by
 intro aa s σ H Q I h
 refine BoolOp_or (ZG (ha aa s σ H _ I h) λv s1 ⟨x,H1,I1,r1,q1⟩=> ?_)
 obtain⟨c,rfl,q1⟩:=q1
 cases r1
 refine Ds ?_
 cases c with
 |false=>exact hb aa s1 σ H1 Q I1 q1
 |true=>exact⟨.bl true,H1,I1,rfl,q1⟩
theorem zG2(ha:PE X a ta):PE X (.UnaryOp .Not a pos) (zIQ ta):=by
 intro aa s σ H Q I h
 refine UnaryOp_ (ZG (ha aa s σ H _ I h) λv s1 ⟨x,H1,I1,r1,q1⟩=> ?_)
 obtain⟨c,rfl,q1⟩:=q1
 cases r1
 exact not_of (Ds ⟨.bl (!c),H1,I1,rfl,q1⟩)
def tIf(t:TT)(ta tb:TE):TE:=λσ H Q=>t σ H λc H1=>if c=true then ta σ H1 Q else tb σ H1 Q
theorem zAE{c:Expr}(hc:PT X c tA)(ha:PE X a ta)(hb:PE X b tb):PE X (.IfExp c a b pos) (tIf tA ta tb):=by
 intro aa s σ H Q I h
 refine wpAny_IfExp (ZG (hc aa s σ H _ I h) λd s1 ⟨H1,I1,q1⟩=> ?_)
 cases d with
 |true=>exact ha aa s1 σ H1 Q I1 q1
 |false=>exact hb aa s1 σ H1 Q I1 q1
end
def W8(K:An)(H:Hp)(a:Addr)(xs:List V):Prop:=
 Rd H a (.lst xs)∨
  ∃(o:Obj) (its:Array Value) (n:Nat),K.lookup a=some o/\o.cls= .type "list" /\o.dict=none/\o.data= .seq its n/\its.size<=sizeLine/\bT xs its.toList
def WC(K:An)(H:Hp)(a:Addr)(xs:List V):Prop:=
 Rd H a (.tup xs)∨
  ∃(o:Obj) (its:Array Value) (n:Nat),K.lookup a=some o/\o.cls= .type "tuple" /\o.data= .seq its n/\its.size<=sizeLine/\bT xs its.toList
noncomputable def absV:Value->Option V
 | .none=>some .non
 | .bool b=>some (.bl b)
 | .int i _=>some (.int i)
 | .str x _=>some (.str x)
 | .bytes b _=>some (.byt b)
 | .float b _=>some (.flt b)
 | .ref a=>some (.ref a)
 | .type n=>some (.ty n)
 |_=>none
theorem bZ.abs{x:V}{u:Value}(r:bZ x u):absV u=some x:=by
 cases x with
 |non=>cases r;rfl
 |bl _=>cases r;rfl
 |int _=>obtain⟨t,rfl⟩:=r;rfl
 |str _=>obtain⟨t,rfl⟩:=r;rfl
 |byt _=>obtain⟨t,rfl⟩:=r;rfl
 |flt _=>obtain⟨t,rfl⟩:=r;rfl
 |ref _=>cases r;rfl
 |ty _=>cases r;rfl
theorem bZ.inj{x y:V}{u:Value}(r:bZ x u)(q:bZ y u):x=y:=Cd (r.abs.symm.trans q.abs)
theorem bT.inj: ∀{xs ys:List V} {us:List Value},bT xs us->bT ys us->xs=ys
 |_,_,_,.nil,.nil=>rfl
 |_,_,_,.cons r t,.cons r' t'=>by rw[r.inj r',bT.inj t t']
section
variable{X:Cx}{aa:List (Addr×Obj)}{σ:St}{H:Hp}{s:Ag}{a:Addr}{xs ys:List V}
theorem W8.of{K:An}(h:H a=some (.lst xs)):W8 K H a xs:= .inl (.inl h)
theorem WC.of{K:An}(h:H a=some (.tup xs)):WC K H a xs:= .inl (.inl h)
theorem cN.list(I:cN X aa σ H s)(h:W8 X.K H a xs): ∃its:List Value,bT xs its/\PlainL s.heap a its.toArray/\xs.length<=sizeLine:=by
 rcases h with h|⟨o,its,n,hk,hc,hd,hs,hz,r⟩
 ·obtain⟨z,its,n,r,e⟩:=h.ok I.hok
  exact⟨its,r,⟨_,n,e,rfl,rfl,rfl⟩,z⟩
 ·refine ⟨its.toList,r,⟨o,n,I.kIn a o hk,hc,hd,by simpa using hs⟩,?_⟩
  have e:=r.length
  simp only[Il] at e
  lia
theorem cN.tuple(I:cN X aa σ H s)(h:WC X.K H a xs): ∃its:List Value,bT xs its/\IsTup s.heap a its.toArray/\xs.length<=sizeLine:=by
 rcases h with h|⟨o,its,n,hk,hc,hs,hz,r⟩
 ·obtain⟨z,its,r,p⟩:=h.ok I.hok
  exact⟨its,r,p,z⟩
 ·refine ⟨its.toList,r,⟨o,I.kIn a o hk,hc,n,by simpa using hs⟩,?_⟩
  have e:=r.length
  simp only[Il] at e
  lia
theorem cN.list_inj(I:cN X aa σ H s)(h:W8 X.K H a xs)(h':W8 X.K H a ys):xs=ys:=by
 obtain⟨its,r,⟨o,n,e,_,_,d⟩,_⟩:=I.list h
 obtain⟨its',r',⟨o',n',e',_,_,d'⟩,_⟩:=I.list h'
 rw[e] at e';cases e'
 rw[d] at d'
 injection d' with d1 _
 have:its=its':=by simpa using congrArg Qr d1
 subst this
 exact r.inj r'
theorem cN.tuple_inj(I:cN X aa σ H s)(h:WC X.K H a xs)(h':WC X.K H a ys):xs=ys:=by
 obtain⟨its,r,⟨o,e,_,n,d⟩,_⟩:=I.tuple h
 obtain⟨its',r',⟨o',e',_,n',d'⟩,_⟩:=I.tuple h'
 rw[e] at e';cases e'
 rw[d] at d'
 injection d' with d1 _
 have:its=its':=by simpa using congrArg Qr d1
 subst this
 exact r.inj r'
end
abbrev Cx.wish(X:Cx)(E:Value->Ag->Prop):Cx:={X with xe:=E}
abbrev Cx.nox(X:Cx):Cx:=X.wish λ_ _=>False
theorem Cx.Ok.wish{X:Cx}(ok:X.Ok)(E:Value->Ag->Prop):(X.wish E).Ok:=
 ⟨ok.mod,ok.kind,ok.glob,ok.blt,ok.above,ok.inj,ok.has,ok.cab,ok.hd,ok.frames,ok.stk,ok.exf,ok.bs,ok.bsz,ok.noex,ok.exfs,ok.funs,ok.frf⟩
theorem Cx.Ok.unwish{X:Cx}{E:Value->Ag->Prop}(ok:(X.wish E).Ok):X.Ok:=
 ⟨ok.mod,ok.kind,ok.glob,ok.blt,ok.above,ok.inj,ok.has,ok.cab,ok.hd,ok.frames,ok.stk,ok.exf,ok.bs,ok.bsz,ok.noex,ok.exfs,ok.funs,ok.frf⟩
section
variable{X:Cx}{aa:List (Addr×Obj)}{σ:St}{H:Hp}{s:Ag}{E:Value->Ag->Prop}
theorem cN.wish(I:cN X aa σ H s)(E:Value->Ag->Prop):cN (X.wish E) aa σ H s:=⟨I.ok.wish E,I.os,I.bare,I.base,I.loc,I.cell,I.free,I.freeC,I.pin,I.hok,I.len⟩
theorem cN.unwish(I:cN (X.wish E) aa σ H s):cN X aa σ H s:=⟨I.ok.unwish,I.os,I.bare,I.base,I.loc,I.cell,I.free,I.freeC,I.pin,I.hok,I.len⟩
theorem SP.unwish{D:FT}{f:Flow}{s':Ag}(h:SP (X.wish E) aa D f s'):SP X aa D f s':=by
 cases f with
 |next=>obtain⟨σ',H',I,q⟩:=h;exact⟨σ',H',I.unwish,q⟩
 |brk=>obtain⟨σ',H',I,q⟩:=h;exact⟨σ',H',I.unwish,q⟩
 |cont=>obtain⟨σ',H',I,q⟩:=h;exact⟨σ',H',I.unwish,q⟩
 |ret u=>obtain⟨v,σ',H',I,r,q⟩:=h;exact⟨v,σ',H',I.unwish,r,q⟩
theorem PR.nox{st:List Stmt}{t:TS}(h:PR X.nox st t):PR X st t:=λaa s σ H D I hw=>
 Av (h aa s σ H D (I.wish _) hw) (λ_ _ q=>q.unwish) λ_ _ z=>Ga z
end
section
variable{X:Cx}{st:Stmt}{rest:List Stmt}{t u:TS}{e:Expr}{te:TE}{pos:Pos}
def zIR:TS:=λD σ H=>D.nx σ H
def tSeq(t u:TS):TS:=λD σ H=>t {D with nx:=u D} σ H
theorem E3:PR X [] zIR:=λ_ _ σ H _ I h=>La ⟨σ,H,I,h⟩
theorem JE(h1:PS X st t)(h2:PR X rest u):PR X (st::rest) (tSeq t u):=by
 intro aa s σ H D I h
 refine wpAny_execs_cons (ZG (h1 aa s σ H {D with nx:=u D} I h) λf s1 q=> ?_)
 cases f with
 |next=>
  obtain⟨σ',H',I',q⟩:=q
  exact h2 aa s1 σ' H' D I' q
 |ret v=>exact q
 |brk=>exact q
 |cont=>exact q
theorem cN.quiet{aa:List (Addr×Obj)}{σ:St}{H:Hp}{s:Ag}(I:cN X aa σ H s):interactive X.env=false:=by simp[interactive,I.ok.kind]
def zIT(te:TE):TS:=λD σ H=>te σ H λ_ H1=>D.nx σ H1
theorem E2(he:PE X e te)(hs:Fu e none pos.line X.env=pure false:=by rfl):PS X (.Expr e pos) (zIT te):=by
 intro aa s σ H D I h
 exact wpAny_Expr_any (ZG (he aa s σ H _ I h) λv s1 ⟨x,H1,I1,r1,q1⟩=>⟨σ,H1,I1,q1⟩) I.quiet hs
def tRet(te:TE):TS:=λD σ H=>te σ H D.rt
theorem zAA(he:PE X e te):PS X (.Return (some e) pos) (tRet te):=by
 intro aa s σ H D I h
 exact wpAny_Return_some (ZG (he aa s σ H _ I h) λv s1 ⟨x,H1,I1,r1,q1⟩=>⟨x,σ,H1,I1,r1,q1⟩)
def tIfS(c:TT)(t u:TS):TS:=λD σ H=>c σ H λb H1=>if b=true then t D σ H1 else u D σ H1
theorem zJJ{c:Expr}{a b:List Stmt}{tc:TT}(hc:PT X c tc)(ha:PR X a t)(hb:PR X b u):PS X (.If c a b pos) (tIfS tc t u):=by
 intro aa s σ H D I h
 refine wpAny_If (ZG (hc aa s σ H _ I h) λd s1 ⟨H1,I1,q1⟩=> ?_)
 cases d with
 |true=>exact ha aa s1 σ H1 D I1 q1
 |false=>exact hb aa s1 σ H1 D I1 q1
end
abbrev TG:=V->St->Hp->(St->Hp->Prop)->Prop
abbrev CF:=List V->St->Hp->(St->Hp->Prop)->Prop
def PG(X:Cx)(cf:Expr)(t:TG):Prop:=
 ∀(aa:List (Addr×Obj)) (s:Ag) (σ:St) (H:Hp) (v:V) (u:Value) (Q:St->Hp->Prop),cN X aa σ H s->bZ v u->t v σ H Q→
  wpAny (model X.prog X.w) X.A (assign cf X.env u) (λ_ s'=> ∃σ' H',cN X aa σ' H' s'/\Q σ' H') X.xe s
def D5(X:Cx)(ts:List Expr)(t:CF):Prop:=
 ∀(aa:List (Addr×Obj)) (s:Ag) (σ:St) (H:Hp) (vs:List V) (us:List Value) (Q:St->Hp->Prop),cN X aa σ H s->bT vs us->t vs σ H Q→
  wpAny (model X.prog X.w) X.A (assignInOrder ((assignEach ts X.env).map (·.2)) us) (λ_ s'=> ∃σ' H',cN X aa σ' H' s'/\Q σ' H') X.xe s
abbrev TSet:=V->V->V->Hp->(Hp->Prop)->Prop
def PSet(X:Cx)(t:TSet):Prop:=
 ∀(aa:List (Addr×Obj)) (s:Ag) (σ:St) (H:Hp) (o i v:V) (ov iv u:Value) (Q:Hp->Prop),cN X aa σ H s->bZ o ov->bZ i iv->bZ v u->t o i v H Q→
  wpAny (model X.prog X.w) X.A (setItem ov iv u) (λ_ s'=> ∃H',cN X aa σ H' s'/\Q H') X.xe s
section
variable{X:Cx}{pos:Pos}
def IB(i:Nat):TG:=λv σ H Q=>Q (σ.set i (some v)) H
theorem O9{i:Nat}{x:Str}(hN:X.N.Nodup)(hi:X.N[i]? =some x)(hx:B6 X.env.scope x)(hf:X.fn x=true∨X.env.scope.names.lookup x=some .local:=by first|exact .inl rfl|exact .inr rfl|assumption):PG X (.Name x pos) (IB i):=by
 intro aa s σ H v u Q I r h
 exact Gb (YG I hN hi hx r (λs' I'=>⟨_,H,I',h⟩) hf)
def gNil:CF:=λvs σ H Q=>vs=[]/\Q σ H
def zKJ(t:TG)(u:CF):CF:=λvs σ H Q=> ∃v r,vs=v::r/\t v σ H λσ' H'=>u r σ' H' Q
theorem EW:D5 X [] gNil:=by
 intro aa s σ H vs us Q I r h
 obtain⟨e,h⟩:=h
 subst e
 cases r
 exact Hl ⟨σ,H,I,h⟩
theorem RK{e:Expr}{es:List Expr}{t:TG}{u:CF}(h1:PG X e t)(h2:D5 X es u)
  (hs:(assignEach (e::es) X.env).map (·.2)=assign e X.env::(assignEach es X.env).map (·.2):=by rfl):D5 X (e::es) (zKJ t u):=by
 intro aa s σ H vs us Q I r h
 obtain⟨v,vr,e1,h⟩:=h
 subst e1
 cases r with
 |cons r rr=>
  rw[hs]
  refine Dx (ZG (h1 aa s σ H _ _ _ I r h) λ_ s1 ⟨σ1,H1,I1,q1⟩=> ?_)
  exact h2 aa s1 σ1 H1 _ _ Q I1 rr q1
def gTup(K:An)(n:Nat)(t:CF):TG:=λv σ H Q=> ∃a xs,v= .ref a/\WC K H a xs/\xs.length=n/\t xs σ H Q
theorem zFX{es:List Expr}{k:Nat}{t:CF}{n:Nat}(hc:X.calm=true)(h:D5 X es t)
  (hn:(assignEach es X.env).length=n:=by rfl) (hst:(assignEach es X.env).findIdx? (·.1)=none:=by rfl):PG X (.Tuple es k pos) (gTup X.K n t):=by
 intro aa s σ H v u Q I r hw
 obtain⟨a,xs,e1,hq,hl,hw⟩:=hw
 subst e1
 cases r
 obtain⟨its,rv,ht,hz⟩:=I.tuple hq
 refine assign_Tuple_tuple (I.ok.hd hc) ht (by simp[hn,<- hl,rv.length]) hst λh' hx=> ?_
 have I1:cN X aa σ H {s with heap:=h'}:=I.kept (t':=s.toks) λb o e=>hx b o (Bf (Am e)) e
 exact h aa _ σ H xs _ Q I1 (by simpa using rv) hw
def gSub(to ti:TE)(t:TSet):TG:=λv σ H Q=>to σ H λo H1=>ti σ H1 λi H2=>t o i v H2 λH3=>Q σ H3
theorem zFY{o i:Expr}{to ti:TE}{t:TSet}(ho:PE X o to)(hi:PE X i ti)(hs:PSet X t)
  (ha: ∀v,assign (.Subscript o i pos) X.env v=(do
   let ov<- Kz [v] (eval o X.env)
   let iv<- Kz [v,ov] (eval i X.env)
   Ky pos
   Kz [v,ov,iv] (setItem ov iv v)
   release [v,ov,iv] []):=by intro _;rfl):PG X (.Subscript o i pos) (gSub to ti t):=by
 intro aa s σ H v u Q I r h
 rw[ha]
 refine Aa (Ce (ZG (ho aa s σ H _ I h) λov s1 ⟨x,H1,I1,r1,q1⟩=> ?_))
 refine Aa (Ce (ZG (hi aa s1 σ H1 _ I1 q1) λiv s2 ⟨y,H2,I2,r2,q2⟩=> ?_))
 refine Aa (Dq (Aa (Ce (ZG (hs aa s2 σ H2 x y v ov iv u _ I2 r1 r2 r q2) λ_ s3 ⟨H3,I3,q3⟩=> ?_))))
 exact wpAny_release ⟨σ,H3,I3,q3⟩
def AY(te:TE)(g:TG):TS:=λD σ H=>te σ H λx H1=>g x σ H1 D.nx
theorem LC{tg e:Expr}{te:TE}{g:TG}(he:PE X e te)(hg:PG X tg g)(hs:Fa [tg] e pos.line X.env=pure false:=by rfl)(hw:Fb [tg] e X.env=pure none:=by rfl)
  (h1:(assignEach [tg] X.env).map (·.2)=[assign tg X.env]:=by rfl):PS X (.Assign [tg] e pos) (AY te g):=by
 intro aa s σ H D I h
 refine wpAny_Assign_stores (ZG (he aa s σ H _ I h) λv s1 ⟨x,H1,I1,r1,q1⟩=> ?_) hs hw
 rw[h1]
 exact ZG (hg aa s1 σ H1 x v _ I1 r1 q1) λ_ s2 q=>q
theorem zFR{i:Nat}{x:Str}{e:Expr}{te:TE}{bh:Pos}(hN:X.N.Nodup)(hi:X.N[i]? =some x)(hx:B6 X.env.scope x)(he:PE X e te)(hs:Fu e (some (.Name x bh)) pos.line X.env=pure false:=by rfl)(hf:X.fn x=true∨X.env.scope.names.lookup x=some .local:=by first|exact .inl rfl|exact .inr rfl|assumption):
  PS X (.Assign [.Name x bh] e pos) (AY te (IB i)):=by
 intro aa s σ H D I h
 refine wpAny_Assign_Name (ZG (he aa s σ H _ I h) λv s1 ⟨y,H1,I1,r1,q1⟩=> ?_) hs
 exact YG I1 hN hi hx r1 (λs2 I2=>⟨_,H1,I2,q1⟩) hf
def tPar(i j:Nat)(ta:TA):TS:=λD σ H=>ta σ H λvs H1=> ∃v w,vs=[v,w]/\D.nx ((σ.set i (some v)).set j (some w)) H1
theorem zFS{i j:Nat}{x y:Str}{a b:Expr}{ta:TA}{px py pt:Pos}{kt k2 pt2}(hc:X.calm=true)(hN:X.N.Nodup)(hi:X.N[i]? =some x)(hj:X.N[j]? =some y)(hij:i≠j)
  (hx:X.env.scope.names.lookup x=some .local) (hy:X.env.scope.names.lookup y=some .local) (ha:PA X [a,b] ta)
  (hw:Fb [.Tuple [.Name x px,.Name y py] kt pt] (.Tuple [a,b] k2 pt2) X.env=pure (some [x,y]))
  (hs : Fa [.Tuple [.Name x px,.Name y py] kt pt] (.Tuple [a,b] k2 pt2) pos.line X.env = pure false := by rfl) :
  PS X (.Assign [.Tuple [.Name x px,.Name y py] kt pt] (.Tuple [a,b] k2 pt2) pos) (tPar i j ta):=by
 intro aa s σ H D I h
 rw[exec_Assign_arm]
 refine Aa (Dq ?_)
 rw[hs]
 refine Aa (Ai ?_)
 rw [if_neg (by decide)]
 refine Aa (Tuple_ (ZG (ha _ aa s σ H _ I h) λus s1 ⟨vs,H1,I1,r1,q1⟩=> ?_))
 obtain⟨v,w,e1,q1⟩:=q1
 subst e1
 obtain⟨u1,u2,rfl,rv,rw'⟩: ∃u1 u2,us=[u1,u2]/\bZ v u1/\bZ w u2:=by
  cases r1 with
  |cons p q=>
   cases q with
   |cons p' q'=>
    cases q'
    exact⟨_,_,rfl,p,p'⟩
 refine Cu ?_ (by show 2<=sizeLine;decide)
 have I2:cN X aa σ H1 {s1 with heap:=s1.heap.push {cls:= .type "tuple",data:= .seq [u1,u2].toArray}}:=I1.kept (t':=s1.toks) λb o e=>Ac _ e
 rw[hw]
 refine Aa (Ai ?_)
 show wpAny (model X.prog X.w) X.A (do rule "assign.swapped-stores";let items<- Im (.ref s1.heap.objs.size) 2 none;assignInOrder [λv=>Ib X.env y v,λv=>Ib X.env x v] items.reverse;pure Flow.next) _ _ _
 refine Aa (Gc (Aa (My (items:= #[u1,u2]) (I.ok.hd hc) (Ju s1.heap _) λh' hx'=> ?_)))
 have I3:=I2.kept (h':=h') (t':=s1.toks) λb o e=>hx' b o (Bf (Am e)) e
 show wpAny _ _ (assignInOrder [λv=>Ib X.env y v,λv=>Ib X.env x v] [u2,u1]>>=λ_=>pure Flow.next) _ _ _
 refine Aa (Dx (Hs (YG I3 hN hj (.inl hy) rw' (λs2 I4=> ?_) (.inr hy))))
 refine Dx (Hs (YG I4 hN hi (.inl hx) rv (λs3 I5=>Hl (Ai ?_)) (.inr hx)))
 rw[Ef _ _ (Dk hij)] at I5
 exact⟨_,H1,I5,q1⟩
end
section
variable{X:Cx}{pos:Pos}
def zER(c:TT)(tb:TS):TS:=λD σ H=> ∃W:Nat->St->Hp->Prop,(∃m,W m σ H)/\ ∀m σ H,W m σ H→
 c σ H λb H1=>if b=true then∃N:St->Hp->Prop,(∀σ' H',N σ' H'-> ∃m',m'<m/\W m' σ' H')/\tb {D with nx:=N,ct:=N,bk:=D.nx} σ H1 else D.nx σ H1
theorem zA8{c:Expr}{body:List Stmt}{tc:TT}{tb:TS}(hp:Oo (model X.prog X.w) X.A X.env X.xe)(hc:PT X c tc)(hb:PR X body tb):PS X (.While c body [] pos) (zER tc tb):=by
 intro aa s σ H D I h
 obtain⟨W,⟨m0,w0⟩,turn⟩:=h
 refine wpAny_While (codeAny_whileLoop (λn s'=> ∃σ' H',cN X aa σ' H' s'/\W n σ' H') ?_ m0 ⟨σ,H,I,w0⟩)
 rintro n s1 ⟨σ1,H1,I1,w1⟩
 refine Fi hp (ZG (hc aa s1 σ1 H1 _ I1 (turn n σ1 H1 w1)) λb s2 ⟨H2,I2,q2⟩=> ?_)
 cases b with
 |true=>
  obtain⟨N,hN,q2⟩:=q2
  rw[if_pos rfl]
  refine Fi hp (ZG (hb aa s2 σ1 H2 _ I2 q2) λf s3 q3=> ?_)
  cases f with
  |next=>
   obtain⟨σ3,H3,I3,n3⟩:=q3
   obtain⟨m',hm,w3⟩:=hN σ3 H3 n3
   exact⟨m',hm,σ3,H3,I3,w3⟩
  |cont=>
   obtain⟨σ3,H3,I3,n3⟩:=q3
   obtain⟨m',hm,w3⟩:=hN σ3 H3 n3
   exact⟨m',hm,σ3,H3,I3,w3⟩
  |brk=>exact q3
  |ret v=>exact q3
 |false=>
  rw[if_neg Dd]
  exact La ⟨σ1,H2,I2,q2⟩
end
structure It where
 go:Nat->Hp->Prop
 yld:Nat->Hp->V->Hp->Prop
 stop:Nat->Hp->Prop
def QB(X:Cx)(aa:List (Addr×Obj))(H:Hp)(b:Addr):Prop:=
 H b=none/\b≠X.env.locals/\b∉X.fs/\(b∈X.ex∨X.s₀.heap.objs.size<=b)/\(∀x c,X.env.cells.lookup x=some c->c≠b)/\ ∀p∈X.pn++aa,p.1≠b
theorem cN.fpOk{X:Cx}{aa:List (Addr×Obj)}{σ:St}{H H':Hp}{s:Ag}{b:Addr}(I:cN X aa σ H s)(hb:s.heap.objs.size<=b)(hn:H' b=none):QB X aa H' b:=by
 refine⟨hn,Fv (Aw I.lt hb),I.nofs hb,.inr (Ei I.sz hb),λx c e z=> ?_,λp hp z=> ?_⟩
 ·obtain⟨v,q⟩:=I.cell x c e
  exact absurd (Aw q.lt (by rw[z];exact hb)) (Ca _)
 ·exact absurd (Aw (Am (I.pin p hp).1) (by rw[z];exact hb)) (Ca _)
structure HL(P:Bn)(w:World)(K:An)(tg:Expr)(J:It)(fp:List Addr)(it:Addr)(tn:Nat->Heap->Prop):Prop where
 mem:it∈fp
 obj: ∀i h,tn i h-> ∀b∈fp,∃o,h.get? b=some o/\ ∀v,o.data≠ .cell v
 keep: ∀i h h',tn i h->(∀b∈fp,∀o,h.get? b=some o->h'.get? b=some o)->tn i h'
 item: ∀(X:Cx),X.prog=P->X.w=w->X.K=K->X.calm=true-> ∀(i:Nat) (aa:List (Addr×Obj)) (s:Ag) (σ:St) (H:Hp) (E:Value->Ag->Prop),cN X aa σ H s->(∀b∈fp,QB X aa H b)->tn i s.heap->J.go i H→
  wpAny (model P w) X.A (pyNext (.ref it)) (λr s1=> ∃u,r=some u∧
   wpAny (model P w) X.A (Er tg (.ref it) u) (λ_ s2=> ∃x H',cN X aa σ H' s2/\bZ x u/\J.yld i H x H'/\tn (i+1) s2.heap/\ ∀b∈fp,H' b=none) E s1) E s
 done: ∀(X:Cx),X.prog=P->X.w=w->X.K=K->X.calm=true-> ∀(i:Nat) (aa:List (Addr×Obj)) (s:Ag) (σ:St) (H:Hp) (E:Value->Ag->Prop),cN X aa σ H s->(∀b∈fp,QB X aa H b)->tn i s.heap->J.stop i H→
  wpAny (model P w) X.A (pyNext (.ref it)) (λr s1=>r=none/\cN X aa σ H s1) E s
 self: ∀(A:Cy) (i:Nat) (s:Ag) (Q:Value->Ag->Prop) (E:Value->Ag->Prop),tn i s.heap->Q (.ref it) s->wpAny (model P w) A (Op (.ref it)) Q E s
abbrev TI:=St->Hp->(It->Hp->Prop)->Prop
def PIE(X:Cx)(aa:List (Addr×Obj))(σ:St)(tg:Expr)(R:It->Hp->Prop)(itv:Value)(s2:Ag):Prop:=
 ∃(it:Addr) (fp:List Addr) (tn:Nat->Heap->Prop) (J:It) (H':Hp),itv= .ref it/\cN X aa σ H' s2/\HL X.prog X.w X.K tg J fp it tn/\tn 0 s2.heap/\(∀b∈fp,QB X aa H' b)/\R J H'
def PI(X:Cx)(tg iter:Expr)(wi:TI):Prop:=
 ∀(aa:List (Addr×Obj)) (s:Ag) (σ:St) (H:Hp) (R:It->Hp->Prop),cN X aa σ H s->wi σ H R→
  wpAny (model X.prog X.w) X.A (eval iter X.env) (λv s1=>wpAny (model X.prog X.w) X.A (Op v) (PIE X aa σ tg R) X.xe s1) X.xe s
theorem zBE{M:Model}{A:Cy}{E:Value->Ag->Prop}{s:Ag}{tg:Expr}{it:Addr}{u:Value}{o:Obj}{n:String}{vs:Array Value}{Q:Unit->Ag->Prop}(ho:s.heap.get? it=some o)(hc:o.cls= .type n)(hd:o.data= .fields vs)
    (hn:["enumerate","zip","dict_itemiterator","dict_reverseitemiterator","odict_iterator","itertools.zip_longest","itertools.pairwise"].contains n=false) (hQ:Q () s):wpAny M A (Er tg (.ref it) u) Q E s:=by
  unfold Er
  cases tg<;>first
    |exact Ai hQ
    |(cases u<;>first
        |exact Ai hQ
        | (refine Aa (wpAny_load ho ?_)
           rw[hc,hd]
           show wpAny M A (if(["enumerate","zip","dict_itemiterator","dict_reverseitemiterator","odict_iterator","itertools.zip_longest","itertools.pairwise"].contains n && vs[0]? ==some (rawInt _))=true then _ else _) Q E s
           rw[if_neg (by intro h;rw[hn,Bool.false_and] at h;cases h)]
           exact Ai hQ))
def Itl(K:An)(a:Addr):It:=
 ⟨λi H=> ∃xs x,W8 K H a xs/\xs[i]? =some x,λi H x H'=>H'=H/\ ∀xs,W8 K H a xs->xs[i]? =some x,λi H=> ∃xs,W8 K H a xs/\xs.length<=i⟩
def Itt(K:An)(a:Addr):It:=
 ⟨λi H=> ∃xs x,WC K H a xs/\xs[i]? =some x,λi H x H'=>H'=H/\ ∀xs,WC K H a xs->xs[i]? =some x,λi H=> ∃xs,WC K H a xs/\xs.length<=i⟩
def Itr(lo:Int)(n:Nat):It:=⟨λi _=>i<n,λi H x H'=>H'=H/\x= .int (lo+i),λi _=>n<=i⟩
theorem DW{P:Bn}{w:World}{K:An}{tg:Expr}(a it:Addr):HL P w K tg (Itl K a) [it] it (λi h=>h.IsListIter it a i) where
 mem:=by simp
 obj:=λi h st b hb=>by
  have e:b=it:=by simpa using hb
  subst e
  obtain⟨o,e,c,d⟩:=st
  exact⟨o,e,λv z=>by rw[d] at z;cases z⟩
 keep:=λi h h' st k=>st.at λo e=>k it (by simp) o e
 item:=by
  intro X hP hw hK hc i aa s σ H E I hf st hg
  subst hP hw hK
  obtain⟨xs,x,hq,hx⟩:=hg
  obtain⟨its,rv,p,hz⟩:=I.list hq
  obtain⟨u,hu,ru⟩:=rv.get hx
  obtain⟨f0,f1,f2,f3,f4,f5⟩:=hf it (by simp)
  refine Kq st p.isList (x:=u) (by simpa using hu) λh' st' sb=> ?_
  have I1:cN X aa σ H {s with heap:=h'}:=I.turned (t':=s.toks) (λb o hb e=>(sb.2 b hb).trans e) f0 f1 f3 f4 f5
  obtain⟨o,e,c,d⟩:=id st'
  exact⟨u,rfl,zBE (s:={s with heap:=h'}) e c d (by decide) ⟨x,H,I1,ru,⟨rfl,λys hy=>by rw[I.list_inj hy hq];exact hx⟩,st',λb hb=>(hf b hb).1⟩⟩
 done:=by
  intro X hP hw hK hc i aa s σ H E I hf st hg
  subst hP hw hK
  obtain⟨xs,hq,hx⟩:=hg
  obtain⟨its,rv,p,hz⟩:=I.list hq
  obtain⟨f0,f1,f2,f3,f4,f5⟩:=hf it (by simp)
  have hl:=rv.length
  exact Lb (I.ok.hd hc) st p.isList (by simp;lia) λh' eb=>⟨rfl,I.turned (t':=s.toks) (λb o hb e=>eb b o hb e) f0 f1 f3 f4 f5⟩
 self:=λ_ _ _ _ _ st h=>wpAny_pyIter_listiter st h
theorem HD{P:Bn}{w:World}{K:An}{tg:Expr}(a it:Addr):HL P w K tg (Itt K a) [it] it (λi h=>h.IsTupleIter it a i) where
 mem:=by simp
 obj:=λi h st b hb=>by
  have e:b=it:=by simpa using hb
  subst e
  obtain⟨o,e,c,d⟩:=st
  exact⟨o,e,λv z=>by rw[d] at z;cases z⟩
 keep:=λi h h' st k=>st.at λo e=>k it (by simp) o e
 item:=by
  intro X hP hw hK hc i aa s σ H E I hf st hg
  subst hP hw hK
  obtain⟨xs,x,hq,hx⟩:=hg
  obtain⟨its,rv,p,hz⟩:=I.tuple hq
  obtain⟨u,hu,ru⟩:=rv.get hx
  obtain⟨f0,f1,f2,f3,f4,f5⟩:=hf it (by simp)
  refine wpAny_pyNext_tuple_item st (show s.heap.IsTuple a its.toArray from p) (x:=u) (by simpa using hu) λh' st' sb=> ?_
  have I1:cN X aa σ H {s with heap:=h'}:=I.turned (t':=s.toks) (λb o hb e=>(sb.2 b hb).trans e) f0 f1 f3 f4 f5
  obtain⟨o,e,c,d⟩:=id st'
  exact⟨u,rfl,zBE (s:={s with heap:=h'}) e c d (by decide) ⟨x,H,I1,ru,⟨rfl,λys hy=>by rw[I.tuple_inj hy hq];exact hx⟩,st',λb hb=>(hf b hb).1⟩⟩
 done:=by
  intro X hP hw hK hc i aa s σ H E I hf st hg
  subst hP hw hK
  obtain⟨xs,hq,hx⟩:=hg
  obtain⟨its,rv,p,hz⟩:=I.tuple hq
  obtain⟨f0,f1,f2,f3,f4,f5⟩:=hf it (by simp)
  have hl:=rv.length
  exact wpAny_pyNext_tuple_end (I.ok.hd hc) st (show s.heap.IsTuple a its.toArray from p) (by simp;lia) λh' eb=>⟨rfl,I.turned (t':=s.toks) (λb o hb e=>eb b o hb e) f0 f1 f3 f4 f5⟩
 self:=λ_ _ _ _ _ st h=>wpAny_pyIter_tupleiter st h
theorem HC{P:Bn}{w:World}{K:PySem.W.Frag}{tg:Expr}(it:Addr)(lo:Int)(n:Nat):HL P w K tg (Itr lo n) [it] it (λi h=>IsRangeIter h it (lo+(i:Nat)*1) ((n:Int) - (i:Nat)) 1) where
 mem:=by simp
 obj:=λi h st b hb=>by
  have e:b=it:=by simpa using hb
  subst e
  exact⟨_,st,λv z=>by
   have z':Data.fields _=Data.cell v:=z
   cases z'⟩
 keep:=λi h h' st k=>k it (by simp) _ st
 item:=by
  intro X hP hw hK hc i aa s σ H E I hf st hg
  subst hP hw hK
  obtain⟨f0,f1,f2,f3,f4,f5⟩:=hf it (by simp)
  have W:=Walks.range (prog:=X.prog) (w:=X.w) (I.ok.hd hc) it lo 1 n
  refine W.item i s _ _ hg st λv h' tk hv st' kk=> ?_
  obtain⟨t,rfl⟩:=hv
  have I1:cN X aa σ H {s with heap:=h',toks:=tk}:=I.turned (λb o hb e=>kk b o (by simpa using hb) e) f0 f1 f3 f4 f5
  refine⟨_,rfl,zBE (s:={s with heap:=h',toks:=tk}) (n:= "range_iterator") st' rfl rfl (by decide) ⟨.int (lo+i),H,I1,⟨t,?_⟩,⟨rfl,rfl⟩,st',λb hb=>(hf b hb).1⟩⟩
  rw[Int.mul_one]
 done:=by
  intro X hP hw hK hc i aa s σ H E I hf st hg
  subst hP hw hK
  obtain⟨f0,f1,f2,f3,f4,f5⟩:=hf it (by simp)
  exact wpAny_pyNext_range_end (I.ok.hd hc) st (by have:n<=i:=hg;lia) λh' eb=>⟨rfl,I.turned (t':=s.toks) (λb o hb e=>eb b o hb e) f0 f1 f3 f4 f5⟩
 self:=λ_ _ _ _ _ st h=>wpAny_pyIter_rangeiter st h
section
variable{X:Cx}{tg:Expr}
def zE7(K:An)(tl:TE):TI:=λσ H R=>tl σ H λx H1=> ∃a,x= .ref a/\(∃xs,W8 K H1 a xs)/\R (Itl K a) H1
def iTup(K:An)(tl:TE):TI:=λσ H R=>tl σ H λx H1=> ∃a,x= .ref a/\(∃xs,WC K H1 a xs)/\R (Itt K a) H1
theorem zCN{l:Expr}{tl:TE}(hl:PE X l tl):PI X tg l (zE7 X.K tl):=by
 intro aa s σ H R I h
 refine ZG (hl aa s σ H _ I h) λv s1 ⟨x,H1,I1,r1,q1⟩=> ?_
 obtain⟨a,e,⟨xs,hq⟩,q⟩:=q1
 subst e
 cases r1
 obtain⟨its,rv,p,hz⟩:=I1.list hq
 refine Gd p.isList ?_
 refine⟨s1.heap.objs.size,[s1.heap.objs.size],_,_,H1,rfl,I1.kept (t':=s1.toks) λb o e=>Ac _ e,DW a _,⟨_,Au _ rfl,rfl,rfl⟩,λb hb=> ?_,q⟩
 have e:b=s1.heap.objs.size:=by simpa using hb
 subst e
 exact I1.fpOk (Ap _) (I1.hok.fresh (Ap _))
theorem zFW{l:Expr}{tl:TE}(hl:PE X l tl):PI X tg l (iTup X.K tl):=by
 intro aa s σ H R I h
 refine ZG (hl aa s σ H _ I h) λv s1 ⟨x,H1,I1,r1,q1⟩=> ?_
 obtain⟨a,e,⟨xs,hq⟩,q⟩:=q1
 subst e
 cases r1
 obtain⟨its,rv,p,hz⟩:=I1.tuple hq
 refine Gv (show s1.heap.IsTuple a its.toArray from p) ?_
 refine⟨s1.heap.objs.size,[s1.heap.objs.size],_,_,H1,rfl,I1.kept (t':=s1.toks) λb o e=>Ac _ e,HD a _,⟨_,Au _ rfl,rfl,rfl⟩,λb hb=> ?_,q⟩
 have e:b=s1.heap.objs.size:=by simpa using hb
 subst e
 exact I1.fpOk (Ap _) (I1.hok.fresh (Ap _))
theorem JG{aa:List (Addr×Obj)}{σ:St}{H:Hp}{s:Ag}{R:It->Hp->Prop}{E:Value->Ag->Prop}{lo hi:Int}{t u v:Tok}{tk:Nat}(I:cN X aa σ H s)(h1: -(2 ^ 62)<=lo)(h2:lo<2 ^ 62)(h3: -(2 ^ 62)<=hi)(h4:hi<2 ^ 62)
  (q:R (Itr lo (hi - lo).toNat) H):wpAny (model X.prog X.w) X.A (Op (.ref s.heap.objs.size)) (PIE X aa σ tg R) E {s with heap:=s.heap.push {cls:= .type "range",data:= .fields #[.int lo t,.int hi u,.int 1 v]},toks:=tk}:=by
 refine wpAny_pyIter_range (Qz ..) (small_one h1 h2 h3 h4) ?_
 have I1:cN X aa σ H {s with heap:=s.heap.push {cls:= .type "range",data:= .fields #[.int lo t,.int hi u,.int 1 v]},toks:=tk}:=I.kept λb o e=>Ac _ e
 refine⟨(s.heap.push {cls:= .type "range",data:= .fields #[.int lo t,.int hi u,.int 1 v]}).objs.size,[(s.heap.push {cls:= .type "range",data:= .fields #[.int lo t,.int hi u,.int 1 v]}).objs.size],_,_,H,rfl,
  I1.kept (t':=tk) λb o e=>Ac _ e,HC _ lo (hi - lo).toNat,?_,λb hb=> ?_,q⟩
 ·have e1 : lo + ((0 : Nat) : Int) * 1 = lo := by simp
  have e2:(((hi - lo).toNat:Nat):Int) - ((0:Nat):Int)=Gw lo hi 1:=by rw[rangeSize_one];split<;>lia
  show IsRangeIter _ _ (lo+((0:Nat):Int)*1) ((((hi - lo).toNat:Nat):Int) - ((0:Nat):Int)) 1
  rw[e1,e2]
  exact Au _ rfl
 ·have e : b = (s.heap.push { cls := .type "range",data := .fields #[.int lo t,.int hi u,.int 1 v] }).objs.size := by simpa using hb
  subst e
  exact I1.fpOk (Ap _) (I1.hok.fresh (Ap _))
def zKG(ta:TA):TI:=λσ H R=>ta σ H λvs H1=> ∃j:Int,vs=[.int j]/\ -(2 ^ 62)<=j/\j<2 ^ 62/\R (Itr 0 j.toNat) H1
def zKF(ta:TA):TI:=λσ H R=>ta σ H λvs H1=> ∃i j:Int,vs=[.int i,.int j]/\(-(2 ^ 62)<=i/\i<2 ^ 62/\ -(2 ^ 62)<=j/\j<2 ^ 62)/\R (Itr i (j - i).toNat) H1
theorem DF{a:Expr}{ta:TA}{p pos:Pos}(hg:Gl X "range") (hm:X.mg "range"=none) (ha:PA X [a] ta) (hs:Ah [a] X.env=[(false,eval a X.env)]:=by rfl):PI X tg (.Call (.Name "range" p) [a] [] pos) (zKG ta):=by
 intro aa s σ H R I h
 refine Call_ (SF I hg hm boot_range (Dy (ZG (ha pos aa s σ H _ I h) λus s1 ⟨vs,H1,I1,r1,q1⟩=> ?_) hs rfl))
 obtain⟨j,e,q1,q2,q⟩:=q1
 subst e
 cases r1 with
 |cons r rr=>
  cases rr
  obtain⟨t,rfl⟩:=r
  exact call_range_1 (JG I1 (by lia) (by lia) q1 q2 (by simpa using q))
theorem DG{a b:Expr}{ta:TA}{p pos:Pos}(hg:Gl X "range") (hm:X.mg "range"=none) (ha:PA X [a,b] ta) (hs:Ah [a,b] X.env=[(false,eval a X.env),(false,eval b X.env)]:=by rfl) (hs2:Ah [b] X.env=[(false,eval b X.env)]:=by rfl):
  PI X tg (.Call (.Name "range" p) [a,b] [] pos) (zKF ta):=by
 intro aa s σ H R I h
 refine Call_ (SF I hg hm boot_range (Dy (ZG (ha pos aa s σ H _ I h) λus s1 ⟨vs,H1,I1,r1,q1⟩=> ?_) (by rw[hs,hs2]) (by rw[hs2];rfl)))
 obtain⟨i,j,e,⟨q1,q2,q3,q4⟩,q⟩:=q1
 subst e
 cases r1 with
 |cons r rr=>
  cases rr with
  |cons r' rr=>
   cases rr
   obtain⟨t,rfl⟩:=r
   obtain⟨t',rfl⟩:=r'
   exact call_range_2 (JG I1 q1 q2 q3 q4 q)
def tFor(wi:TI)(g:TG)(tb:TS):TS:=λD σ H=>wi σ H λJ H1=> ∃W:Nat->Nat->St->Hp->Prop,(∃m,W 0 m σ H1)/\ ∀i m σ H,W i m σ H→
 (J.stop i H/\D.nx σ H)∨(J.go i H/\ ∃N:St->Hp->Prop,(∀σ' H',N σ' H'-> ∃m',m'<m/\W (i+1) m' σ' H')/\ ∀x H',J.yld i H x H'->g x σ H' λσ2 H2=>tb {D with nx:=N,ct:=N,bk:=D.nx} σ2 H2)
def SN(fp:List Addr)(h:Heap):List (Addr×Obj):=fp.filterMap λb=>(h.get? b).map λo=>(b,o)
theorem Y9{fp:List Addr}{h:Heap}{b:Addr}{o:Obj}(hb:b∈fp)(e:h.get? b=some o):(b,o)∈SN fp h:=Mk.mpr ⟨b,hb,by rw[e];rfl⟩
theorem DC{fp:List Addr}{h:Heap}{p:Addr×Obj}(hp:p∈SN fp h):p.1∈fp/\h.get? p.1=some p.2:=by
 obtain⟨b,hb,e⟩:=Mk.mp hp
 cases q:h.get? b with
 |none=>rw[q] at e;cases e
 |some o=>
  rw[q] at e
  have e':(b,o)=p:=Cd e
  subst e'
  exact⟨hb,q⟩
theorem cN.pinned{aa:List (Addr×Obj)}{σ:St}{H:Hp}{s:Ag}{fp:List Addr}(I:cN X aa σ H s)(hf: ∀b∈fp,QB X aa H b)(ho: ∀b∈fp,∃o,s.heap.get? b=some o/\ ∀v,o.data≠ .cell v):cN X (aa++SN fp s.heap) σ H s:=
 I.pins_of λp hp=>(Bi.mp hp).elim (λz=>I.pin p (At _ z)) λz=>by
  obtain⟨hb,e⟩:=DC z
  obtain⟨f0,f1,f2,_⟩:=hf p.1 hb
  obtain⟨o,e',d⟩:=ho p.1 hb
  rw[e] at e';cases e'
  exact⟨e,f0,f1,f2,d⟩
theorem cN.unpinned{aa pl:List (Addr×Obj)}{σ:St}{H:Hp}{s:Ag}(I:cN X (aa++pl) σ H s):cN X aa σ H s:=I.pins_of λp hp=>I.pin p (At _ (Bp _ hp))
theorem zFT{iter:Expr}{body:List Stmt}{wi:TI}{g:TG}{tb:TS}{pos:Pos}(hp:Oo (model X.prog X.w) X.A X.env X.xe)(hc:X.calm=true)(hi:PI X tg iter wi)(hg:PG X tg g)(hb:PR X body tb)
  (hs : ∀ x,foldedSetIterable iter X.env x = pure x := by intro _;rfl) : PS X (.For tg iter body [] pos) (tFor wi g tb) := by
 intro aa s σ H D I h
 refine wpAny_For (ZG (hi aa s σ H _ I h) λv s1 h1=>ZG h1 λitv s2 h2=> ?_) hs
 obtain⟨it,fp,tn,J,H2,e,I2,T,st2,f2,W,⟨m0,w0⟩,turn⟩:=h2
 subst e
 have stat: ∀{H':Hp},(∀b∈fp,H' b=none)-> ∀b∈fp,QB X aa H' b:=λhn b hb=>⟨hn b hb,(f2 b hb).2⟩
 refine codeAny_forLoop_any (λn s'=> ∃i σ' H',cN X aa σ' H' s'/\tn i s'.heap/\(∀b∈fp,H' b=none)/\W i n σ' H') ?_ m0 ⟨0,σ,H2,I2,st2,λb hb=>(f2 b hb).1,w0⟩
 rintro n s3 ⟨i,σ3,H3,I3,st3,fr3,w3⟩
 rcases turn i n σ3 H3 w3 with⟨stop,qn⟩|⟨go,N,hN,step⟩
 ·refine Fi hp (ZG (T.done X rfl rfl rfl hc i aa s3 σ3 H3 X.xe I3 (stat fr3) st3 stop) λr s4 ⟨hr,I4⟩ => ?_)
  subst hr
  exact La ⟨σ3,H3,I4,qn⟩
 ·refine Fi hp (ZG (T.item X rfl rfl rfl hc i aa s3 σ3 H3 X.xe I3 (stat fr3) st3 go) λr s4 ⟨u,hr,h4⟩ => ?_)
  subst hr
  refine Fi hp (ZG h4 λ_ s5 ⟨x,H5,I5,r5,y5,st5,fr5⟩=> ?_)
  have I5':=I5.pinned (stat fr5) (T.obj _ _ st5)
  refine Fi hp (ZG (hg _ s5 σ3 H5 x u _ I5' r5 (step x H5 y5)) λ_ s6 ⟨σ6,H6,I6,q6⟩=> ?_)
  refine Fi hp (ZG (hb _ s6 σ6 H6 _ I6 q6) λf s7 q7=> ?_)
  have again: ∀{σ7:St} {H7:Hp},cN X (aa++SN fp s5.heap) σ7 H7 s7->N σ7 H7-> ∃m,m<n/\ ∃i σ' H',cN X aa σ' H' s7/\tn i s7.heap/\(∀b∈fp,H' b=none)/\W i m σ' H':=λ{σ7 H7} I7 n7=>by
   obtain⟨m',hm,w7⟩:=hN σ7 H7 n7
   refine⟨m',hm,i+1,σ7,H7,I7.unpinned,T.keep _ _ _ st5 λb hb o e=>(I7.pin (b,o) (At _ (At _ (Y9 hb e)))).1,λb hb=> ?_,w7⟩
   obtain⟨o,e,d⟩:=T.obj _ _ st5 b hb
   exact(I7.pin (b,o) (At _ (At _ (Y9 hb e)))).2.1
  cases f with
  |next=>obtain⟨σ7,H7,I7,n7⟩:=q7;exact again I7 n7
  |cont=>obtain⟨σ7,H7,I7,n7⟩:=q7;exact again I7 n7
  |brk=>obtain⟨σ7,H7,I7,q7⟩:=q7;exact⟨σ7,H7,I7.unpinned,q7⟩
  |ret v=>obtain⟨x7,σ7,H7,I7,r7,q7⟩:=q7;exact⟨x7,σ7,H7,I7.unpinned,r7,q7⟩
end
abbrev R2:=V->V->Hp->VK->Prop
def WT(X:Cx)(f:Value->Value->Sem Value)(r:R2):Prop:=
 ∀(aa:List (Addr×Obj)) (s:Ag) (σ:St) (H:Hp) (x y:V) (v u:Value) (Q:VK),cN X aa σ H s->bZ x v->bZ y u->r x y H Q→
  wpAny (model X.prog X.w) X.A (f v u) (EP X aa σ Q) X.xe s
def UnR(X:Cx)(f:Value->Sem Value)(r:V->Hp->VK->Prop):Prop:=
 ∀(aa:List (Addr×Obj)) (s:Ag) (σ:St) (H:Hp) (x:V) (v:Value) (Q:VK),cN X aa σ H s->bZ x v->r x H Q→
  wpAny (model X.prog X.w) X.A (f v) (EP X aa σ Q) X.xe s
def Z4(X:Cx)(f:Value)(r:List V->Hp->VK->Prop):Prop:=
 ∀(aa:List (Addr×Obj)) (s:Ag) (σ:St) (H:Hp) (xs:List V) (us:List Value) (Q:VK),cN X aa σ H s->bT xs us->r xs H Q→
  wpAny (model X.prog X.w) X.A (call f us) (EP X aa σ Q) X.xe s
def tOp(r:R2)(ta tb:TE):TE:=λσ H Q=>ta σ H λx H1=>tb σ H1 λy H2=>r x y H2 Q
def tUn(r:V->Hp->VK->Prop)(ta:TE):TE:=λσ H Q=>ta σ H λx H1=>r x H1 Q
def rI(C:Int->Int->Prop)(g:Int->Int->V):R2:=λx y H Q=> ∃i j,x= .int i/\y= .int j/\C i j/\Q (g i j) H
def GW(g:Int->Int->V):R2:=λx y H Q=> ∃i j,x= .int i/\y= .int j/\Q (g i j) H
def rU(g:Int->V):V->Hp->VK->Prop:=λx H Q=> ∃i,x= .int i/\Q (g i) H
section
variable{X:Cx}{a b c:Expr}{ta tb tc:TE}{pos:Pos}
theorem binT(ha:PE X a ta)(hb:PE X b tb){aa:List (Addr×Obj)}{s:Ag}{σ:St}{H:Hp}{R:V->V->Hp->Prop}(I:cN X aa σ H s)
  (h:ta σ H λx H1=>tb σ H1 λy H2=>R x y H2) {Q:Value->Ag->Prop} {f:Value->Value->Sem Value}
  (hf: ∀v u s2 x y H2,cN X aa σ H2 s2->bZ x v->bZ y u->R x y H2->wpAny (model X.prog X.w) X.A (f v u) Q X.xe s2):
  wpAny (model X.prog X.w) X.A (eval a X.env) (λv s₁=>wpAny (model X.prog X.w) X.A (eval b X.env) (λu s₂=>wpAny (model X.prog X.w) X.A (f v u) Q X.xe s₂) X.xe s₁) X.xe s:=by
 refine ZG (ha aa s σ H _ I h) λv s1 ⟨x,H1,I1,r1,q1⟩=> ?_
 refine ZG (hb aa s1 σ H1 _ I1 q1) λu s2 ⟨y,H2,I2,r2,q2⟩=> ?_
 exact hf v u s2 x y H2 I2 r1 r2 q2
theorem zDX{op:Operator}{r:R2}(ho:WT X (Fs op) r)(ha:PE X a ta)(hb:PE X b tb):PE X (.BinOp a op b pos) (tOp r ta tb):=by
 intro aa s σ H Q I h
 exact wpAny_BinOp (binT ha hb I h λv u s2 x y H2 I2 rx ry q=>ho aa s2 σ H2 x y v u Q I2 rx ry q)
theorem zJK{op:UnaryOp}{r:V->Hp->VK->Prop}(ho:UnR X (unaryOp op) r)(ha:PE X a ta):PE X (.UnaryOp op a pos) (tUn r ta):=by
 intro aa s σ H Q I h
 exact UnaryOp_ (ZG (ha aa s σ H _ I h) λv s1 ⟨x,H1,I1,r1,q1⟩=>ho aa s1 σ H1 x v Q I1 r1 q1)
theorem opI{f:Value->Value->Sem Value}{C:Int->Int->Prop}{g:Int->Int->Int}
  (rule: ∀(i j:Int) (t u:Tok) (s:Ag) (Q:Value->Ag->Prop) (E:Value->Ag->Prop),C i j->Q (.int (g i j) s.toks) {s with toks:=s.toks+1}->wpAny (model X.prog X.w) X.A (f (.int i t) (.int j u)) Q E s):
  WT X f (rI C λi j=> .int (g i j)):=by
 intro aa s σ H x y v u Q I rx ry h
 obtain⟨i,j,rfl,rfl,hc,q⟩:=h
 obtain⟨t,rfl⟩:=rx
 obtain⟨t',rfl⟩:=ry
 exact rule i j t t' s _ _ hc ⟨.int (g i j),H,I.tok _,⟨_,rfl⟩,q⟩
theorem opI0{f:Value->Value->Sem Value}{g:Int->Int->Int}
  (rule: ∀(i j:Int) (t u:Tok) (s:Ag) (Q:Value->Ag->Prop) (E:Value->Ag->Prop),Q (.int (g i j) s.toks) {s with toks:=s.toks+1}->wpAny (model X.prog X.w) X.A (f (.int i t) (.int j u)) Q E s):
  WT X f (GW λi j=> .int (g i j)):=by
 intro aa s σ H x y v u Q I rx ry h
 obtain⟨i,j,rfl,rfl,q⟩:=h
 obtain⟨t,rfl⟩:=rx
 obtain⟨t',rfl⟩:=ry
 exact rule i j t t' s _ _ ⟨.int (g i j),H,I.tok _,⟨_,rfl⟩,q⟩
theorem opB0{f:Value->Value->Sem Value}{g:Int->Int->Bool}
  (rule: ∀(i j:Int) (t u:Tok) (s:Ag) (Q:Value->Ag->Prop) (E:Value->Ag->Prop),Q (.bool (g i j)) s->wpAny (model X.prog X.w) X.A (f (.int i t) (.int j u)) Q E s):
  WT X f (GW λi j=> .bl (g i j)):=by
 intro aa s σ H x y v u Q I rx ry h
 obtain⟨i,j,rfl,rfl,q⟩:=h
 obtain⟨t,rfl⟩:=rx
 obtain⟨t',rfl⟩:=ry
 exact rule i j t t' s _ _ ⟨.bl (g i j),H,I,rfl,q⟩
def CDiv(i j:Int):Prop:=0<j/\j<1073741824
def CPow(i j:Int):Prop:=0<=j/\j<=1000000/\i.natAbs<2 ^ 64
def B0(i j:Int):Prop:=(-(2 ^ 64)<i/\i<2 ^ 64)∨(-(2 ^ 64)<j/\j<2 ^ 64)
theorem B0.ok{i j:Int}(h:B0 i j):IntMulOk i j:=by
 rcases h with⟨h1,h2⟩|⟨h1,h2⟩
 ·exact .of_left (intBits_le_64 h1 h2)
 ·exact .of_right (intBits_le_64 h1 h2)
theorem zGB:WT X (Fs .Add) (GW λi j=> .int (i+j)):=opI0 λ_ _ _ _ _ _ _ q=>add_int q
theorem UU:WT X (Fs .Sub) (GW λi j=> .int (i - j)):=opI0 λ_ _ _ _ _ _ _ q=>sub_int q
theorem zG9:WT X (Fs .Mult) (rI B0 λi j=> .int (i*j)):=opI λ_ _ _ _ _ _ _ hc q=>mul_int q hc.ok
theorem LA:WT X (Fs .FloorDiv) (rI CDiv λi j=> .int (i/j)):=opI λi j _ _ _ _ _ hc q=>by
 have h1:(0:Int)<j:=hc.1
 have h2:j<1073741824:=hc.2
 exact floordiv_int (by lia) (by rw[Int.fdiv_eq_ediv_of_nonneg i (by lia)];exact q) (.inl (PyProof.noPylong_small (by lia)))
theorem WZ:WT X (Fs .Mod) (rI (λ_ j=>0<j) λi j=> .int (i % j)):=opI λi j _ _ _ _ _ hc q=>by
 have h1:(0:Int)<j:=hc
 exact mod_int' (by lia) (by rw[Int.fmod_eq_emod_of_nonneg i (by lia)];exact q)
theorem zG7:WT X (Fs .Pow) (rI CPow λi j=> .int (i ^ j.toNat)):=opI λ_ _ _ _ _ _ _ hc q=>pow_int_small hc.1 hc.2.1 hc.2.2 q
theorem unI{f:Value->Sem Value}{g:Int->Int}
  (rule: ∀(i:Int) (t:Tok) (s:Ag) (Q:Value->Ag->Prop) (E:Value->Ag->Prop),Q (.int (g i) s.toks) {s with toks:=s.toks+1}->wpAny (model X.prog X.w) X.A (f (.int i t)) Q E s):
  UnR X f (rU λi=> .int (g i)):=by
 intro aa s σ H x v Q I rx h
 obtain⟨i,rfl,q⟩:=h
 obtain⟨t,rfl⟩:=rx
 exact rule i t s _ _ ⟨.int (g i),H,I.tok _,⟨_,rfl⟩,q⟩
theorem zEL:UnR X (unaryOp .USub) (rU λi=> .int (-i)):=unI λ_ _ _ _ _ q=>neg_int q
end
section
variable{X:Cx}{a b c:Expr}{ta tb tc:TE}{pos:Pos}
theorem KS{aa:List (Addr×Obj)}{σ:St}{H:Hp}{s:Ag}{Q:VK}{k k':Bool}(I:cN X aa σ H s)(q:Q (.bl k) H)(e:k=k'):EP X aa σ Q (.bool k') s:=by
 subst e
 exact⟨.bl k,H,I,rfl,q⟩
theorem ML:WT X (De .Lt) (GW λi j=> .bl (decide (i<j))):=opB0 λ_ _ _ _ _ _ _ q=>lt_int q
theorem IU:WT X (De .LtE) (GW λi j=> .bl (decide (i<=j))):=opB0 λ_ _ _ _ _ _ _ q=>le_int q
theorem zDY:WT X (De .Gt) (GW λi j=> .bl (decide (j<i))):=opB0 λ_ _ _ _ _ _ _ q=>gt_int q
theorem zAO:WT X (De .GtE) (GW λi j=> .bl (decide (j<=i))):=opB0 λ_ _ _ _ _ _ _ q=>ge_int q
theorem GO:WT X (De .Is) (λx y H Q=>y= .non/\Q (.bl (decide (x= .non))) H):=by
 intro aa s σ H x y v u Q I rx ry h
 obtain⟨rfl,q⟩:=h
 cases ry
 refine is_none_gen (KS I q ?_)
 cases x<;>first
  |(cases rx;rfl)
  |(obtain⟨t,rfl⟩:=rx;rfl)
theorem RJ:WT X (De .IsNot) (λx y H Q=>y= .non/\Q (.bl (!decide (x= .non))) H):=by
 intro aa s σ H x y v u Q I rx ry h
 obtain⟨rfl,q⟩:=h
 cases ry
 refine isnot_none_gen (KS I q ?_)
 cases x<;>first
  |(cases rx;rfl)
  |(obtain⟨t,rfl⟩:=rx;rfl)
theorem WT.or{f:Value->Value->Sem Value}{r r':R2}(h:WT X f r)(h':WT X f r'):WT X f (λx y H Q=>r x y H Q∨r' x y H Q):=by
 intro aa s σ H x y v u Q I rx ry q
 rcases q with q|q
 ·exact h aa s σ H x y v u Q I rx ry q
 ·exact h' aa s σ H x y v u Q I rx ry q
theorem bH(b:Expr){op:CmpOp}(h:op≠ .In:=by decide)(h2:op≠ .NotIn:=by decide):Gx op b=false:=by
 have e1:(op==CmpOp.In)=false:=by cases op<;>first|rfl|exact absurd rfl h
 have e2:(op==CmpOp.NotIn)=false:=by cases op<;>first|rfl|exact absurd rfl h2
 cases b<;>simp[Gx,e1,e2]
theorem zCR{op:CmpOp}{r:R2}(ho:WT X (De op) r)(ha:PE X a ta)(hb:PE X b tb)(hm:Gx op b=false):PE X (.Compare a [op] [b] pos) (tOp r ta tb):=by
 intro aa s σ H Q I h
 exact wpAny_Compare1 (binT ha hb I h λv u s2 x y H2 I2 rx ry q=>ho aa s2 σ H2 x y v u Q I2 rx ry q) hm
def zDK(t:TE):TT:=λσ H Q=>t σ H λx H'=> ∃k,x= .bl k/\Q k H'
theorem zCH{op:CmpOp}{r:R2}(ho:WT X (De op) r)(ha:PE X a ta)(hb:PE X b tb)(hm:Gx op b=false):PT X (.Compare a [op] [b] pos) (zDK (tOp r ta tb)):=by
 intro aa s σ H Q I h
 refine wpAny_isTrue_Compare1 (ZG (ha aa s σ H _ I h) λv s1 ⟨x,H1,I1,r1,q1⟩=>ZG (hb aa s1 σ H1 _ I1 q1) λu s2 ⟨y,H2,I2,r2,q2⟩=>
  ZG (ho aa s2 σ H2 x y v u _ I2 r1 r2 q2) λc s3 ⟨z,H3,I3,r3,k,e,q3⟩=> ?_) hm
 subst e
 cases r3
 exact Ds ⟨H3,I3,q3⟩
def HA(r r':R2)(ta tb tc:TE):TE:=λσ H Q=>ta σ H λx H1=>tb σ H1 λy H2=>r x y H2 λz H3=> ∃k,z= .bl k∧
 (if k=true then tc σ H3 λw' H4=>r' y w' H4 Q else Q (.bl false) H3)
theorem zAJ{op op':CmpOp}{r r':R2}(ho:WT X (De op) r)(ho':WT X (De op') r')(ha:PE X a ta)(hb:PE X b tb)(hc:PE X c tc)
  (hm:Oq [op,op'] [b,c]=false:=by with_unfolding_all rfl):PE X (.Compare a [op,op'] [b,c] pos) (HA r r' ta tb tc):=by
 intro aa s σ H Q I h
 refine Compare_chain (ZG (ha aa s σ H _ I h) λv s1 ⟨x,H1,I1,r1,q1⟩=>chain_link (ZG (hb aa s1 σ H1 _ I1 q1) λu s2 ⟨y,H2,I2,r2,q2⟩=>
  ZG (ho aa s2 σ H2 x y v u _ I2 r1 r2 q2) λd s3 ⟨z,H3,I3,r3,k,e,q3⟩=> ?_)) hm
 subst e
 cases r3
 refine Ds ?_
 cases k with
 |false=>exact ite_ff ⟨.bl false,H3,I3,rfl,q3⟩
 |true=>exact ite_tt (chain_last (ZG (hc aa s3 σ H3 _ I3 q3) λw' s4 ⟨z',H4,I4,r4,q4⟩=>ho' aa s4 σ H4 y z' u w' Q I4 r2 r4 q4))
theorem zA7{op op':CmpOp}{r r':R2}(ho:WT X (De op) r)(ho':WT X (De op') r')(ha:PE X a ta)(hb:PE X b tb)(hc:PE X c tc)
  (hm:Oq [op,op'] [b,c]=false:=by with_unfolding_all rfl):PT X (.Compare a [op,op'] [b,c] pos) (zDK (HA r r' ta tb tc)):=by
 intro aa s σ H Q I h
 refine isTrue_chain (ZG (ha aa s σ H _ I h) λv s1 ⟨x,H1,I1,r1,q1⟩=>test_link (ZG (hb aa s1 σ H1 _ I1 q1) λu s2 ⟨y,H2,I2,r2,q2⟩=>
  ZG (ho aa s2 σ H2 x y v u _ I2 r1 r2 q2) λd s3 ⟨z,H3,I3,r3,k,e,q3⟩=> ?_)) hm
 subst e
 cases r3
 refine Ds ?_
 cases k with
 |false=>
  obtain⟨k',e',q'⟩:=q3
  cases e'
  exact ite_ff ⟨H3,I3,q'⟩
 |true=>
  refine ite_tt (test_last (ZG (hc aa s3 σ H3 _ I3 q3) λw' s4 ⟨z',H4,I4,r4,q4⟩=>ZG (ho' aa s4 σ H4 y z' u w' _ I4 r2 r4 q4) λd' s5 ⟨z2,H5,I5,r5,k2,e2,q5⟩=> ?_))
  subst e2
  cases r5
  exact Ds ⟨H5,I5,q5⟩
theorem QP:(sizeLine:Nat)<2 ^ 63:=by rw[Db];decide
theorem GN:WT X (Fs .Add) (λx y H Q=> ∃i j,x= .str i/\y= .str j/\i.length+j.length<=sizeLine/\Q (.str (i++j)) H):=by
 intro aa s σ H x y v u Q I rx ry h
 obtain⟨i,j,rfl,rfl,hz,q⟩:=h
 obtain⟨t,rfl⟩:=rx
 obtain⟨t',rfl⟩:=ry
 exact add_str (λt' tk=>⟨.str (i++j),H,I.tok _,⟨_,rfl⟩,q⟩) hz
theorem SX{x:V}{us:List Value}(r:bT [x] us): ∃u,us=[u]/\bZ x u:=by
 cases r with
 |cons r1 r2=>cases r2;exact⟨_,rfl,r1⟩
theorem FO{x y:V}{us:List Value}(r:bT [x,y] us): ∃u w',us=[u,w']/\bZ x u/\bZ y w':=by
 cases r with
 |cons r1 r2=>
  cases r2 with
  |cons r3 r4=>cases r4;exact⟨_,_,rfl,r1,r3⟩
theorem LZ(hc:X.calm=true):Z4 X (.builtin "max") (λxs H Q=> ∃i j,xs=[.int i,.int j]/\Q (.int (if j>i then j else i)) H):=by
 intro aa s σ H xs us Q I r h
 obtain⟨i,j,rfl,q⟩:=h
 obtain⟨u,w',rfl,⟨t,rfl⟩,⟨t',rfl⟩⟩:=FO r
 refine max_two_ints (I.ok.hd hc) λh' tk k=>⟨_,H,I.kept k,?_,q⟩
 by_cases hj:j>i
 ·rw[if_pos hj,if_pos hj];exact⟨_,rfl⟩
 ·rw[if_neg hj,if_neg hj];exact⟨_,rfl⟩
theorem QF(hc:X.calm=true):Z4 X (.builtin "min") (λxs H Q=> ∃i j,xs=[.int i,.int j]/\Q (.int (if j<i then j else i)) H):=by
 intro aa s σ H xs us Q I r h
 obtain⟨i,j,rfl,q⟩:=h
 obtain⟨u,w',rfl,⟨t,rfl⟩,⟨t',rfl⟩⟩:=FO r
 refine min_two_ints (I.ok.hd hc) λh' tk k=>⟨_,H,I.kept k,?_,q⟩
 by_cases hj:j<i
 ·rw[if_pos hj,if_pos hj];exact⟨_,rfl⟩
 ·rw[if_neg hj,if_neg hj];exact⟨_,rfl⟩
end
structure ObjM(h:Heap)(x dx C:Addr)(mA:Str->Option Value):Prop where
 obj:h.get? x=some (Qp C dx)
 ns:h.Ns1 dx mA
 ne:dx≠x
theorem C6{h:Heap}{dx:Addr}{mA:Str->Option Value}(n:h.Ns1 dx mA): ∃od,h.get? dx=some od/\ ∀name,W.lookIn name od=some (mA name):=by
 obtain⟨o,es,ep,ho,hd,hk,_,hm⟩:=n
 refine⟨o,ho,λname=> ?_⟩
 have e:=hm name
 unfold nsFind findBy at e
 rw[<- Array.find?_toList] at e
 unfold W.lookIn
 rw[hd]
 dsimp only
 split
 ·rename_i y q
  rw[q] at e
  exact congrArg some e
 ·rename_i q
  rw[q] at e
  have a:es.toList.any (·.refKey)=false:=by
   rw[List.any_eq_false]
   intro y hy
   obtain⟨z,t,qt⟩:=hk y (Array.mem_toList_iff.mp hy)
   simp[DictEntry.refKey,qt]
  have a': ¬es.toList.any (·.refKey)=true:=by rw[a];exact Dd
  rw[if_neg a']
  exact congrArg some e
theorem ObjM.look{h:Heap}{x dx C:Addr}{mA:Str->Option Value}(I:ObjM h x dx C mA): ∃od,W.InstAt h x (Qp C dx) C (some od)/\ ∀name,W.lookIn name od=some (mA name):=
 let ⟨od,ho,hl⟩:=C6 I.ns
 ⟨od,⟨I.obj,rfl,rfl,ho⟩,hl⟩
theorem QD.some_of{v:V}{o:Option Value}(r:QD (some v) o): ∃u,o=some u/\bZ v u:=by
 cases o with
 |none=>exact(show False from r).elim
 |some u=>exact⟨u,rfl,r⟩
section
variable{P:Bn}{w:World}{H H':Hp}{h h':Heap}{a C dx:Addr}{fs fs':List (Str×V)}
theorem zD8(hok:RS P w H h)(e:H a=some (.ins C dx fs)): ∃mA,ObjM h a dx C mA/\(∀f,QD (fs.lookup f) (mA f))/\Qq mA (fs.map (·.1))/\fs.length<=1000/\H dx=some (.own a):=by
 obtain⟨d,z,ne,ob,mA,n,r,q⟩:=(show ZQ P w H h a (.ins C dx fs) from hok a _ e)
 exact⟨mA,⟨ob,n,ne⟩,r,q,z,d⟩
end
structure Cls(K:An)(C:Addr):Prop where
 pg:W.plainGet K C Str.empty=true
 hd:W.hasDictIn K C=true
 po:W.plainOver K C=true
 sa:W.findIn K (.ref C) "__setattr__"=some (some (.builtin "object.__setattr__"))
theorem Cls.get{K:An}{C:Addr}(c:Cls K C)(f:Str):W.plainGet K C f=true:=c.pg
section
variable{X:Cx}{aa:List (Addr×Obj)}{σ:St}{H:Hp}{s:Ag}{A:Cy}{E:Value->Ag->Prop}{Q:Value->Ag->Prop}{c:Value}{b:Bool}
inductive PD(K:An)(H:Hp):V->Value->Prop where
 |non:PD K H .non (.type "NoneType")
 |bl (x:Bool):PD K H (.bl x) (.type "bool")
 |int (i:Int):PD K H (.int i) (.type "int")
 |str (x:Str):PD K H (.str x) (.type "str")
 |flt (x:UInt64):PD K H (.flt x) (.type "float")
 |lst {a:Addr} {xs:List V} (e:H a=some (.lst xs)):PD K H (.ref a) (.type "list")
 |frz {a:Addr} {o:Obj} {xs:List V} (e:H a=some (.frz o (.lst xs))):PD K H (.ref a) (.type "list")
 |tup {a:Addr} {xs:List V} (e:H a=some (.tup xs)):PD K H (.ref a) (.type "tuple")
 |dK {a:Addr} {kvs:List (aR×V)} (e:H a=some (.dK kvs)):PD K H (.ref a) (.type "dict")
 |dT {a:Addr} {kvs:List (List aR×V)} (e:H a=some (.dT kvs)):PD K H (.ref a) (.type "dict")
 |ins {a C dx:Addr} {fs:List (Str×V)} (e:H a=some (.ins C dx fs)) (cl:Cls K C) (ha:W.findIn K (.ref C) "__class__"=some (some (.builtin "object.__class__")))
   (hn:W.specialIn K (.builtin "object.__class__") "__get__"=some (some (.builtin "getset_descriptor.__get__"))) (htk:W.takesIn K (.builtin "object.__class__")=some true)
   (hm:W.mroIn K C (.type "object")=some true):PD K H (.ref a) (.ref C)
theorem T4{x:V}{u t:Value}(I:cN X aa σ H s)(rx:bZ x u)(ty:PD X.K H x t)(e:W.kitOne X.K t c=some b)(h: ∀tk,Q (.bool b) {s with toks:=tk}):
  wpAny (model X.prog X.w) A (call (.builtin "isinstance") [u,c]) Q E s:=by
 cases ty with
 |non=>cases (show u=Value.none from rx);exact Fj W.kitx_none I.kIn True.intro e (λz=>nomatch z) h
 |bl y=>cases (show u=Qd y from rx);exact Fj W.kitx_bool I.kIn True.intro e (λz=>nomatch z) h
 |int i=>obtain⟨t,q⟩:=(show∃t,u=Oj i t from rx);cases q;exact Fj W.kitx_int I.kIn True.intro e (λz=>nomatch z) h
 |str y=>obtain⟨t,q⟩:=(show∃t,u=Ol y t from rx);cases q;exact Fj W.kitx_str I.kIn True.intro e (λz=>nomatch z) h
 |flt y=>obtain⟨t,q⟩:=(show∃t,u=Qy y t from rx);cases q;exact Fj W.kitx_float I.kIn True.intro e (λz=>nomatch z) h
 | @lst a xs ea=>
  cases (show u=Bq a from rx)
  obtain⟨_,_,n,_,h1⟩:=(show ZQ X.prog X.w H s.heap a (.lst xs) from I.hok a _ ea)
  exact Fj Mb I.kIn ⟨_,h1,rfl⟩ e (λz=>nomatch z) h
 | @frz a ob xs ea=>
  cases (show u=Bq a from rx)
  obtain⟨_,_,_,n,_,h1⟩:=(show ZQ X.prog X.w H s.heap a (.frz ob (.lst xs)) from I.hok a _ ea)
  exact Fj Mb I.kIn ⟨_,h1,rfl⟩ e (λz=>nomatch z) h
 | @tup a xs ea=>
  cases (show u=Bq a from rx)
  obtain⟨_,_,_,p⟩:=(show ZQ X.prog X.w H s.heap a (.tup xs) from I.hok a _ ea)
  obtain⟨o,h1,h2,_⟩:=p
  exact Fj W.kitx_tuple I.kIn ⟨o,h1,h2⟩ e (λz=>nomatch z) h
 | @dK a kvs ea=>
  cases (show u=Bq a from rx)
  obtain⟨_,_,vs,_,p⟩:=(show ZQ X.prog X.w H s.heap a (.dK kvs) from I.hok a _ ea)
  obtain⟨o,es,ep,h1,h2,_⟩:=p
  exact Fj W.kitx_dict I.kIn ⟨o,h1,h2.1⟩ e (λz=>nomatch z) h
 | @dT a kvs ea=>
  cases (show u=Bq a from rx)
  obtain⟨_,_,xs,_,o,es,ep,h1,h2,_⟩:=(show ZQ X.prog X.w H s.heap a (.dT kvs) from I.hok a _ ea)
  exact Fj W.kitx_dict I.kIn ⟨o,h1,h2.1⟩ e (λz=>nomatch z) h
 | @ins a C dx fs ea cl ha hn htk hm=>
  cases (show u=Bq a from rx)
  obtain⟨mA,O,_⟩:=zD8 I.hok ea
  obtain⟨od,J,_⟩:=O.look
  exact Fj (W.kitx_own (cl.get _) cl.hd ha hn htk hm) I.kIn J e (λz=>nomatch z) h
end
structure YJ(k:Nat)(A:Cy):Prop where
 hd:A.handled=none
 dp:A.depth+3*k+5<recursionLimit
 un:A.units+16*k+200<cLine
theorem YJ.mono{j k:Nat}{A:Cy}(r:YJ k A)(h:j<=k):YJ j A:=⟨r.hd,by have:=r.dp;lia,by have:=r.un;lia⟩
theorem YJ.deeper{k:Nat}{A:Cy}(r:YJ (k+1) A)(env:Env):YJ k (A.deeper env):=
 ⟨r.hd,by have:=r.dp;show A.depth+1+3*k+5<_;lia,by have:=r.un;show A.units+3+16*k+200<_;lia⟩
theorem YJ.depth{k:Nat}{A:Cy}(r:YJ k A):A.depth<recursionLimit:=by have:=r.dp;lia
theorem YJ.units{k:Nat}{A:Cy}(r:YJ k A):A.units+64<cLine:=by have:=r.un;lia
def A1:TA:=λ_ H Q=>Q [] H
def MW(ta:TE)(tr:TA):TA:=λσ H Q=>ta σ H λx H1=>tr σ H1 λxs H2=>Q (x::xs) H2
section
variable{X:Cx}{e:Expr}{es:List Expr}{te:TE}{t:TA}{pos:Pos}
theorem ZR:PA X [] A1:=λ_ _ _ _ H Q I h=>Hm ⟨[],H,I,.nil,h⟩
theorem bW(ha:PE X e te)(hr:PA X es t)(hs:Ah (e::es) X.env=(false,eval e X.env)::Ah es X.env:=by rfl):PA X (e::es) (MW te t):=by
 intro pos aa s σ H Q I h
 rw[hs]
 show wpAny _ _ (spliced ((false,eval e X.env)::Ez pos (Ah es X.env))) _ _ s
 refine Ft (ZG (ha aa s σ H _ I h) λu s1 ⟨x,H1,I1,r1,q1⟩=> ?_)
 exact ZG (hr pos aa s1 σ H1 _ I1 q1) λus s2 ⟨xs,H2,I2,r2,q2⟩=>⟨x::xs,H2,I2,.cons r1 r2,q2⟩
def tTup(t:TA):TE:=λσ H Q=>t σ H λxs H1=>xs.length<=sizeLine/\ ∀p,H1 p=none->Q (.ref p) (bA H1 p (.tup xs))
def tLst(t:TA):TE:=λσ H Q=>t σ H λxs H1=>xs.length<=sizeLine/\ ∀p,H1 p=none->Q (.ref p) (bA H1 p (.lst xs))
theorem zAC{x1}(h:PA X es t):PE X (.Tuple es x1 pos) (tTup t):=by
 intro aa s σ H Q I hq
 refine wpAny_Tuple_spliced (ZG (h pos aa s σ H _ I hq) λus s1 ⟨xs,H1,I1,r,z,q⟩=>⟨by rw[<- r.length];exact z,?_⟩)
 have hf:H1 s1.heap.objs.size=none:=I1.hok.fresh (Ap _)
 refine⟨.ref s1.heap.objs.size,bA H1 s1.heap.objs.size (.tup xs),I1.laid (t':=s1.toks) (λb u e=>Ac _ e) (Ap _) ?_,rfl,q _ hf⟩
 exact⟨z,us,r,⟨_,Au _ rfl,rfl,_,rfl⟩⟩
theorem zG4(h:PA X es t):PE X (.List es pos) (tLst t):=by
 intro aa s σ H Q I hq
 refine wpAny_List_spliced (ZG (h pos aa s σ H _ I hq) λus s1 ⟨xs,H1,I1,r,z,q⟩=>⟨by rw[<- r.length];exact z,?_⟩)
 have hf:H1 s1.heap.objs.size=none:=I1.hok.fresh (Ap _)
 refine⟨.ref s1.heap.objs.size,bA H1 s1.heap.objs.size (.lst xs),I1.laid (t':=s1.toks) (λb u e=>Ac _ e) (Ap _) ?_,rfl,q _ hf⟩
 exact⟨z,us,0,r,Au _ rfl⟩
end
abbrev Sp:=List V->Hp->VK->XK->Prop
abbrev CXT:=List Env->Hp->Ag->XK->Value->Ag->Prop
structure Env0(P:Bn)(w:World)(K:An)(mg:Str->Option Value)(base:Heap)(A:Cy)(outer:List Env)(s:Ag)(H:Hp):Prop where
 frames:A.frames=some outer
 mod:Mod K mg base
 bs: ∀b o,base.get? b=some o->s.heap.get? b=some o/\H b=none
 bsz:base.objs.size<=s.heap.objs.size
 funs:s.heap.FunFrames base outer
 frf: ∀b∈CW outer,H b=none
 hok:RS P w H s.heap
 bare:Kx s.gens
def CE(outer:List Env)(P:Bn)(w:World)(H:Hp)(s:Ag)(Q:VK)(u:Value)(s':Ag):Prop:=
 ∃v H',s'.os=s.os/\Kx s'.gens/\Un (CW outer) [] H H' s.heap s'.heap/\RS P w H' s'.heap/\bZ v u/\Q v H'
def CR(CX:CXT)(outer:List Env)(P:Bn)(w:World)(H:Hp)(s:Ag)(Q:VK)(E:XK)(r:Ot)(s':Ag):Prop:=
 match r with
 | .ok (.ret u)=>CE outer P w H s Q u s'
 | .ok _=>False
 | .error e=>CX outer H s E e s'
structure bJ(P:Bn)(w:World)(K:An)(mg:Str->Option Value)(base:Heap)(CX:CXT)(k:Nat)(f:Addr)(fd:Et)(ps:List Str)(sp:Sp):Prop where
 len: ∀vs H Q E,sp vs H Q E->vs.length=ps.length
 run: ∀(A:Cy) (outer:List Env) (s:Ag) (H:Hp) (args:Args) (us:List Value) (vs:List V) (Q:VK) (E:XK),YJ k A->Env0 P w K mg base A outer s H->Ov s fd args (ps.zip us)->bT vs us->sp vs H Q E→
  Fw (model P w) A (.call (.ref f) args) (CR CX outer P w H s Q E) s
section
variable{X:Cx}{aa:List (Addr×Obj)}{σ:St}{H:Hp}{s s':Ag}
theorem cN.env0(I:cN X aa σ H s):Env0 X.prog X.w X.K X.mg X.base X.A X.stack s H:=
 ⟨I.ok.frames,I.ok.mod,I.bs,Ei I.ok.bsz I.sz,I.stack,I.stkFree,I.hok,I.bare⟩
theorem cN.after{Q:VK}{u:Value}(I:cN X aa σ H s)(h:CE X.stack X.prog X.w H s Q u s'):EP X aa σ Q u s':=by
 obtain⟨v,H',os,bare,un,hok,r,q⟩:=h
 obtain⟨hh,g,d,t,os'⟩:=s'
 obtain rfl:os'=s.os:=os
 exact⟨v,H',I.call (h':=hh) (g':=g) (d':=d) (t':=t) (ch:=[]) un hok bare (λb z=>absurd z (by simp)),r,q⟩
end
def AZ(sp:Sp)(dvs:List V)(E:XK)(t:TA):TE:=λσ H Q=>t σ H λvs H1=>sp (vs++dvs) H1 Q E
def Q1(K:An)(fd:Et)(ps:List Str)(ds:List Value):Prop:=
 ∀(s:Ag) (us:List Value),K.In s.heap->(us++ds).length=ps.length->Ov s fd ⟨us,[]⟩ (ps.zip (us++ds))
theorem Q1.all{K:An}{fd:Et}{ps:List Str}(h: ∀us:List Value,us.length=ps.length->bindArgs fd ⟨us,[]⟩=pure (ps.zip us)):Q1 K fd ps []:=λs us _ hl=>by
 rw[Dn] at hl⊢
 exact .of_eq (h us hl)
def FV(CX:CXT)(X:Cx)(E:XK):Prop:= ∀(aa:List (Addr×Obj)) (σ:St) (H:Hp) (s:Ag) (e:Value) (s':Ag),cN X aa σ H s->CX X.stack H s E e s'->X.xe e s'
section
variable{X:Cx}{CX:CXT}{k:Nat}{f C:Addr}{fd:Et}{ps:List Str}{sp:Sp}{dvs:List V}{ds:List Value}{E:XK}{x m:Str}{p pos aq:Pos}{e o:Expr}{es:List Expr}{ta:TE}{t:TA}
theorem AF{aa:List (Addr×Obj)}{σ:St}{H:Hp}{s:Ag}{Q:VK}{us:List Value}{vs:List V}(F:bJ X.prog X.w X.K X.mg X.base CX k f fd ps sp)(hr:YJ k X.A)(hb:Q1 X.K fd ps ds)(hd:bT dvs ds)(hx:FV CX X E)
  (I:cN X aa σ H s) (r:bT vs us) (h:sp (vs++dvs) H Q E):wpAny (model X.prog X.w) X.A (call (.ref f) us) (EP X aa σ Q) X.xe s:=by
 have r2:bT (vs++dvs) (us++ds):=r.append hd
 have hl:(us++ds).length=ps.length:=by rw[<- r2.length];exact F.len _ _ _ _ h
 refine wpAny_call (Jj (F.run X.A X.stack s H ⟨us,[]⟩ (us++ds) (vs++dvs) Q E hr I.env0 (hb s us I.kIn hl) r2 h) λr s' hq=> ?_)
 cases r with
 |error e=>exact hx aa σ H s e s' I hq
 |ok fl=>
  cases fl with
  |ret u=>exact I.after hq
  |next=>exact Ga hq
  |brk=>exact Ga hq
  |cont=>exact Ga hq
theorem EV(F:bJ X.prog X.w X.K X.mg X.base CX k f fd ps sp)(hr:YJ k X.A)(hg:Gl X x)(hm:X.mg x=some (.ref f))(hk:Gy X.K (.ref f)=true)(hb:Q1 X.K fd ps ds)(hd:bT dvs ds)(hx:FV CX X E)
  (ha:PA X (e::es) t) (hdb:(x==("__debug__":Str))=false:=by decide) (he:Ah (e::es) X.env=(false,eval e X.env)::Ah es X.env:=by rfl) (hpl:(Ez pos (Ah es X.env)).any (·.1)=false:=by rfl):
  PE X (.Call (.Name x p) (e::es) [] pos) (AZ sp dvs E t):=by
 intro aa s σ H Q I h
 refine Fc (EL I hg hm ?_ hdb)
 refine W.callWith_K (h₀:=X.base) I.ok.mod.kin hk (ZG (ha pos aa s σ H _ I h) λus s1 ⟨vs,H1,I1,r,q⟩=>⟨I1.kIn,?_⟩) he hpl
 exact AF F hr hb hd hx I1 r q
end
structure cS(N P:List Str)(sc:Scope):Prop where
 kind:sc.kind= .function
 co:sc.isCoroutine=false
 gen:sc.isGenerator=false
 nd:N.Nodup
 pre:N.take P.length=P
 par: ∀x∈P,sc.names.lookup x=some .local∨sc.names.lookup x=some .cell
 nofree: ∀y∈sc.names,y.2≠ .free
theorem LY{kindOf:Str->Option NameKind}{x:Str}: ∀{binds:List (Str×Value)} {m:Str->Option Value},(∀v,(x,v)∉binds)->bindL kindOf binds m x=m x
 | [],_,_ => rfl
 | (n,v) :: r,m,h => by
  unfold bindL
  rw[LY λw hw=>h w (Ao _ hw)]
  split
  ·have : x ≠ n := by rintro rfl;exact h v Ba
   simp[this]
  ·rfl
theorem LW{kindOf:Str->Option NameKind}{x:Str}: ∀{binds:List (Str×Value)} {m:Str->Option Value},(∀v,(x,v)∉binds)->bindC kindOf binds m x=m x
 | [],_,_ => rfl
 | (n,v) :: r,m,h => by
  unfold bindC
  rw[LW λw hw=>h w (Ao _ hw)]
  split
  ·rfl
  ·have : x ≠ n := by rintro rfl;exact h v Ba
   simp[this]
theorem LX{kindOf:Str->Option NameKind}{x:Str}{v:Value}: ∀{P:List Str} {vs:List Value} {i:Nat} {m:Str->Option Value},P.Nodup->P[i]? =some x->vs[i]? =some v->kindOf x=some .local→
  bindL kindOf (P.zip vs) m x=some v
 |[],_,_,_,_,h,_,_=>by simp at h
 |_::_,[],_,_,_,_,h,_=>by simp at h
 |p::P,w::vs,0,m,nd,h1,h2,hk=>by
  simp at h1 h2;subst h1;subst h2
  show bindL kindOf ((p,w)::P.zip vs) m p=_
  unfold bindL
  rw[LY λv hv=>(Ct.mp nd).1 (Lc hv).1,if_pos hk]
  simp
 |p::P,w::vs,i+1,m,nd,h1,h2,hk=>by
  show bindL kindOf ((p,w)::P.zip vs) m x=_
  unfold bindL
  exact LX (i:=i) (Ct.mp nd).2 (by simpa using h1) (by simpa using h2) hk
theorem LV{kindOf:Str->Option NameKind}{x:Str}{v:Value}: ∀{P:List Str} {vs:List Value} {i:Nat} {m:Str->Option Value},P.Nodup->P[i]? =some x->vs[i]? =some v->kindOf x≠some .local→
  bindC kindOf (P.zip vs) m x=some v
 |[],_,_,_,_,h,_,_=>by simp at h
 |_::_,[],_,_,_,_,h,_=>by simp at h
 |p::P,w::vs,0,m,nd,h1,h2,hk=>by
  simp at h1 h2;subst h1;subst h2
  show bindC kindOf ((p,w)::P.zip vs) m p=_
  unfold bindC
  rw[LW λv hv=>(Ct.mp nd).1 (Lc hv).1,if_neg hk]
  simp
 |p::P,w::vs,i+1,m,nd,h1,h2,hk=>by
  show bindC kindOf ((p,w)::P.zip vs) m x=_
  unfold bindC
  exact LV (i:=i) (Ct.mp nd).2 (by simpa using h1) (by simpa using h2) hk
def start(N:List Str)(vs:List V):St:=vs.map some++Be (N.length - vs.length) none
noncomputable def KO(CX:CXT)(P:Bn)(w:World)(K:An)(mg:Str->Option Value)(base:Heap)(N:List Str)(qual:Str)(scope:Scope)(f:Addr)(cd:Value)(A:Cy)(outer:List Env)(s:Ag)(H:Hp)(E:XK):Cx where
 prog:=P
 w:=w
 K:=K
 mg:=mg
 base:=base
 A:=A.deeper (Jv qual scope s.heap.objs.size f cd)
 N:=N
 s₀:=s
 H₀:=H
 env:=Jv qual scope s.heap.objs.size f cd
 outer:=outer
 stack:=Jv qual scope s.heap.objs.size f cd::outer
 ex:=[]
 calm:=true
 fn:=λ_=>true
 pn:=[]
 xe:=λe s'=>wpAny (model P w) (A.deeper (Jv qual scope s.heap.objs.size f cd)) (leaving (Jv qual scope s.heap.objs.size f cd) e) (λ_ s''=>CX outer H s E e s'') (λe' s''=>CX outer H s E e' s'') s'
theorem HS{sc:Scope}{n:Nat}{x:Str}(h:sc.names.lookup x=some .cell): ∃c,(cellsFrom n sc.names []).lookup x=some c:=by
 have q:=Nt sc.names n [] (.inl h)
 exact Option.isSome_iff_exists.mp q
theorem C1{CX:CXT}{P:Bn}{w:World}{K:An}{mg:Str->Option Value}{base:Heap}{N ps:List Str}{qual:Str}{scope:Scope}{f:Addr}{cd:Value}{A:Cy}{outer:List Env}{s s1:Ag}{H:Hp}{E:XK}{us:List Value}{vs:List V}
  (S:cS N ps scope) (hd:A.handled=none) (e0:Env0 P w K mg base A outer s H) (hl:vs.length=ps.length) (r:bT vs us)
  (x : InCallC s s.heap.objs.size (bindL (Jv qual scope s.heap.objs.size f cd).kindOf (ps.zip us) λ_ => none) (cellsFrom (s.heap.objs.size + 1) scope.names []) (bindC (Jv qual scope s.heap.objs.size f cd).kindOf (ps.zip us) λ_ => none) s1) :
  cN (KO CX P w K mg base N qual scope f cd A outer s H E) [] (start N vs) H s1:=by
 have hpl:ps.length<=N.length:=by have:=congrArg List.length S.pre;rw[Ci] at this;lia
 obtain⟨h1,tk,rfl,hk⟩:=x.done
 have noA: ∀b:Addr,b∉(KO CX P w K mg base N qual scope f cd A outer s H E).ex:=λb z=>absurd (show b∈([]:List Addr) from z) (by simp)
 refine⟨⟨e0.mod,S.kind,rfl,rfl,Ap _,λy z c h1 h2=> ?_,λy hy=> ?_,λy c _ h=> ?_,λ_=>hd,Around.frames_deeper e0.frames,.inr ⟨rfl,rfl⟩,λb z=>absurd z (noA b),e0.bs,e0.bsz,λb _ _=>noA b,λb z=>absurd z (noA b),e0.funs,e0.frf⟩,
  rfl,e0.bare,Un.kept hk,⟨_,x.toInCall.ns,λi y v h1 h2 h3=> ?_⟩,λy c h=>⟨_,x.cell y c h⟩,e0.hok.fresh (Ap _),λy c h=> ?_,λp hp=>absurd (show p∈([]:List (Addr×Obj)) from hp) (by simp),e0.hok.kept hk,?_⟩
 ·exact name_of_addr x.apart (Bu h1) (Bu h2)
 ·have hy:scope.names.lookup y=some .cell∨scope.names.lookup y=some .free:=hy
  rcases hy with hy|hy
  ·exact HS hy
  ·exact absurd rfl (S.nofree _ (Bu hy))
 ·exact Nk (x.above y c (Bu h))
 ·have hi:i<vs.length:=by
   unfold start at h2
   by_cases hi:i<vs.length
   ·exact hi
   ·rw [Bb (by simpa using hi)] at h2
    rw[Cs] at h2
    split at h2<;>cases h2
  have ha:vs[i]? =some v:=by
   unfold start at h2
   rw[Ae (by simpa using hi),Cr] at h2
   cases e:vs[i]? with
   |none=>rw[e] at h2;cases h2
   |some a=>rw[e] at h2;cases h2;rfl
  obtain⟨u,hu,rv⟩:=r.get ha
  have hp:ps[i]? =some y:=by rw[<- S.pre,Cf (by lia)];exact h1
  have ndP:ps.Nodup:=by rw[<- S.pre];exact S.nd.sublist (List.take_sublist _ _)
  refine⟨u,rv,?_⟩
  rcases S.par y (Eb hp) with k|k
  ·exact .inl ⟨k,LX ndP hp hu k⟩
  ·obtain⟨c,e⟩:=HS (n:=s.heap.objs.size+1) k
   refine .inr ⟨.inl k,c,e,?_⟩
   have q:=x.cell y c e
   rw[LV ndP hp hu (by show scope.names.lookup y≠_;rw[k];decide)] at q
   exact q
 ·exact e0.hok.fresh (Nk (x.above y c (Bu h)))
 ·unfold start
  show _=N.length
  rw[Bv,Ck,Ht]
  lia
theorem zE9{CX:CXT}{P:Bn}{w:World}{K:An}{mg:Str->Option Value}{base:Heap}{k:Nat}{f:Addr}{name qual:Str}{params:Arguments}{body:List Stmt}{scope:Scope}{dV kV doc pm cdv ct oc:Value}{an od:Option Addr}
  {osl:Array (Option Value)} {N ps:List Str} {sp:Sp} (lk:K.lookup f=some ⟨oc,od,.func (Io name qual params body scope dV kV doc pm an cdv ct),osl⟩) (hcd:Jk K cdv qual=true) (S:cS N ps scope)
  (len: ∀vs H Q E,sp vs H Q E->vs.length=ps.length)
  (ca: ∀(A:Cy) (outer:List Env) (s:Ag) (H:Hp) (vs:List V) (Q:VK) (E:XK),YJ k (A.deeper (Jv qual scope s.heap.objs.size f cdv))->sp vs H Q E→
   ∃t,PR (KO CX P w K mg base N qual scope f cdv A outer s H E) body t/\t {nx:=λ_ H'=>Q .non H',rt:=Q} (start N vs) H):
  bJ P w K mg base CX (k+1) f (Io name qual params body scope dV kV doc pm an cdv ct) ps sp:=by
 refine⟨len,λA outer s H args us vs Q E hr e0 hb r hsp=> ?_⟩
 have hl:=len _ _ _ _ hsp
 have KX:K.In s.heap:=e0.mod.kin.keeps λb o e=>(e0.bs b o e).1
 have lim:s.heap.NoLimit:=e0.mod.nolimit.keeps λb o e=>(e0.bs b o e).1
 have og: ∀y∈ps.zip us,scope.names.lookup y.1=some .local∨(scope.names.lookup y.1=some .cell/\((cellsFrom (s.heap.objs.size+1) scope.names []).lookup y.1).isSome=true):=λ⟨n,v⟩ hy=>by
  rcases S.par n (Lc hy).1 with q|q
  ·exact .inl q
  ·exact .inr ⟨q,Nt _ _ _ (.inl q)⟩
 refine codeAny_call_function hr.depth (KX _ _ lk) rfl S.co S.gen rfl (W.codeRec_of KX hcd) (hb _ _ _ _ ?_)
 refine wpAny_newFunctionEnv_cells S.kind og λenv he s1 x=> ?_
 subst he
 refine⟨lim.keeps x.toInCall.keep,codeAny_func ?_⟩
 obtain⟨t,ht,hq⟩:=ca A outer s H vs Q E (hr.deeper _) hsp
 have I:cN (KO CX P w K mg base N qual scope f cdv A outer s H E) [] (start N vs) H s1:=C1 S hr.hd e0 hl r x
 refine Av (ht [] s1 (start N vs) H _ I hq) (λfl s' hs=> ?_) λe s' hs=>hs
 have fin: ∀{σ':St} {H':Hp} {v:V} {u:Value},cN (KO CX P w K mg base N qual scope f cdv A outer s H E) [] σ' H' s'->bZ v u->Q v H'->CE outer P w H s Q u s':=
  λ{σ' H' v u} J rv q=>⟨v,H',J.os,J.bare,J.base,J.hok,rv,q⟩
 cases fl with
 |ret u=>
  obtain⟨v,σ',H',J,rv,q⟩:=hs
  exact fin J rv q
 |next=>
  obtain⟨σ',H',J,q⟩:=hs
  exact fin (v:=V.non) (u:=Value.none) J rfl q
 |brk=>
  obtain⟨_,_,_,q⟩:=hs
  exact Ga q
 |cont=>
  obtain⟨_,_,_,q⟩:=hs
  exact Ga q
section
variable{X:Cx}{x:Str}{p pos:Pos}{e:Expr}{es:List Expr}{t:TA}{id T:String}{r:List V->Hp->VK->Prop}
def tCB(r:List V->Hp->VK->Prop)(t:TA):TE:=λσ H Q=>t σ H λvs H1=>r vs H1 Q
theorem OF(hc:Z4 X (.builtin id) r)(hg:Gl X x)(hm:X.mg x=none)(hv:Bg x=some (.builtin id))(ha:PA X (e::es) t)(hn:x≠ "__name__":=by decide) (hdb:(x==("__debug__":Str))=false:=by decide)
  (he:Ah (e::es) X.env=(false,eval e X.env)::Ah es X.env:=by rfl) (hpl:(Ez pos (Ah es X.env)).any (·.1)=false:=by rfl):PE X (.Call (.Name x p) (e::es) [] pos) (tCB r t):=by
 intro aa s σ H Q I h
 refine Fc (SF I hg hm hv ?_ hn hdb)
 exact PyProof.Rows.callWith_builtin1 (ZG (ha pos aa s σ H _ I h) λus s1 ⟨vs,H1,I1,r1,q1⟩=>hc aa s1 σ H1 vs us Q I1 r1 q1) he hpl
theorem W7(hc:Z4 X (.type T) r)(hg:Gl X x)(hm:X.mg x=none)(hv:Bg x=some (.type T))(ha:PA X (e::es) t)(hn:x≠ "__name__":=by decide) (hdb:(x==("__debug__":Str))=false:=by decide)
  (he:Ah (e::es) X.env=(false,eval e X.env)::Ah es X.env:=by rfl) (hpl:(Ez pos (Ah es X.env)).any (·.1)=false:=by rfl):PE X (.Call (.Name x p) (e::es) [] pos) (tCB r t):=by
 intro aa s σ H Q I h
 refine Fc (SF I hg hm hv ?_ hn hdb)
 exact Dy (ZG (ha pos aa s σ H _ I h) λus s1 ⟨vs,H1,I1,r1,q1⟩=>hc aa s1 σ H1 vs us Q I1 r1 q1) he hpl
end
end L2
namespace HT
open PySem PyProof.Rows
section
variable{prog:Bn}{w:World}{A:Cy}{E:Value->Ag->Prop}{s:Ag}
theorem zDC{t b:Addr}{vs ws:List Value}{Q:Value->Ag->Prop}(ht:IsTup s.heap t vs.toArray)(hb:IsTup s.heap b ws.toArray)(hv:vs≠[])
  (h1:ws=[]->Q (.ref t) s) (h2:ws≠[]->Q (.ref s.heap.objs.size) {s with heap:=s.heap.push {cls:= .type "tuple",data:= .seq (vs++ws).toArray}})
  (hsz:vs.length+ws.length<=sizeLine):wpAny (model prog w) A (Fs .Add (.ref t) (.ref b)) Q E s:=by
 obtain⟨⟨cls,dd,data,sl⟩,ho,hc,n,hd⟩:=id ht
 obtain⟨⟨ou,dd2,data2,sl2⟩,ho2,hc2,n2,hd2⟩:=id hb
 simp only at hc hd hc2 hd2
 subst hc hd hc2 hd2
 have e:vs.toArray++ws.toArray=(vs++ws).toArray:=by simp
 by_cases hw:ws=[]
 ·exact Ld ⟨_,ho,rfl⟩ ⟨_,ho2,rfl⟩ Kn Ml Hi Gz (Gq _ _)
   (tuple_addW1 t b vs.toArray ws.toArray n n2 dd dd2 sl sl2 (by simpa using hv) (by simp[hw])) ⟨ho,ho2,h1 hw⟩
 ·refine Ld ⟨_,ho,rfl⟩ ⟨_,ho2,rfl⟩ Kn Ml Hi Gz (Gq _ _)
   (tuple_addW2 t b vs.toArray ws.toArray n n2 dd dd2 sl sl2 (by simpa using hv) (by simpa using hw) (by rw[Aq,Aq];exact hsz)) ⟨ho,ho2,?_⟩
  rw[e]
  exact h2 hw
noncomputable def sIx(n d:Nat):Option Int->Nat
 |none=>d
 |some v=>if v<0 then(v+(n:Int)).toNat else min v.toNat n
theorem JL(n d:Nat):sIx n d none=d:=rfl
theorem FH(n d k:Nat):sIx n d (some (k:Int))=min k n:=by
 show(if(k:Int)<0 then((k:Int)+(n:Int)).toNat else min (k:Int).toNat n)=min k n
 rw[if_neg (by lia),Ge]
theorem zFG(n d:Nat)(hd:d<=n)(o:Option Int):sIx n d o<=n:=by
 cases o with
 |none=>exact hd
 |some v=>
  show(if v<0 then(v+(n:Int)).toNat else min v.toNat n)<=n
  by_cases hv:v<0
  ·rw[if_pos hv];lia
  ·rw[if_neg hv];exact Nat.min_le_right _ _
theorem EA(v:Int)(n d:Nat):(if v<0 then max (v+(n:Int)) 0 else min v (n:Int))=((sIx n d (some v):Nat):Int):=by
 show(if v<0 then max (v+(n:Int)) 0 else min v (n:Int))=(((if v<0 then(v+(n:Int)).toNat else min v.toNat n):Nat):Int)
 by_cases hv:v<0
 ·simp only[if_pos hv];lia
 ·simp only[if_neg hv];lia
theorem FY(lo hi:Option Int)(n:Nat):Gi lo hi 1 (n:Int)=(((sIx n 0 lo:Nat):Int),((sIx n n hi:Nat):Int)):=by
 have h1: ¬((1:Int)<0):=by lia
 unfold Gi
 simp only[h1,if_false]
 refine Prod.ext ?_ ?_
 ·cases lo with
  |none=>rfl
  |some v=>exact EA v n 0
 ·cases hi with
  |none=>rfl
  |some v=>exact EA v n n
theorem GV(i j:Nat):Ff (i:Int) (j:Int) 1=j - i:=by
 unfold Ff
 have h1:(1:Int)>0:=by lia
 simp only[h1,if_true,Int.ediv_one]
 split<;>lia
theorem OR{v:Value}{o:Option Int}{Q:Option Int->Ag->Prop}(p:IsPart v o)(h:Q o s):wpAny (model prog w) A (Oe v) Q E s:=by
 cases p with
 |none=>exact slicePart_none h
 |int i t=>exact slicePart_int h
theorem WA{sl:Addr}{vl vu:Value}{lo hi:Option Int}{n:Nat}{Q:Int×Int×Nat->Ag->Prop}(hs:s.heap.IsSliceOf sl vl vu .none)(pl:IsPart vl lo)(pu:IsPart vu hi)
  (h:Q (((sIx n 0 lo:Nat):Int),1,sIx n n hi - sIx n 0 lo) s):wpAny (model prog w) A (Jg (.ref sl) (pure (n:Int))) Q E s:=by
 obtain⟨os,hos,hcs,hds⟩:=id hs
 unfold Jg Pp
 refine Aa (Aa (Dz hos hds (x:=vl) rfl (Aa (Dz hos hds (x:=vu) rfl (Aa (Dz hos hds (x:= .none) rfl (Ai ?_)))))))
 refine Aa (slicePart_none ?_)
 show wpAny _ _ (if((1:Int)==0)=true then _ else _) _ _ s
 rw[if_neg (by decide)]
 refine Aa (OR pl (Aa (OR pu (Aa (Ai ?_)))))
 show wpAny _ _ (match Gi lo hi 1 (n:Int) with|(lo,hi)=>pure (lo,(1:Int),Ff lo hi 1)) _ _ s
 rw[FY lo hi n]
 show wpAny _ _ (pure (((sIx n 0 lo:Nat):Int),(1:Int),Ff ((sIx n 0 lo:Nat):Int) ((sIx n n hi:Nat):Int) 1)) _ _ s
 rw[GV]
 exact Ai h
theorem zAB(xs:Array Value)(i k:Nat):((Ar k).filterMap λ(m:Nat)=>xs[((i:Int)+(m:Int)*1).toNat]?).toArray=((xs.toList.drop i).take k).toArray:=by
 have e:(λ(m:Nat)=>xs[((i:Int)+(m:Int)*1).toNat]?)=λm=>xs[i+m]? :=by
  funext m
  have:((i:Int)+(m:Int)*1).toNat=i+m:=by lia
  rw[this]
 rw[e]
 have:=pick_run xs i k
 rw[List.filterMap_map] at this
 have e2:((λx=>xs[x]?)∘λx=>i+x)=λm=>xs[i+m]? :=rfl
 rw[e2] at this
 rw[this]
theorem RB{t sl:Addr}{items:Array Value}{vl vu:Value}{lo hi:Option Int}{Q:Value->Ag->Prop}(ht:IsTup s.heap t items)(hs:s.heap.IsSliceOf sl vl vu .none)(pl:IsPart vl lo)(pu:IsPart vu hi)
  (hw: ¬(sIx items.size 0 lo=0/\sIx items.size items.size hi=items.size))
  (h:Q (.ref s.heap.objs.size) {s with heap:=s.heap.push {cls:= .type "tuple",data:= .seq ((items.toList.drop (sIx items.size 0 lo)).take (sIx items.size items.size hi - sIx items.size 0 lo)).toArray}})
  (hsz:items.size<=sizeLine):wpAny (model prog w) A (Kg (.ref t) (.ref sl)) Q E s:=by
 have ay:sizeOk (.seq ((items.toList.drop (sIx items.size 0 lo)).take (sIx items.size items.size hi - sIx items.size 0 lo)).toArray):=by
  show((items.toList.drop (sIx items.size 0 lo)).take (sIx items.size items.size hi - sIx items.size 0 lo)).toArray.size<=sizeLine
  rw[Aq,Ci,Nu,Il]
  lia
 have hj:sIx items.size items.size hi<=items.size:=zFG _ _ (Ap _) hi
 obtain⟨os,hos,hcs,hds⟩:=id hs
 have hTs:s.TypeIs (.ref sl) "slice":=⟨os,hos,hcs⟩
 unfold Kg
 try with_reducible refine Ce ?_
 first|refine Aa (Ai ?_)|skip
 refine Aa (Jw ht.typeIs (by decide) ?_)
 refine Aa (Di (name:=Bh "__getitem__") ht.typeIs Ed
  (Ec Ed ht.typeIs entry_tuple_getitem ?_ (args_tuple_getitem _ _)))
 show wpAny _ _ (Jh (.ref t)>>=_) _ _ s
 refine Aa (tupleItemsOf_ ht ?_)
 refine Aa (Jl hTs ?_)
 rw[if_pos (by decide)]
 refine Aa (WA hs pl pu ?_)
 have hno: ¬((((sIx items.size 0 lo:Nat):Int)==0 && (1:Int)==1 && (sIx items.size items.size hi - sIx items.size 0 lo)==items.size)=true):=by
  intro q
  rw[Af,Af] at q
  have q1:((sIx items.size 0 lo:Nat):Int)=0:=eq_of_beq q.1.1
  have q2:sIx items.size items.size hi - sIx items.size 0 lo=items.size:=eq_of_beq q.2
  exact hw ⟨by lia,by lia⟩
 show wpAny _ _ (if(((sIx items.size 0 lo:Nat):Int)==0 && (1:Int)==1 && (sIx items.size items.size hi - sIx items.size 0 lo)==items.size)=true then _ else _) _ _ s
 rw[if_neg hno,zAB]
 first
  |exact Aa (m:=Fk _) (Cu (Ai ⟨_,rfl,Ai h⟩) ay)
  |exact Aa (m:=Fk _) (Cu (Aa (Ai (Ai ⟨_,rfl,Ai h⟩))) ay)
  |exact Aa (Aa (m:=Fk _) (Cu (Ai (Ai ⟨_,rfl,Ai h⟩)) ay))
  |exact Aa (Aa (m:=Fk _) (Cu (Ai ⟨_,rfl,Ai h⟩) ay))
end
end HT
namespace L2
open PySem PySem.Spec PyProof.Rows
abbrev TO:=St->Hp->(Option Int->Hp->Prop)->Prop
def PO(X:Cx)(e:Option Expr)(t:TO):Prop:=
 ∀(aa:List (Addr×Obj)) (s:Ag) (σ:St) (H:Hp) (Q:Option Int->Hp->Prop),cN X aa σ H s->t σ H Q→
  wpAny (model X.prog X.w) X.A (evalPart e X.env) (λu s'=> ∃o H',cN X aa σ H' s'/\IsPart u o/\Q o H') X.xe s
def zC4:TO:=λ_ H Q=>Q none H
def zIO(t:TE):TO:=λσ H Q=>t σ H λx H1=> ∃i,x= .int i/\Q (some i) H1
section
variable{X:Cx}{e:Expr}{te:TE}{lo hi:Option Expr}{tl th:TO}{pos p2:Pos}
theorem zCL:PO X none zC4:=by
 intro aa s σ H Q I h
 rw[evalPart_none]
 exact Ai ⟨none,H,I,.none,h⟩
theorem zCK(h:PE X e te):PO X (some e) (zIO te):=by
 intro aa s σ H Q I hw
 rw[evalPart_some]
 refine ZG (h aa s σ H _ I hw) λu s1 ⟨x,H1,I1,r1,q1⟩=> ?_
 obtain⟨i,rfl,q⟩:=q1
 obtain⟨t,rfl⟩:=r1
 exact⟨some i,H1,I1,.int i t,q⟩
def SlR(X:Cx)(r:V->Option Int->Option Int->Hp->VK->Prop):Prop:=
 ∀(aa:List (Addr×Obj)) (s:Ag) (σ:St) (H:Hp) (x:V) (v vl vu:Value) (lo hi:Option Int) (sl:Addr) (Q:VK),cN X aa σ H s->bZ x v->s.heap.IsSliceOf sl vl vu .none->IsPart vl lo->IsPart vu hi->r x lo hi H Q→
  ∃T id,typeLookup (.type T) "__getitem__"=pure (some (.builtin id))/\s.TypeIs v T/\wpAny (model X.prog X.w) X.A (Kg v (.ref sl)) (EP X aa σ Q) X.xe s
theorem SlR.or{r r':V->Option Int->Option Int->Hp->VK->Prop}(h:SlR X r)(h':SlR X r'):SlR X (λx lo hi H Q=>r x lo hi H Q∨r' x lo hi H Q):=by
 intro aa s σ H x v vl vu lo hi sl Q I rx hs pl pu q
 rcases q with q|q
 ·exact h aa s σ H x v vl vu lo hi sl Q I rx hs pl pu q
 ·exact h' aa s σ H x v vl vu lo hi sl Q I rx hs pl pu q
def tSl(r:V->Option Int->Option Int->Hp->VK->Prop)(te:TE)(tl th:TO):TE:=λσ H Q=>te σ H λx H1=>tl σ H1 λl H2=>th σ H2 λu H3=>r x l u H3 Q
theorem zAD{r:V->Option Int->Option Int->Hp->VK->Prop}(hr:SlR X r)(he:PE X e te)(hl:PO X lo tl)(hu:PO X hi th):PE X (.Subscript e (.Slice lo hi none p2) pos) (tSl r te tl th):=by
 intro aa s σ H Q I h
 refine Subscript_ (ZG (he aa s σ H _ I h) λv s1 ⟨x,H1,I1,r1,q1⟩=> ?_)
 refine wpAny_Slice (ZG (hl aa s1 σ H1 _ I1 q1) λvl s2 ⟨l,H2,I2,pl,q2⟩=>ZG (hu aa s2 σ H2 _ I2 q2) λvu s3 ⟨u,H3,I3,pu,q3⟩=> ?_)
 rw[evalPart_none]
 refine Ai ?_
 have I4:cN X aa σ H3 {s3 with heap:=s3.heap.push {cls:= .type "slice",data:= .fields #[vl,vu,.none]}}:=I3.kept (t':=s3.toks) λb ob q=>Ac _ q
 obtain⟨T,id,hT,ht,hg⟩:=hr aa {s3 with heap:=s3.heap.push {cls:= .type "slice",data:= .fields #[vl,vu,.none]}} σ H3 x v vl vu l u s3.heap.objs.size Q I4 r1 (Rg ..) pl pu q3
 show wpAny (model X.prog X.w) X.A (subscriptTail e (.Slice lo hi none p2) v (.ref s3.heap.objs.size)) (EP X aa σ Q) X.xe {s3 with heap:=s3.heap.push {cls:= .type "slice",data:= .fields #[vl,vu,.none]}}
 exact Qi (ops:=[.ref s3.heap.objs.size,v]) ht hT hg (by with_unfolding_all rfl)
def HW(xs:List V)(lo hi:Option Int):List V:=(xs.drop (HT.sIx xs.length 0 lo)).take (HT.sIx xs.length xs.length hi - HT.sIx xs.length 0 lo)
theorem PU(xs:List V)(lo hi:Option Int):(HW xs lo hi).length<=xs.length:=by
 unfold HW
 rw[Ci,Nu]
 lia
def rSlT(K:An):V->Option Int->Option Int->Hp->VK->Prop:=λx lo hi H Q=> ∃a xs,x= .ref a/\WC K H a xs∧
 ¬(HT.sIx xs.length 0 lo=0/\HT.sIx xs.length xs.length hi=xs.length)/\ ∀p,H p=none->Q (.ref p) (bA H p (.tup (HW xs lo hi)))
theorem zEW:SlR X (rSlT X.K):=by
 intro aa s σ H x v vl vu lo hi sl Q I rx hs pl pu h
 obtain⟨a,xs,rfl,hx,hw,q⟩:=h
 cases rx
 obtain⟨its,r,ht,hz⟩:=I.tuple hx
 have ai:its.toArray.size=xs.length:=by rw[Aq];exact r.length.symm
 refine⟨"tuple",_,PyProof.Rows.slot_tuple_getitem.lookup,ht.typeIs,?_⟩
 refine HT.RB ht hs pl pu (by rw[ai];exact hw) ?_ (by rw[ai];exact hz)
 rw[ai]
 refine⟨.ref s.heap.objs.size,_,I.laid (t':=s.toks) (o:= .tup (HW xs lo hi)) (λb ob q=>Ac _ q) (Ap _) ?_,rfl,q _ (I.hok.fresh (Ap _))⟩
 exact⟨Ei (PU xs lo hi) hz,_,(r.drop (HT.sIx xs.length 0 lo)).take (HT.sIx xs.length xs.length hi - HT.sIx xs.length 0 lo),Ju _ _⟩
theorem bT.nil_iff{xs:List V}{us:List Value}(r:bT xs us):us=[]↔xs=[]:=by
 cases r with
 |nil=>simp
 |cons _ _=>simp
end
noncomputable def ME(n:Nat)(i:Int):Option Nat:=if 0<=i then(if i<n then some i.toNat else none) else if -(n:Int)<=i then some (i+n).toNat else none
def WQ{α:Type}(xs:List α)(i:Int):Option α:=(ME xs.length i).bind λj=>xs[j]?
theorem EI{n:Nat}{i:Int}{j:Nat}(h:ME n i=some j):seqIndex? i n=some j/\j<n/\ -(n:Int)<=i/\i<n:=by
 unfold ME at h
 by_cases h0:0<=i
 ·rw[if_pos h0] at h
  by_cases h1:i<n
  ·rw[if_pos h1] at h
   have e:i.toNat=j:=Cd h
   exact⟨by rw[Ow h0 h1,e],by lia,by lia,h1⟩
  ·rw[if_neg h1] at h;cases h
 ·rw[if_neg h0] at h
  by_cases h1: -(n:Int)<=i
  ·rw[if_pos h1] at h
   have e:(i+n).toNat=j:=Cd h
   exact⟨by rw[Nl (by lia) h1,e],by lia,h1,by lia⟩
  ·rw[if_neg h1] at h;cases h
theorem KB{α:Type}{xs:List α}{i:Int}{v:α}(h:WQ xs i=some v): ∃j,seqIndex? i xs.length=some j/\xs[j]? =some v/\j<xs.length/\ -(xs.length:Int)<=i/\i<xs.length:=by
 unfold WQ at h
 cases e:ME xs.length i with
 |none=>rw[e] at h;cases h
 |some j=>
  rw[e] at h
  obtain⟨h1,h2,h3,h4⟩:=EI e
  exact⟨j,h1,h,h2,h3,h4⟩
theorem Q4{α:Type}(xs:List α)(v:α):WQ (xs++[v]) (-1)=some v:=by
 have hl:(xs++[v]).length=xs.length+1:=by simp
 have e:ME (xs++[v]).length (-1)=some xs.length:=by
  unfold ME
  rw[hl,if_neg (by decide),if_pos (by lia)]
  congr 1
  lia
 unfold WQ
 rw[e]
 show(xs++[v])[xs.length]? =some v
 simp
def J7(b:Expr):Prop:= ∀o i,subscripted b false o i=operate [o,i] (Kg o i)
def B5(X:Cx)(r:R2):Prop:=
 ∀(value slice:Expr) (aa:List (Addr×Obj)) (s:Ag) (σ:St) (H:Hp) (x y:V) (v u:Value) (Q:VK),cN X aa σ H s->bZ x v->bZ y u->r x y H Q→
  subscripted slice false v u=operate [v,u] (Kg v u)->wpAny (model X.prog X.w) X.A (subscriptTail value slice v u) (EP X aa σ Q) X.xe s
def MtR(X:Cx)(id:String)(r:V->List V->Hp->VK->Prop):Prop:=
 ∀(aa:List (Addr×Obj)) (s:Ag) (σ:St) (H:Hp) (x:V) (xs:List V) (v:Value) (us:List Value) (Q:VK),cN X aa σ H s->bZ x v->bT xs us->r x xs H Q→
  wpAny (model X.prog X.w) X.A (call (.builtin id) (v::us)) (EP X aa σ Q) X.xe s
section
variable{X:Cx}{a b:Expr}{ta tb:TE}{pos:Pos}
theorem B5.or{r r':R2}(h:B5 X r)(h':B5 X r'):B5 X (λx y H Q=>r x y H Q∨r' x y H Q):=by
 intro value slice aa s σ H x y v u Q I rx ry q hs
 rcases q with q|q
 ·exact h value slice aa s σ H x y v u Q I rx ry q hs
 ·exact h' value slice aa s σ H x y v u Q I rx ry q hs
theorem zJM{r:R2}(hr:B5 X r)(ha:PE X a ta)(hb:PE X b tb)(hs:J7 b):PE X (.Subscript a b pos) (tOp r ta tb):=by
 intro aa s σ H Q I h
 exact Subscript_ (binT ha hb I h λv u s2 x y H2 I2 rx ry q=>hr a b aa s2 σ H2 x y v u Q I2 rx ry q (hs _ _))
def rIxL(K:An):R2:=λx y H Q=> ∃p xs i v,x= .ref p/\y= .int i/\W8 K H p xs/\WQ xs i=some v/\Q v H
def rIxT(K:An):R2:=λx y H Q=> ∃p xs i v,x= .ref p/\y= .int i/\WC K H p xs/\WQ xs i=some v/\Q v H
def rIxS:R2:=λx y H Q=> ∃z i c,x= .str z/\y= .int i/\z.length<=sizeLine/\WQ z.cps.toList i=some c/\Q (.str ⟨#[c]⟩) H
theorem zD5:B5 X (rIxL X.K):=by
 intro value slice aa s σ H x y v u Q I rx ry h hs
 obtain⟨p,xs,i,z,rfl,rfl,hq,he,q⟩:=h
 cases rx
 obtain⟨t,rfl⟩:=ry
 obtain⟨its,r,pl,hz⟩:=I.list hq
 obtain⟨j,h1,h2,h3,h4,h5⟩:=KB he
 obtain⟨w,ew,rw'⟩:=r.get h2
 have hl:=r.length
 have hn:=QP
 have fin:EP X aa σ Q w s:=⟨z,H,I,rw',q⟩
 by_cases h0:0<=i
 ·have hj:i.toNat=j:=by
   rw[Ow h0 h5] at h1
   exact Cd h1
  exact item_listR pl.isList h0 (by lia) (by rw[hj];simpa using ew) fin hs
 ·have hj:(i+(its.toArray.size:Int)).toNat=j:=by
   rw[Nl (by lia) h4] at h1
   rw[Aq,<- hl]
   exact Cd h1
  exact Kr (x:=w) pl.isList.typeIs slot_list_getitem.lookup
   (wpAny_getItem_list_neg (Q:=λr s'=>r=w/\EP X aa σ Q r s') pl.isList (by lia) (by rw[Aq]<;>lia) (by lia) (by rw[hj];simpa using ew) ⟨rfl,fin⟩) hs
theorem zHZ:B5 X (rIxT X.K):=by
 intro value slice aa s σ H x y v u Q I rx ry h hs
 obtain⟨p,xs,i,z,rfl,rfl,hq,he,q⟩:=h
 cases rx
 obtain⟨t,rfl⟩:=ry
 obtain⟨its,r,pl,hz⟩:=I.tuple hq
 obtain⟨j,h1,h2,h3,h4,h5⟩:=KB he
 obtain⟨w,ew,rw'⟩:=r.get h2
 have hl:=r.length
 have hn:=QP
 have fin:EP X aa σ Q w s:=⟨z,H,I,rw',q⟩
 exact Kr (x:=w) pl.typeIs slot_tuple_getitem.lookup
  (getItem_tuple (j:=j) (Q:=λr s'=>r=w/\EP X aa σ Q r s') pl (by lia) (by lia) (by rw[Aq,<- hl];exact h1) (by simpa using ew) ⟨rfl,fin⟩) hs
theorem zI0:B5 X rIxS:=by
 intro value slice aa s σ H x y v u Q I rx ry h hs
 obtain⟨z,i,c,rfl,rfl,hz,he,q⟩:=h
 obtain⟨t,rfl⟩:=rx
 obtain⟨t',rfl⟩:=ry
 obtain⟨j,h1,h2,h3,h4,h5⟩:=KB he
 have hl:z.cps.toList.length=z.length:=by simp[Str.length]
 rw[hl] at h1 h4 h5
 have hn:=QP
 exact Qi (typeIs_str s z t) slot_str_getitem.lookup (getItem_str (c:=c) (by
  have e1:decide (i< -(2 ^ 63:Int))=false:=decide_eq_false (by lia)
  have e2:decide (i≥2 ^ 63)=false:=decide_eq_false (by lia)
  rw[e1,e2,Bool.or_false]) (by rw[h1];simpa using h2) ⟨.str ⟨#[c]⟩,H,I.tok _,⟨_,rfl⟩,q⟩) hs
def rIx(K:An):R2:=λx y H Q=>rIxL K x y H Q∨rIxT K x y H Q∨rIxS x y H Q
theorem zI1:B5 X (rIx X.K):=zD5.or (zHZ.or zI0)
theorem GH(its:List Value)(n j:Nat)(u:Value):El (·.setIfInBounds j u) {cls:= .type "list",data:= .seq its.toArray n}={cls:= .type "list",data:= .seq (its.set j u).toArray n}:=by simp[El]
theorem cN.lst{aa:List (Addr×Obj)}{σ:St}{H:Hp}{s:Ag}{p:Addr}{xs:List V}(I:cN X aa σ H s)(h:H p=some (.lst xs)):
  ∃(its:List Value) (n:Nat),bT xs its/\s.heap.get? p=some {cls:= .type "list",data:= .seq its.toArray n}/\xs.length<=sizeLine:=by
 obtain⟨z,its,n,r,e⟩:=I.hok p _ h
 exact⟨its,n,r,e,z⟩
theorem cN.lstUpd{aa:List (Addr×Obj)}{σ:St}{H:Hp}{s:Ag}{p:Addr}{xs ys:List V}{its its':List Value}{n n':Nat}{f:Obj->Obj}(I:cN X aa σ H s)(h:H p=some (.lst xs))
  (ho:s.heap.get? p=some {cls:= .type "list",data:= .seq its.toArray n}) (hf:f {cls:= .type "list",data:= .seq its.toArray n}={cls:= .type "list",data:= .seq its'.toArray n'}) (r:bT ys its') (hz:ys.length<=sizeLine) (t:Nat):
  cN X aa σ (bA H p (.lst ys)) {s with heap:=s.heap.update p f,toks:=t}:=by
 have e:(s.heap.update p f).get? p=some {cls:= .type "list",data:= .seq its'.toArray n'}:=by rw[Le f ho (by rw[hf]<;>rfl),hf]
 refine I.write (x:=p) (e:=p) (by rw[h];trivial) (.inl rfl) (λb u hb q=>(Ks _ _ (Dk hb)).trans q) ⟨_,e⟩ ?_
 exact⟨hz,its',n',r,e⟩
def zJ9:V->V->V->Hp->(Hp->Prop)->Prop:=λo i v H Q=> ∃p xs k j,o= .ref p/\i= .int k/\H p=some (.lst xs)/\ME xs.length k=some j/\Q (bA H p (.lst (xs.set j v)))
theorem AR:PSet X zJ9:=by
 intro aa s σ H o i v ov iv u Q I ro ri rv h
 obtain⟨p,xs,k,j,rfl,rfl,hp,hj,q⟩:=h
 cases ro
 obtain⟨t,rfl⟩:=ri
 obtain⟨its,n,r,ho,hz⟩:=I.lst hp
 obtain⟨h1,h2,h3,h4⟩:=EI hj
 have hl:=r.length
 have hn:=QP
 have I':cN X aa σ (bA H p (.lst (xs.set j v))) {s with heap:=s.heap.update p (El (·.setIfInBounds j u))}:=
  I.lstUpd hp ho (GH its n j u) (r.set rv j) (by rw[Cj];exact hz) s.toks
 by_cases h0:0<=k
 ·have hk:k.toNat=j:=by
   rw[Ow h0 h4] at h1
   exact Cd h1
  exact W.ki_setAt ho h0 (by lia) (by rw[Aq,<- hl];exact h4) (by rw[hk];exact⟨_,I',q⟩)
 ·have hk:(k+(its.toArray.size:Int)).toNat=j:=by
   rw[Nl (by lia) h3] at h1
   rw[Aq,<- hl]
   exact Cd h1
  exact W.ki_setBack ho (by lia) (by rw[Aq,<- hl];exact h3) (by lia) (by rw[hk];exact⟨_,I',q⟩)
theorem LK(lo hi:Option Int)(n:Nat):(Hn lo hi none n).1=((HT.sIx n 0 lo:Nat):Int)/\(Hn lo hi none n).2.1=((HT.sIx n n hi:Nat):Int)/\(Hn lo hi none n).2.2=1:=by
 refine⟨?_,?_,rfl⟩
 ·cases lo with
  |none=>simp[Hn,HT.sIx]
  |some i=>
   simp only[Hn,HT.sIx,Nv,show(1:Int)>0 by decide,if_true]
   by_cases h:i<0
   ·simp only[h,if_true]<;>lia
   ·simp only[h,if_false]<;>lia
 ·cases hi with
  |none=>simp[Hn,HT.sIx]
  |some i=>
   simp only[Hn,HT.sIx,Nv,show(1:Int)>0 by decide,if_true]
   by_cases h:i<0
   ·simp only[h,if_true]<;>lia
   ·simp only[h,if_false]<;>lia
theorem NF(its:List Value)(lo hi:Option Int):slicePick its.toArray lo hi none=((its.drop (HT.sIx its.length 0 lo)).take (HT.sIx its.length its.length hi - HT.sIx its.length 0 lo)).toArray:=by
 obtain⟨h1,h2,h3⟩:=LK lo hi its.toArray.size
 unfold slicePick
 rw[h1,h2,h3]
 simp only[sliceRange_one,pick_run,Aq]<;>rfl
def rSlL(K:An):V->Option Int->Option Int->Hp->VK->Prop:=λx lo hi H Q=> ∃a xs,x= .ref a/\W8 K H a xs/\ ∀p,H p=none->Q (.ref p) (bA H p (.lst (HW xs lo hi)))
theorem zC7:SlR X (rSlL X.K):=by
 intro aa s σ H x v vl vu lo hi sl Q I rx hs pl pu h
 obtain⟨a,xs,rfl,hx,q⟩:=h
 cases rx
 obtain⟨its,r,ht,hz⟩:=I.list hx
 have ai:=r.length
 refine⟨"list",_,slot_list_getitem.lookup,ht.isList.typeIs,?_⟩
 refine wpAny_getItem_list_slice ht.isList hs pl pu .none (by simp) ?_ (by rw[Aq]<;>lia)
 rw[NF,<- ai]
 refine⟨.ref s.heap.objs.size,_,I.laid (t':=s.toks) (o:= .lst (HW xs lo hi)) (λb ob q=>Ac _ q) (Ap _) ?_,rfl,q _ (I.hok.fresh (Ap _))⟩
 exact⟨Ei (PU xs lo hi) hz,_,0,(r.drop (HT.sIx xs.length 0 lo)).take (HT.sIx xs.length xs.length hi - HT.sIx xs.length 0 lo),Au _ rfl⟩
theorem KD:Z4 X (.builtin "len") (λxs H Q=> ∃p ys,xs=[.ref p]/\(W8 X.K H p ys∨WC X.K H p ys)/\Q (.int ys.length) H):=by
 intro aa s σ H xs us Q I r h
 obtain⟨p,ys,rfl,hq,q⟩:=h
 obtain⟨u,rfl,rx⟩:=SX r
 cases rx
 have hn:=QP
 rcases hq with hq|hq
 ·obtain⟨its,r',pl,hz⟩:=I.list hq
  have ai:=r'.length
  exact Calls.call_len_list pl.isList (by simp only[Aq]<;>lia) ⟨.int ys.length,H,I.tok _,⟨s.toks+1,by rw[Aq,ai]⟩,q⟩
 ·obtain⟨its,r',pl,hz⟩:=I.tuple hq
  have ai:=r'.length
  exact len_tuple pl (by simp only[Aq]<;>lia) ⟨.int ys.length,H,I.tok _,⟨s.toks+1,by rw[Aq,ai]⟩,q⟩
theorem KG:Z4 X (.builtin "len") (λxs H Q=> ∃z,xs=[.str z]/\z.length<=sizeLine/\Q (.int z.length) H):=by
 intro aa s σ H xs us Q I r h
 obtain⟨z,rfl,hz,q⟩:=h
 obtain⟨u,rfl,t,rfl⟩:=SX r
 have hn:=QP
 exact len_str (by lia) ⟨.int z.length,H,I.tok _,⟨_,rfl⟩,q⟩
theorem Z4.or{f:Value}{r r':List V->Hp->VK->Prop}(h:Z4 X f r)(h':Z4 X f r'):Z4 X f (λxs H Q=>r xs H Q∨r' xs H Q):=by
 intro aa s σ H xs us Q I rs q
 rcases q with q|q
 ·exact h aa s σ H xs us Q I rs q
 ·exact h' aa s σ H xs us Q I rs q
theorem KH:Z4 X (.type "list") (λxs H Q=> ∃p ys,xs=[.ref p]/\(W8 X.K H p ys∨WC X.K H p ys)/\ ∀l,H l=none->Q (.ref l) (bA H l (.lst ys))):=by
 intro aa s σ H xs us Q I r h
 obtain⟨p,ys,rfl,hq,q⟩:=h
 obtain⟨u,rfl,rx⟩:=SX r
 cases rx
 have fin: ∀(its:List Value),bT ys its->ys.length<=sizeLine-> ∀(h':Heap) (c':Nat),(∀b o',s.heap.get? b=some o'->h'.get? b=some o')→
   h'.get? s.heap.objs.size=some {cls:= .type "list",dict:=none,data:= .seq its.toArray c',slots:= #[]}->EP X aa σ Q (.ref s.heap.objs.size) {s with heap:=h'}:=λits r' hz h' c' kp e=>
  ⟨.ref s.heap.objs.size,_,I.laid (t':=s.toks) kp (Ap _) (show ZQ X.prog X.w _ h' _ (.lst ys) from⟨hz,its,c',r',e⟩),rfl,q _ (I.hok.fresh (Ap _))⟩
 rcases hq with hq|hq
 ·obtain⟨its,r',pl,hz⟩:=I.list hq
  have ai:=r'.length
  obtain⟨o,ho,hc,n,hd⟩:=pl.isList
  exact call_list_seq p (.inl rfl) ho hc hd (λh' c' kp e=>fin its r' hz h' c' kp e) (by simp only[Aq]<;>lia)
 ·obtain⟨its,r',pl,hz⟩:=I.tuple hq
  have ai:=r'.length
  obtain⟨o,ho,hc,n,hd⟩:=pl
  exact call_list_seq p (.inr rfl) ho hc hd (λh' c' kp e=>fin its r' hz h' c' kp e) (by simp only[Aq]<;>lia)
theorem M9:Z4 X (.type "tuple") (λxs H Q=> ∃p ys,xs=[.ref p]/\((W8 X.K H p ys/\ ∀l,H l=none->Q (.ref l) (bA H l (.tup ys)))∨(WC X.K H p ys/\Q (.ref p) H))):=by
 intro aa s σ H xs us Q I r h
 obtain⟨p,ys,rfl,h⟩:=h
 obtain⟨u,rfl,rx⟩:=SX r
 cases rx
 rcases h with⟨hq,q⟩|⟨hq,q⟩
 ·obtain⟨its,r',pl,hz⟩:=I.list hq
  have ai:=r'.length
  refine call_tuple_list pl.isList (λh' kp=> ?_) (by simp only[Aq]<;>lia)
  have I1:cN X aa σ H {s with heap:=h'}:=I.kept (t':=s.toks) kp
  have I2:cN X aa σ (bA H h'.objs.size (.tup ys)) {s with heap:=h'.push {cls:= .type "tuple",data:= .seq its.toArray}}:=
   I1.laid (t':=s.toks) (λb o e=>Ac _ e) (Ap _) (show ZQ X.prog X.w _ _ _ (.tup ys) from⟨hz,its,r',Ju _ _⟩)
  exact⟨.ref h'.objs.size,_,I2,rfl,q _ (I1.hok.fresh (Ap _))⟩
 ·obtain⟨its,r',pl,hz⟩:=I.tuple hq
  exact call_tuple_same pl ⟨.ref p,H,I,rfl,q⟩
def tyV(K:An)(T:String)(x:V)(H:Hp):Prop:=match x with
 | .str _ => T = "str"
 | .int _ => T = "int"
 | .ref p => (T = "list" /\ ∃ xs,W8 K H p xs) ∨ (T = "tuple" /\ ∃ o,K.lookup p = some o /\ o.cls = .type "tuple" /\ o.dict = none) ∨
   (T= "dict" /\((∃kvs,H p=some (.dK kvs))∨ ∃kvs,H p=some (.dT kvs)))∨(T= "set" /\ ∃S n,H p=some (.set S n))
 |_=>False
theorem zEM{aa:List (Addr×Obj)}{σ:St}{H:Hp}{s:Ag}{T:String}{x:V}{v:Value}(I:cN X aa σ H s)(r:bZ x v)(ty:tyV X.K T x H):
  s.TypeIs v T/\ ∀a,v= .ref a-> ∃ob,s.heap.get? a=some ob/\ob.dict=none:=by
 cases x with
 |str z=>
  obtain⟨t,rfl⟩:=r
  cases (show T= "str" from ty)
  exact⟨typeIs_str s z t,λ_ e=>nomatch e⟩
 |int i=>
  obtain⟨t,rfl⟩:=r
  cases (show T= "int" from ty)
  exact⟨typeIs_int s i t,λ_ e=>nomatch e⟩
 |ref p=>
  cases r
  rcases ty with⟨rfl,xs,hq⟩|⟨rfl,o,hk,hc,hd⟩|⟨rfl,hk⟩|⟨rfl,S,n,hk⟩
  ·obtain⟨its,_,pl,_⟩:=I.list hq
   refine⟨pl.isList.typeIs,λa e=> ?_⟩
   cases e
   obtain⟨o,n,e,c,hd,_⟩:=pl
   exact⟨o,e,hd⟩
  ·refine ⟨⟨o,I.kIn p o hk,hc⟩,λa e => ?_⟩
   cases e
   exact⟨o,I.kIn _ o hk,hd⟩
  ·have z: ∃o,s.heap.get? p=some o/\o.ExactDict:=by
    rcases hk with⟨kvs,hk⟩|⟨kvs,hk⟩
    ·obtain⟨_,_,_,_,o,_,_,e,ex,_⟩:=I.hok p _ hk
     exact⟨o,e,ex⟩
    ·obtain⟨_,_,_,_,o,_,_,e,ex,_⟩:=I.hok p _ hk
     exact⟨o,e,ex⟩
   obtain⟨o,e,ex⟩:=z
   refine⟨⟨o,e,ex.1⟩,λa e2=> ?_⟩
   cases e2
   exact⟨o,e,ex.2.1⟩
  ·obtain⟨o,_,_,_,e,ex,_⟩:=I.hok p _ hk
   refine⟨⟨o,e,ex.1⟩,λa e2=> ?_⟩
   cases e2
   exact⟨o,e,ex.2.1⟩
 |_=>exact Ga ty
def tBM(K:An)(T:String)(r:V->List V->Hp->VK->Prop)(to:TE)(t:TA):TE:=λσ H Q=>to σ H λx H1=>tyV K T x H1/\t σ H1 λxs H2=>r x xs H2 Q
variable{o e:Expr}{es:List Expr}{to:TE}{t:TA}{name:Str}{aq af:Pos}{T id:String}{r:V->List V->Hp->VK->Prop}
theorem zJN(pa:PlainAttrs T)(slot:Slot T name id)(hty:typeOf (.builtin id)=pure (.type "method_descriptor")) (hm:MtR X id r) (ho:PE X o to) (ha:PA X (e::es) t)
  (cq : Ha o name X.env (eval o X.env) = eval o X.env := by rfl)
  (ee : ((Ez af (Ah (e :: es) X.env)).all (λx => !x.1) && (Mm af (Ip [] X.env)).all (λx => x.1.isSome)
   && decide ((e::es).length+([]:List Iq).length+(if([]:List Iq).isEmpty then 0 else 1)<30))=true:=by rfl)
  (cm:(aq.endLine==af.line)=true:=by rfl) (hs:Ah (e::es) X.env=(false,eval e X.env)::Ah es X.env:=by rfl) (bp:(Ez af (Ah es X.env)).any (·.1)=false:=by rfl):
  PE X (.Call (.Attribute o name aq) (e::es) [] af) (tBM X.K T r to t):=by
 intro aa s σ H Q I h
 refine wpAny_Call_method_late cq ee cm rfl (ZG (ho aa s σ H _ I h) λv s1 ⟨x,H1,I1,r1,ty,q1⟩=> ?_)
 obtain⟨h1,h2⟩:=zEM I1 r1 ty
 refine⟨T,id,pa,slot,hty,h1,h2,?_⟩
 have hA:=ha af aa s1 σ H1 _ I1 q1
 rw[hs] at hA⊢
 refine Fp (by show(false || (Ez af (Ah es X.env)).any (·.1))=false;rw[bp]<;>rfl) (Gg ?_)
 exact ZG hA λus s2 ⟨vs,H2,I2,r2,q2⟩=>hm aa s2 σ H2 x vs v us Q I2 r1 r2 q2
end
def MtM(X:Cx)(id:String)(r:V->List V->Hp->VK->Prop):Prop:=
 ∀(aa:List (Addr×Obj)) (s:Ag) (σ:St) (H:Hp) (x:V) (xs:List V) (v:Value) (us:List Value) (Q:VK),cN X aa σ H s->bZ x v->bT xs us->r x xs H Q→
  wpAny (model X.prog X.w) X.A (call (.builtin id) (v::us)) (EP X aa σ Q) X.xe s
theorem bT.one: ∀{x:V} {us:List Value},bT [x] us-> ∃u,us=[u]/\bZ x u
 |_,_,.cons r .nil=>⟨_,rfl,r⟩
theorem bT.eraseIdx: ∀{xs:List V} {us:List Value} (i:Nat),bT xs us->bT (xs.eraseIdx i) (us.eraseIdx i)
 |_,_,_,.nil=> .nil
 |_,_,0,.cons _ t=>t
 |_,_,i+1,.cons r t=> .cons r (bT.eraseIdx i t)
section
variable{X:Cx}{aa:List (Addr×Obj)}{σ:St}{H:Hp}{s:Ag}{l b:Addr}{xs ys zs:List V}
theorem cN.lset{its its':List Value}{n:Nat}{f:Array Value->Array Value}{t':Nat}(I:cN X aa σ H s)(hH:H l=some (.lst xs))
  (e:s.heap.get? l=some {cls:= .type "list",data:= .seq its.toArray n}) (hf:f its.toArray=its'.toArray) (hv:bT ys its') (hz:ys.length<=sizeLine):
  cN X aa σ (bA H l (.lst ys)) {s with heap:=s.heap.update l (El f),toks:=t'}:=by
 have q:=PySem.IsL.update e f
 rw[hf] at q
 refine I.write (x:=l) (e:=l) (by rw[hH];exact trivial) (.inl rfl) (λb' u hb hu=>(Ks s.heap (El f) (Dk hb)).trans hu) ⟨_,q⟩ ?_
 exact⟨hz,its',_,hv,q⟩
theorem cN.lnew{its:List Value}{t':Nat}(I:cN X aa σ H s)(hv:bT ys its)(hz:ys.length<=sizeLine):
  cN X aa σ (bA H s.heap.objs.size (.lst ys)) {s with heap:=s.heap.push {cls:= .type "list",data:= .seq its.toArray},toks:=t'}:=
 I.laid (λ_ _ q=>Ac _ q) (Ap _) ⟨hz,its,0,hv,Au _ rfl⟩
theorem cN.fresh(I:cN X aa σ H s):H s.heap.objs.size=none:=I.hok.fresh (Ap _)
theorem cN.lstM(I:cN X aa σ H s)(hH:H l=some (.lst xs)):xs.length<=sizeLine/\ ∃(its:List Value) (n:Nat),bT xs its/\xs.length=its.length/\s.heap.get? l=some {cls:= .type "list",data:= .seq its.toArray n}:=by
 obtain⟨z,its,n,r,e⟩:=I.hok l _ hH
 exact⟨z,its,n,r,r.length,e⟩
end
section
variable{X:Cx}
def E8:V->List V->Hp->VK->Prop:=λx vs H Q=> ∃l xs y,x= .ref l/\vs=[y]/\H l=some (.lst xs)/\xs.length<sizeLine/\Q .non (bA H l (.lst (xs++[y])))
theorem aW:MtM X "list.append" E8:=by
 intro aa s σ H x vs v us Q I rx rv h
 obtain⟨l,xs,y,rfl,rfl,hH,hz,q⟩:=h
 cases rx
 obtain⟨u,rfl,ru⟩:=rv.one
 obtain⟨z,its,n,r,hl,e⟩:=I.lstM hH
 refine Mz F.slot_list_append ⟨_,e,rfl⟩ F.entry_list_append (F.args_list_append_2 _ _) (PySem.list_append l its.toArray n u (by rw[Aq];lia)) ⟨e,?_⟩
 refine⟨.non,_,I.lset (its':=its++[u]) hH e (by simp) (r.append (.cons ru .nil)) ?_,rfl,q⟩
 rw[Bv,Dt]
 lia
end
section
variable{prog:Bn}{w:World}{A:Cy}{E:Value->Ag->Prop}{s:Ag}
set_option maxRecDepth 100000 in
end
section
variable{κ:Type}[DecidableEq κ]
noncomputable def TF(kvs:List (κ×V))(k:κ):Option V:=(kvs.find? λkv=>decide (kv.1=k)).map (·.2)
noncomputable def XQ(kvs:List (κ×V))(k:κ)(v:V):List (κ×V):=
 if(kvs.any λkv=>decide (kv.1=k))=true then kvs.map (λkv=>if kv.1=k then(kv.1,v) else kv) else kvs++[(k,v)]
theorem RQ{p:κ×V}{r:List (κ×V)}{k:κ}(e:p.1=k):TF (p::r) k=some p.2:=by simp[TF,Fx,e]
theorem UZ{p:κ×V}{r:List (κ×V)}{k:κ}(e: ¬p.1=k):TF (p::r) k=TF r k:=by simp[TF,Fx,e]
theorem OT(k:κ): ∀kvs:List (κ×V),(kvs.any λkv=>decide (kv.1=k))=(TF kvs k).isSome
 |[]=>rfl
 |p::r=>by
  rw[Hb]
  by_cases e:p.1=k
  ·simp only[RQ e,decide_eq_true e,Bool.true_or,Mn]
  ·rw[UZ e,decide_eq_false e,Qj];exact OT k r
theorem PY(kvs:List (κ×V))(k:κ)(v:V):(XQ kvs k v).length<=kvs.length+1:=by
 unfold XQ
 split
 ·rw[Ck];lia
 ·rw[Bv,Bo,Fy];lia
theorem zA6{kvs:List (κ×V)}{k:κ}(v:V)(h:TF kvs k=none):XQ kvs k v=kvs++[(k,v)]:=by
 unfold XQ
 rw[OT,h]
 exact if_neg (by decide)
theorem QD.isSome_eq{o:Option V}{u:Option Value}(r:QD o u):o.isSome=u.isSome:=by
 cases o with
 |none=>cases u with
  |none=>rfl
  |some _=>exact(show False from r).elim
 |some _=>cases u with
  |none=>exact(show False from r).elim
  |some _=>rfl
theorem QD.getD{o:Option V}{u:Option Value}{d:V}{d':Value}(r:QD o u)(rd:bZ d d'):bZ (o.getD d) (u.getD d'):=by
 cases o with
 |none=>cases u with
  |none=>exact rd
  |some _=>exact(show False from r).elim
 |some _=>cases u with
  |none=>exact(show False from r).elim
  |some _=>exact r
theorem KV.val{kvs:List (κ×V)}{vs:List (κ×Value)}(r:KV kvs vs)(k:κ):QD (TF kvs k) (Na vs k):=by
 unfold KV at r
 induction r with
 | nil => exact True.intro
 | @cons p q ps qs h t ih=>
  obtain⟨h1,h2⟩:=h
  by_cases e:p.1=k
  ·have e':q.1=k:=h1.symm.trans e
   have b:Na (q::qs) k=some q.2:=by simp[Na,Fx,e']
   rw[RQ e,b];exact h2
  ·have e' : ¬ q.1 = k := λz => e (h1.trans z)
   have b:Na (q::qs) k=Na qs k:=by simp[Na,Fx,e']
   rw[UZ e,b];exact ih
theorem KV.any{kvs:List (κ×V)}{vs:List (κ×Value)}(r:KV kvs vs)(k:κ):(kvs.any λkv=>decide (kv.1=k))=vs.any λkv=>decide (kv.1=k):=by
 unfold KV at r
 induction r with
 |nil=>rfl
 |cons h t ih=>rw[Hb,Hb,ih,h.1]
theorem KV.repl{kvs:List (κ×V)}{vs:List (κ×Value)}(r:KV kvs vs)(k:κ){y:V}{u:Value}(ry:bZ y u):
  KV (kvs.map λkv=>if kv.1=k then(kv.1,y) else kv) (vs.map λkv=>if kv.1=k then(kv.1,u) else kv):=by
 unfold KV at r⊢
 induction r with
 |nil=>exact .nil
 | @cons p q ps qs h t ih=>
  rw[Az,Az]
  refine .cons ?_ ih
  obtain⟨h1,h2⟩:=h
  by_cases e:p.1=k
  ·rw[if_pos e,if_pos (h1.symm.trans e)];exact⟨h1,ry⟩
  ·rw[if_neg e,if_neg (λz=>e (h1.trans z))];exact⟨h1,h2⟩
theorem KV.put{kvs:List (κ×V)}{vs:List (κ×Value)}(r:KV kvs vs)(k:κ){y:V}{u:Value}(ry:bZ y u):KV (XQ kvs k y) (Qs vs k u):=by
 unfold XQ Qs
 rw[r.any k]
 by_cases e:(vs.any λkv=>decide (kv.1=k))=true
 ·rw[if_pos e,if_pos e];exact r.repl k ry
 ·rw[if_neg e,if_neg e];exact Ra r ⟨rfl,ry⟩
theorem KV.length{kvs:List (κ×V)}{vs:List (κ×Value)}(r:KV kvs vs):kvs.length=vs.length:=Mj r
end
theorem MF{P:Bn}{w:World}{k:aR}{u:Value}(r:bZ (kV k) u):(a7 P w).is k u=true:=by
 cases k with
 |inl i=>obtain⟨t,e⟩:=(show∃t,u=Oj i t from r);subst e;exact IM P w i t
 |inr x=>obtain⟨t,e⟩:=(show∃t,u=Ol x t from r);subst e;exact IN P w x t
theorem MD{P:Bn}{w:World}: ∀{ks:List aR} {us:List Value},bT (ks.map kV) us->ItemsAre (a7 P w) ks us
 |[],_,r=>by rw[Du] at r;cases r;exact .nil
 |k::ks,_,r=>by
  rw[Az] at r
  cases r with
  |cons h t=>exact .cons (MF h) (MD t)
abbrev KT(H:Hp):List (List aR×V)->List (List aR×Addr×Value)->Prop:=Paired λp q=>p.1=q.1/\H q.2.1=some (.tup (p.1.map kV))/\bZ p.2 q.2.2
theorem KT.val{H:Hp}{kvs:List (List aR×V)}{xs:List (List aR×Addr×Value)}(r:KT H kvs xs)(k:List aR):QD (TF kvs k) ((atKey xs k).map (·.2)):=by
 induction r with
 | nil => exact True.intro
 | @cons p q ps qs h t ih=>
  obtain⟨h1,_,h2⟩:=h
  by_cases e:p.1=k
  ·have e':q.1=k:=h1.symm.trans e
   have b:atKey (q::qs) k=some q.2:=by simp[atKey,Fx,e']
   rw[RQ e,b];exact h2
  ·have e' : ¬ q.1 = k := λz => e (h1.trans z)
   have b:atKey (q::qs) k=atKey qs k:=by simp[atKey,Fx,e']
   rw[UZ e,b];exact ih
theorem KT.repl{H:Hp}{kvs:List (List aR×V)}{xs:List (List aR×Addr×Value)}(r:KT H kvs xs)(k:List aR){y:V}{u:Value}(ry:bZ y u):
  KT H (kvs.map λkv=>if kv.1=k then(kv.1,y) else kv) (xs.map (putAt k u)):=by
 induction r with
 |nil=>exact .nil
 | @cons p q ps qs h t ih=>
  rw[Az,Az]
  refine .cons ?_ ih
  obtain⟨h1,h2,h3⟩:=h
  unfold putAt
  by_cases e:p.1=k
  ·rw[if_pos e,if_pos (h1.symm.trans e)];exact⟨h1,h2,ry⟩
  ·rw[if_neg e,if_neg (λz=>e (h1.trans z))];exact⟨h1,h2,h3⟩
theorem KT.put{H:Hp}{kvs:List (List aR×V)}{xs:List (List aR×Addr×Value)}(r:KT H kvs xs)(k:List aR){b:Addr}{y:V}{u:Value}(hb:H b=some (.tup (k.map kV)))(ry:bZ y u):
  KT H (XQ kvs k y) (storedH xs k b u):=by
 have e:(kvs.any λkv=>decide (kv.1=k))=(atKey xs k).isSome:=by rw[OT,(r.val k).isSome_eq,Option.isSome_map]
 unfold XQ storedH
 rw[e]
 by_cases q:(atKey xs k).isSome=true
 ·rw[if_pos q,if_pos q];exact r.repl k ry
 ·rw[if_neg q,if_neg q];exact Ra r ⟨rfl,hb,ry⟩
theorem KT.keeps{H H':Hp}{kvs:List (List aR×V)}{xs:List (List aR×Addr×Value)}(r:KT H kvs xs)(ht: ∀b ys,H b=some (.tup ys)->H' b=some (.tup ys)):KT H' kvs xs:=
 Paired.mapP r λ_ _ z=>⟨z.1,ht _ _ z.2.1,z.2.2⟩
section
variable{P:Bn}{w:World}{H:Hp}{h:Heap}{a:Addr}
theorem zDQ{u:HO}(ok:RS P w H h)(e:Rd H a u):ZQ P w H h a u:=e.ok ok
theorem L4{kvs:List (aR×V)}(ok:RS P w H h)(e:Rd H a (.dK kvs)):kvs.length<=sizeLine/\(a==Ex)=false/\ ∃vs,KV kvs vs/\h.DictOf (a7 P w) a vs:=
 show ZQ P w H h a (.dK kvs) from zDQ ok e
theorem zKR{kvs:List (aR×V)}(ok:RS P w H h)(e:H a=some (.dK kvs)):kvs.length<=sizeLine/\(a==Ex)=false/\ ∃vs,KV kvs vs/\h.DictOf (a7 P w) a vs:=L4 ok (.inl e)
theorem N8{ks:List aR}(ok:RS P w H h)(e:H a=some (.tup (ks.map kV))):(tupleKind (a7 P w)).is h ks a:=by
 obtain⟨_,its,r,o,h1,h2,n,h3⟩:=(show ZQ P w H h a (.tup (ks.map kV)) from ok a _ e)
 exact⟨o,its.toArray,n,h1,h2,h3,by simpa using MD r⟩
theorem L6{kvs:List (List aR×V)}(ok:RS P w H h)(e:Rd H a (.dT kvs)):kvs.length<=sizeLine/\(a==Ex)=false∧
  ∃xs,KT H kvs xs/\h.DictOfH (tupleKind (a7 P w)) a xs:=by
 obtain⟨z,y,xs,r,o,es,ep,h1,h2,h3,h4,h5⟩:=(show ZQ P w H h a (.dT kvs) from zDQ ok e)
 refine⟨z,y,xs,r,o,es,ep,h1,h2,h3,h4,λx hx=> ?_,h5⟩
 have all: ∀{l:List (List aR×V)} {m:List (List aR×Addr×Value)},KT H l m-> ∀x∈m,(tupleKind (a7 P w)).is h x.1 x.2.1:=by
  intro l m q
  induction q with
  | nil => intro x hx;exact nomatch hx
  | @cons p q ps qs hq t ih=>
   intro x hx
   rcases Aj.mp hx with e|hx
   ·subst e
    exact N8 ok (by rw[<- hq.1];exact hq.2.1)
   ·exact ih x hx
 exact all r x hx
theorem zKQ{kvs:List (List aR×V)}(ok:RS P w H h)(e:H a=some (.dT kvs)):kvs.length<=sizeLine/\(a==Ex)=false∧
  ∃xs,KT H kvs xs/\h.DictOfH (tupleKind (a7 P w)) a xs:=L6 ok (.inl e)
end
def P6(H:Hp)(a:Addr)(y:V)(r:Option V):Prop:=
 (∃kvs k,Rd H a (.dK kvs)/\y=kV k/\r=TF kvs k)∨ ∃kvs k b,Rd H a (.dT kvs)/\y= .ref b/\H b=some (.tup (k.map kV))/\r=TF kvs k
def DPut(H:Hp)(a:Addr)(y v:V)(H':Hp):Prop:=
 (∃kvs k,H a=some (.dK kvs)/\y=kV k/\kvs.length<sizeLine/\H'=bA H a (.dK (XQ kvs k v)))∨
 ∃kvs k b,H a=some (.dT kvs)/\y= .ref b/\H b=some (.tup (k.map kV))/\kvs.length<sizeLine/\H'=bA H a (.dT (XQ kvs k v))
theorem P6.k{H:Hp}{a:Addr}{kvs:List (aR×V)}{k:aR}(e:H a=some (.dK kvs)):P6 H a (kV k) (TF kvs k):= .inl ⟨kvs,k,.inl e,rfl,rfl⟩
theorem DPut.k{H:Hp}{a:Addr}{kvs:List (aR×V)}{k:aR}{v:V}(e:H a=some (.dK kvs))(hl:kvs.length<sizeLine):DPut H a (kV k) v (bA H a (.dK (XQ kvs k v))):= .inl ⟨kvs,k,e,rfl,hl,rfl⟩
section
variable{X:Cx}{aa:List (Addr×Obj)}{σ:St}{H:Hp}{s:Ag}{a:Addr}{y v:V}{u r:Value}{o:Option V}{A:Cy}{E:Value->Ag->Prop}
theorem cN.big(I:cN X aa σ H s):Ex<s.heap.objs.size:=by
 have h:mainGlobals<s.heap.objs.size:=(I.mod.glob.keeps I.bk).lt
 exact No (by decide) h
theorem CO{Q:Value->Ag->Prop}(hu:A.units+1<cLine)(I:cN X aa σ H s)(g:P6 H a y (some v))(ry:bZ y u)(h: ∀w' s',cN X aa σ H s'->bZ v w'->Q w' s'):
  wpAny (model X.prog X.w) A (Kg (.ref a) u) Q E s:=by
 rcases g with⟨kvs,k,e,ey,l⟩|⟨kvs,k,b,e,ey,eb,l⟩
 ·subst ey
  obtain⟨z,hd,vs,rel,dd⟩:=L4 I.hok e
  obtain⟨w',hw,rw'⟩:=QD.some_of (v:=v) (o:=Na vs k) (by rw[l];exact rel.val k)
  exact wpAny_getItem_of (MF ry) dd.mapOf hw (h w' _ (I.tok _) rw')
 ·subst ey
  cases (show u=Bq b from ry)
  obtain⟨z,hd,xs,rel,dd⟩:=L6 I.hok e
  obtain⟨w',hw,rw'⟩:=QD.some_of (v:=v) (o:=(atKey xs k).map (·.2)) (by rw[l];exact rel.val k)
  obtain⟨p,hp,hp2⟩:=Option.map_eq_some_iff.mp hw
  refine wpAny_getItem_heap (Hc hu) (N8 I.hok eb) dd hp ?_
  rw[hp2]
  exact h w' _ (I.tok _) rw'
theorem EC{h':Heap}{t':Nat}{ob:HO}(I:cN X aa σ H s)(mu:Mut (H a))(hs:Ey a s.heap h')(he: ∃q,h'.get? a=some q)(new:ZQ X.prog X.w (bA H a ob) h' a ob):
  cN X aa σ (bA H a ob) {s with heap:=h',toks:=t'}:=
 I.write (x:=a) (e:=a) mu (.inl rfl) (λb q hb z=>(hs.2 b hb).trans z) he new
theorem zBJ{P:Bn}{w:World}{H':Hp}{h':Heap}{kvs:List (aR×V)}{vs:List (aR×Value)}(z:kvs.length<=sizeLine)(hd:(a==Ex)=false)(rel:KV kvs vs)(dd:h'.DictOf (a7 P w) a vs):
  ZQ P w H' h' a (.dK kvs):=⟨z,hd,vs,rel,dd⟩
theorem CP{H':Hp}{Q:Unit->Ag->Prop}(hu:A.units+1<cLine)(I:cN X aa σ H s)(g:DPut H a y v H')(ry:bZ y u)(rv:bZ v r)(h: ∀s',cN X aa σ H' s'->Q () s'):
  wpAny (model X.prog X.w) A (setItem (.ref a) u r) Q E s:=by
 rcases g with⟨kvs,k,e,ey,l,eH⟩|⟨kvs,k,b,e,ey,eb,l,eH⟩
 ·subst ey eH
  obtain⟨z,hd,vs,rel,dd⟩:=zKR I.hok e
  have hz:vs.length<=sizeLine:=by rw[<- rel.length];exact z
  have hl:(XQ kvs k v).length<=sizeLine:=by have:=PY kvs k v;lia
  refine wpAny_setItem_pairs (hsz:=hz) (MF ry) dd λh' dd' hs=>h _ ?_
  have he: ∃q,h'.get? a=some q:=let ⟨q,_,_,hq,_⟩:=dd';⟨q,hq⟩
  exact EC I (by rw[e];exact True.intro) hs he (zBJ hl hd (rel.put k rv) dd')
 ·subst ey eH
  cases (show u=Bq b from ry)
  obtain⟨z,hd,xs,rel,dd⟩:=zKQ I.hok e
  have hz:xs.length<=sizeLine:=by rw[<- Mj rel];exact z
  have hl:(XQ kvs k v).length<=sizeLine:=by have:=PY kvs k v;lia
  refine wpAny_setItem_heap (hsz:=hz) (Hc hu) (N8 I.hok eb) dd λh' dd' hs=>h _ ?_
  obtain⟨q,es,ep,hq,h2,h3,h4,_,h5⟩:=dd'
  refine EC I (by rw[e];exact True.intro) hs ⟨q,hq⟩ ⟨hl,hd,_,(rel.put k eb rv).keeps λc ys ec=> ?_,q,es,ep,hq,h2,h3,h4,h5⟩
  rw[bQ (zK1 ec e (λz=>nomatch z))]
  exact ec
end
theorem HX{X:Cx}{aa:List (Addr×Obj)}{σ:St}{H:Hp}{s:Ag}{a:Addr}{y:V}{o:Option V}(I:cN X aa σ H s)(g:P6 H a y o):s.TypeIs (.ref a) "dict":=by
 rcases g with⟨kvs,k,e,_,_⟩|⟨kvs,k,b,e,_,_,_⟩
 ·obtain⟨_,_,vs,_,dd⟩:=L4 I.hok e
  exact dd.typeIs
 ·obtain⟨_,_,xs,_,dd⟩:=L6 I.hok e
  exact dd.typeIs
def zJ8(td ty tv:TE):TS:=λD σ H=>tv σ H λv H1=>td σ H1 λx H2=>ty σ H2 λy H3=> ∃a H4,x= .ref a/\DPut H3 a y v H4/\D.nx σ H4
section
variable{X:Cx}{o i e value:Expr}{pos bh dh:Pos}{td ty tv:TE}
theorem zCJ(hu:X.A.units+1<cLine)(ho:PE X o td)(hi:PE X i ty)(hv:PE X value tv)(hs:Fu value (some (.Subscript o i bh)) pos.line X.env=pure false):
  PS X (.Assign [.Subscript o i bh] value pos) (zJ8 td ty tv):=by
 intro aa s σ H D I h
 refine wpAny_Assign_Subscript (ZG (hv aa s σ H _ I h) λr s1 ⟨v,H1,I1,rv,q1⟩=>ZG (ho aa s1 σ H1 _ I1 q1) λu s2 ⟨x,H2,I2,rx,q2⟩=>ZG (hi aa s2 σ H2 _ I2 q2) λiv s3 ⟨y,H3,I3,ry,a,H4,ex,g,q3⟩=> ?_) hs
 subst ex
 obtain rfl:u=Bq a:=rx
 exact CP hu I3 g ry rv λs4 I4=>⟨σ,H4,I4,q3⟩
end
theorem zBK{P:Bn}{w:World}{H:Hp}(h:Heap)(hb:Ex<h.objs.size):ZQ P w H (h.push {cls:= .type "dict",data:= .dict #[]}) h.objs.size (.dK []):=
 ⟨Dc _,beq_eq_false_iff_ne.mpr (Dk (Bf hb)),[],.nil,Ox h⟩
def zES:TE:=λ_ H Q=> ∀p,H p=none->Q (.ref p) (bA H p (.dK []))
section
variable{X:Cx}{pos:Pos}
theorem zAG:PE X (.Dict [] [] pos) zES:=λaa s σ H Q I h=>
 wpAny_Dict_empty ⟨.ref s.heap.objs.size,_,I.laid (a:=s.heap.objs.size) (o:= .dK []) (t':=s.toks) (λ_ _ q=>Ac _ q) (Ap _) (zBK s.heap I.big),rfl,h _ (I.hok.fresh (Ap _))⟩
end
def N9(kvs more:List (aR×V)):List (aR×V):=more.foldl (λacc kv=>XQ acc kv.1 kv.2) kvs
theorem KV.merge: ∀{more:List (aR×V)} {rs:List (aR×Value)} {kvs:List (aR×V)} {vs:List (aR×Value)},KV more rs->KV kvs vs->KV (N9 kvs more) (merged vs rs):=by
 intro more rs kvs vs r
 unfold KV at r
 induction r generalizing kvs vs with
 | nil => intro q;exact q
 | @cons p q ps qs h t ih=>
  intro r0
  have e:KV (XQ kvs p.1 p.2) (Qs vs q.1 q.2):=by
   have:=r0.put p.1 h.2
   rw[<- h.1];exact this
  exact ih e
structure M1(X:Cx)(o:Expr)(m:Str)(aq:Pos)(e:Expr)(af:Pos):Prop where
 base:Ha o m X.env (eval o X.env)=eval o X.env
 few:((Ez af (Ah [e] X.env)).all (λx=> !x.1) && (Mm af (Ip [] X.env)).all (λx=>x.1.isSome)
  && decide (([e]:List Expr).length+([]:List Iq).length+(if([]:List Iq).isEmpty then 0 else 1)<30))=true
 line:(aq.endLine==af.line)=true
 trees:Ez af (Ah [e] X.env)=[(false,eval e X.env)]
structure M2(X:Cx)(o:Expr)(m:Str)(aq:Pos)(e f:Expr)(af:Pos):Prop where
 base:Ha o m X.env (eval o X.env)=eval o X.env
 few:((Ez af (Ah [e,f] X.env)).all (λx=> !x.1) && (Mm af (Ip [] X.env)).all (λx=>x.1.isSome)
  && decide (([e,f]:List Expr).length+([]:List Iq).length+(if([]:List Iq).isEmpty then 0 else 1)<30))=true
 line:(aq.endLine==af.line)=true
 trees:Ez af (Ah [e,f] X.env)=[(false,eval e X.env),(false,eval f X.env)]
def IsD(H:Hp)(a:Addr):Prop:=(∃kvs,Rd H a (.dK kvs))∨ ∃kvs,Rd H a (.dT kvs)
theorem zB8{X:Cx}{aa:List (Addr×Obj)}{σ:St}{H:Hp}{s:Ag}{a:Addr}(I:cN X aa σ H s)(d:IsD H a):
  s.TypeIs (.ref a) "dict" /\(∀b,Bq a= .ref b-> ∃ob,s.heap.get? b=some ob/\ob.dict=none)/\(a==Ex)=false:=by
 rcases d with⟨kvs,e⟩|⟨kvs,e⟩
 ·obtain⟨_,hd,vs,_,dd⟩:=L4 I.hok e
  refine⟨dd.typeIs,λb q=> ?_,hd⟩
  cases q
  obtain⟨ob,_,_,h1,h2,_⟩:=dd
  exact⟨ob,h1,h2.2.1⟩
 ·obtain⟨_,hd,xs,_,dd⟩:=L6 I.hok e
  refine⟨dd.typeIs,λb q=> ?_,hd⟩
  cases q
  obtain⟨ob,_,_,h1,h2,_⟩:=dd
  exact⟨ob,h1,h2.2.1⟩
section
variable{X:Cx}{aa:List (Addr×Obj)}{σ:St}{H:Hp}{s:Ag}{a:Addr}{y d:V}{u r:Value}{o:Option V}{A:Cy}{E:Value->Ag->Prop}
theorem zI5{Q:Value->Ag->Prop}(hu:A.units+1<cLine)(I:cN X aa σ H s)(g:P6 H a y o)(ry:bZ y u)(h: ∀w' s',cN X aa σ H s'->bZ (o.getD .non) w'->Q w' s'):
  wpAny (model X.prog X.w) A (call (.builtin "dict.get") [.ref a,u]) Q E s:=by
 rcases g with⟨kvs,k,e,ey,l⟩|⟨kvs,k,b,e,ey,eb,l⟩
 ·subst ey
  obtain⟨z,hd,vs,rel,dd⟩:=L4 I.hok e
  refine Lg Dv dd.typeIs Eu (Hd _ _) (meets_dict_get (a7 X.prog X.w) a (MF ry) hd) ⟨_,dd.mapOf,h _ _ (I.tok _) ?_⟩
  rw[l]
  exact(rel.val k).getD rfl
 ·subst ey
  cases (show u=Bq b from ry)
  obtain⟨z,hd,xs,rel,dd⟩:=L6 I.hok e
  refine Lg Dv dd.typeIs Eu (Hd _ _) (meetsH_dict_get (tupleKind (a7 X.prog X.w)) a b hd) ⟨Hc hu,k,xs,N8 I.hok eb,dd,h _ _ (I.tok _) ?_⟩
  rw[l]
  exact(rel.val k).getD rfl
theorem zI4{Q:Value->Ag->Prop}(hu:A.units+1<cLine)(I:cN X aa σ H s)(g:P6 H a y o)(ry:bZ y u)(rd:bZ d r)(h: ∀w' s',cN X aa σ H s'->bZ (o.getD d) w'->Q w' s'):
  wpAny (model X.prog X.w) A (call (.builtin "dict.get") [.ref a,u,r]) Q E s:=by
 rcases g with⟨kvs,k,e,ey,l⟩|⟨kvs,k,b,e,ey,eb,l⟩
 ·subst ey
  obtain⟨z,hd,vs,rel,dd⟩:=L4 I.hok e
  refine Lg Dv dd.typeIs Eu (Kh _ _ _) (meets_dict_get_default (a7 X.prog X.w) a (MF ry) hd r) ⟨_,dd.mapOf,h _ _ (I.tok _) ?_⟩
  rw[l]
  exact(rel.val k).getD rd
 ·subst ey
  cases (show u=Bq b from ry)
  obtain⟨z,hd,xs,rel,dd⟩:=L6 I.hok e
  refine Lg Dv dd.typeIs Eu (Kh _ _ _) (meetsH_dict_get_default (tupleKind (a7 X.prog X.w)) a b hd r) ⟨Hc hu,k,xs,N8 I.hok eb,dd,h _ _ (I.tok _) ?_⟩
  rw[l]
  exact(rel.val k).getD rd
end
def zET(td ty tx:TE):TE:=λσ H Q=>td σ H λx H1=> ∃a,x= .ref a/\IsD H1 a/\ty σ H1 λy H2=>tx σ H2 λz H3=> ∃o,P6 H3 a y o/\Q (o.getD z) H3
section
variable{X:Cx}{o e f:Expr}{aq af:Pos}{td ty tx:TE}
theorem zAH(hu:X.A.units+1<cLine)(ho:PE X o td)(he:PE X e ty)(hf:PE X f tx)(m:M2 X o "get" aq e f af):PE X (.Call (.Attribute o "get" aq) [e,f] [] af) (zET td ty tx):=by
 intro aa s σ H Q I h
 refine Nb m.base m.few m.line Ki Dv Li (ZG (ho aa s σ H _ I h) λu s1 ⟨x,H1,I1,rx,a,ex,d,q1⟩=> ?_)
 subst ex
 obtain rfl:u=Bq a:=rx
 obtain⟨t1,t2,_⟩:=zB8 I1 d
 refine⟨t1,t2,?_⟩
 rw[m.trees]
 refine Fp rfl (Gg (Ft (ZG (he aa s1 σ H1 _ I1 q1) λiv s2 ⟨y,H2,I2,ry,q2⟩=>
  Ft (ZG (hf aa s2 σ H2 _ I2 q2) λfv s3 ⟨z,H3,I3,rz,ov,g,q3⟩=>Hm ?_))))
 exact zI4 hu I3 g ry rz λw' s4 I4 rw'=>⟨_,H3,I4,rw',q3⟩
end
end L2
namespace Att
open PySem PySem.W PySem.Calls PyProof.Rows
theorem PF{P:Oi}{h:Heap}: ∀(ns:List Int) (vs:List Value),WellAll P h vs (ns.map WData.int)->Qk vs ns:=by
 intro ns
 induction ns with
 |nil=>
  intro vs w
  rw[Du] at w
  cases w
  exact .nil
 |cons n ns ih=>
  intro vs w
  rw[Az] at w
  cases w with
  |cons a b=>
   cases a
   exact .cons _ _ (ih _ b)
theorem DP{l:OpenLaw}{n:Nat}(hn:l.most=some n){P:Oi}{h:Heap}{args:List WData}{vals:List Value}
  (hpre:l.row.toRowW.claim.pre args=true) (hwl:WellAll P h vals args):
  ∃a vs ns,vals=[Bq a]/\args=[WData.list (ns.map WData.int)]/\h.get? a=some {cls:= .type "list",data:= .seq vs.toArray}/\Qk vs ns/\ns.length<=n:=by
 have hsh:WShape.hasAll [] args [.list .int]=true:=(pre_splitW hpre).1
 have hc:l.pre.holds [] {args:=args}=true:=(pre_splitW hpre).2
 obtain⟨d,r,rfl,h1,h2⟩:=hasAllW_cons hsh
 obtain rfl:=hasAllW_nil h2
 obtain⟨xs,rfl,h3⟩:=hasW_list h1
 obtain⟨ns,rfl⟩:=items_int h3
 have ai:ns.length<=n:=by
  unfold OpenLaw.pre at hc
  have h4:(WTm.not (.lt (.lit (.int (n:Int))) (.len (.arg 0)))).holds [] {args:=[.list (ns.map .int)]}=true:=by
   have h4:=(holds_andW hc).1
   rw[hn] at h4
   exact h4
  have h5:=condW_of h4 (w_not (w_lt w_lit (w_len_list (w_arg rfl))))
  rw[Ck] at h5
  refine Nat.le_of_not_lt λq=> ?_
  have q':(n:Int)<((ns.length:Nat):Int):=by lia
  first
   |(rw[decide_eq_true q'] at h5;exact absurd h5 (by decide))
   |(simp at h5;lia)
 cases hwl with
 |cons w1 w2=>
  cases w2
  cases w1 with
  |list ho jr=>exact⟨_,_,ns,rfl,rfl,ho,PF ns _ jr,ai⟩
theorem DI(l:OpenLaw)(args:List WData):l.row.toRowW.claim.post args (.bool true) args=true:=
 postW_of (r:=l.row.toRowW) (X:=(true==true))
  (show Rh [] (.bool true) .bool=true by first|rfl|decide|simp[Rh,WShape.arms,WShape.armsAll])
  (show(WTm.eq .res (.lit (.bool true))).value [] {args:=args,res:=some (.bool true),after:=args}=some (.bool (true==true)) from w_eq_bool (w_res rfl) w_lit) rfl
theorem HN{l:OpenLaw}{n:Nat}{q:Bn}{loose:List Str}{XP:(Str->Option Value)->Heap->Prop}{YP:World->Heap->Prop}{d:DefRec}
  (hn:l.most=some n) (hdf:d.params.defaults=[])
  (call: ∀(w:World) (s₀ s₁:Ag) (mg mb:Str->Option Value) (fa:Addr) (o:Obj) (pm cd doc:Value) (a:Addr) (vs:List Value) (ns:List Int),
   Ground q loose [] XP w s₀ mg mb s₁.heap->YP w s₁.heap→
   s₁.heap.get? fa=some o->o.data= .func (docDef d.name d.params d.body d.scope pm cd doc)->s₁.heap.CodeRec cd d.name->mg d.name=some (.ref fa)→
   s₁.heap.get? a=some {cls:= .type "list",data:= .seq vs.toArray}->Qk vs ns->ns.length<=n->s₁.gens= #[]→
   Fw (model l.prog w) Mc (.call (.ref fa) ⟨[.ref a],[]⟩) (λr s'=>r= .ok (.ret (.bool true))/\OldK s₁.heap s'.heap/\s'.os=s₁.os/\Kx s'.gens) s₁):
  WalkO q loose XP YP l.row.toRowW d [] (λf vs=>Qf f vs):=by
 intro w s₀ s₁ mg mb G Y fa o pm cd doc dV kV ho hd hcd hD hmg hg args vals as hpre hlay hrd hwl hlo
 obtain rfl:dV= .none:=Dflts.none hD hdf
 obtain rfl:kV= .none:=Dflts.noKw hD
 obtain⟨a,vs,ns,rfl,rfl,hobj,hints,ai⟩:=DP hn hpre hwl
 refine enter_call (Jj (call w s₀ s₁ mg mb fa o pm cd doc a vs ns G Y ho (fd_plain hd) hcd hmg hobj hints ai hg) λr s' hq=> ?_)
 obtain⟨rfl,h2,h3,h4⟩:=hq
 exact⟨.inl ⟨.bool true,.bool true,[],rfl,λ_=>rfl,.bool true,DI l _,λ_=>⟨Jx,λ_ hm=>(nomatch hm)⟩⟩,h2,h3,h4⟩
end Att
namespace L2
open PySem PySem.Spec PyProof.Rows
theorem MZ: ∀{vs:List Value} {ns:List Int},Qk vs ns->bT (ns.map V.int) vs
 |_,_,.nil=> .nil
 |_,_,.cons n t h=> .cons ⟨t,rfl⟩ (MZ h)
def Only(H:Hp):Prop:= ∀b,H b=none∨ ∃o xs,H b=some (.frz o (.lst xs))
theorem zB3{P:Bn}{w:World}{K:An}{mg mb:Str->Option Value}{CX:CXT}{k:Nat}{fa a:Addr}{fd:Et}{x:Str}{sp:Sp}{s₁:Ag}{vs:List Value}{ns:List Int}
  (KX:K.In s₁.heap) (hns:s₁.heap.Ns mainGlobals mg) (hb:s₁.heap.Ns builtinsNs mb) (hbb: ∀x:Str,x≠ "__name__" ->mb x=Bg x) (qq:s₁.heap.NoLimit) (hg:s₁.gens= #[])
  (ha:s₁.heap.get? a=some {cls:= .type "list",data:= .seq vs.toArray}) (hi:Qk vs ns) (hl:ns.length<=sizeLine) (hr:YJ k Mc)
  (F: ∀base:Heap,K.In base->base.Ns mainGlobals mg->bJ P w K mg base CX k fa fd [x] sp) (on: ∀(s:Ag) (u:Value),Ov s fd ⟨[u],[]⟩ [(x,u)])
  (hsp : ∀ H : Hp,Only H -> W8 K H a (ns.map V.int) -> sp [.ref a] H (λv _ => v = .bl true) λ_ _ _ => False)
  (hCX : ∀ H e s',CX [] H s₁ (λ_ _ _ => False) e s' -> False) :
  Fw (model P w) Mc (.call (.ref fa) ⟨[.ref a],[]⟩) (λr s'=>r= .ok (.ret (.bool true))/\OldK s₁.heap s'.heap/\s'.os=s₁.os/\Kx s'.gens) s₁:=by
 have rv:=MZ hi
 have q8:=hi.length
 have oq: ∀H:Hp,Only H->W8 K H a (ns.map V.int)->RS P w H s₁.heap->(∀b,H b≠none->b=a)->(H a≠none->K.lookup a=none)→
   Fw (model P w) Mc (.call (.ref fa) ⟨[.ref a],[]⟩) (λr s'=>r= .ok (.ret (.bool true))/\OldK s₁.heap s'.heap/\s'.os=s₁.os/\Kx s'.gens) s₁:=by
  intro H hO hS hok hA hK
  have f7: ∀{b:Addr} {o:Obj},s₁.heap.get? b=some o->H b=none->(K2 s₁.heap H).get? b=some o:=λe n=>zBC e n
  have noA: ∀{b:Addr} {o:Obj} {es:Array Kv} {ep:Nat},s₁.heap.get? b=some o->o.data= .dict es ep->H b=none:=λ{b o es ep} e d=>by
   cases q:H b with
   | none => rfl
   |some u=>
    have e':b=a:=hA b (by rw[q];simp)
    subst e'
    rw[ha] at e;cases e
    have d':Data.seq vs.toArray _=Data.dict es ep:=d
    cases d'
  have nsK: ∀{b:Addr} {m:Str->Option Value},s₁.heap.Ns b m->(K2 s₁.heap H).Ns b m:=λ{b m} ⟨o,es,ep,e,d,r⟩=>⟨o,es,ep,f7 e (noA e d),d,r⟩
  have hKb:K.In (K2 s₁.heap H):=λb o e=>f7 (KX b o e) (by
   cases q:H b with
   | none => rfl
   |some u=>
    have e':b=a:=hA b (by rw[q];simp)
    subst e'
    rw[hK (by rw[q];simp)] at e;cases e)
  have hM:Mod K mg (K2 s₁.heap H):=⟨hKb,nsK hns,⟨mb,nsK hb,hbb⟩,let ⟨mc,h1,h2⟩:=qq;⟨mc,nsK h1,h2⟩⟩
  have e0:Env0 P w K mg (K2 s₁.heap H) Mc [] s₁ H:=⟨rfl,hM,λb o e=>zCW e,Nat.le_of_eq (CY _ _),trivial,λb hb=>absurd (show b∈([]:List Addr) from hb) (by simp),hok,.of_eq hg⟩
  refine Jj ((F _ hKb (nsK hns)).run Mc [] s₁ H ⟨[.ref a],[]⟩ [.ref a] [.ref a] _ _ hr e0 (on s₁ (.ref a)) (.cons rfl .nil) (hsp H hO hS)) λr s' h=> ?_
  cases r with
  | error e => exact (hCX H e s' h).elim
  |ok fl=>
   cases fl with
   | next => exact Ga h
   | brk => exact Ga h
   | cont => exact Ga h
   |ret u=>
    obtain⟨v,H',os,bare,un,qm,r',q⟩:=h
    have q':v= .bl true:=q
    subst q'
    obtain rfl:u=Qd true:=r'
    refine⟨rfl,OldK.of_keep λb o e=> ?_,os,bare⟩
    cases q:H b with
    | none => exact un.keep b o e q (by intro z;exact absurd (show b ∈ ([] : List Addr) from z) (by simp)) (by simp)
    |some u=>
     rcases hO b with z|⟨ob,xs,z⟩
     ·rw[q] at z;cases z
     ·have z2:=un.frzs b ob _ z
      obtain⟨e1,_⟩:=hok b _ z
      obtain⟨e2,_⟩:=qm b _ z2
      rw[e] at e1;cases e1
      exact e2
 cases hk:K.lookup a with
 |some o=>
  have e:=KX a o hk
  rw[ha] at e
  cases e
  refine oq (λ_=>none) (λ_=> .inl rfl) (.inr ⟨_,vs.toArray,_,hk,rfl,rfl,rfl,by rw[Aq,q8];exact hl,by simpa using rv⟩) (λb u z=>by have z':(none:Option HO)=some u:=z;cases z') (λb z=>absurd rfl z) λz=>absurd rfl z
 |none=>
  refine oq (λb=>if b=a then some (.frz {cls:= .type "list",data:= .seq vs.toArray} (.lst (ns.map V.int))) else none) (λb=> ?_) (.inl (.inr ⟨{cls:= .type "list",data:= .seq vs.toArray},if_pos rfl⟩)) (λb u z=> ?_) (λb z=> ?_) λ_=>hk
  ·by_cases hb:b=a
   ·exact .inr ⟨_,_,if_pos hb⟩
   ·exact .inl (if_neg hb)
  ·by_cases hb:b=a
   ·have z':=(if_pos hb).symm.trans z
    cases z'
    subst hb
    exact⟨ha,by rw[Ck];exact hl,vs,_,rv,ha⟩
   ·have z':=(if_neg hb).symm.trans z
    cases z'
  ·by_cases hb:b=a
   ·exact hb
   ·exact absurd (if_neg hb) z
theorem zBV{l:Qt}{n k:Nat}{q:Bn}{loose:List Str}{XP:(Str->Option Value)->Heap->Prop}{YP:World->Heap->Prop}{d:DefRec}{K:Oi->An}{CX:World->CXT}{sp:World->Sp}{x:Str}
  (hn:l.most=some n) (hn2:n<=sizeLine) (hdf:d.params.defaults=[]) (hr:YJ k Mc)
  (hY: ∀(w:World) (h:Heap),YP w h->(K w.params).In h)
  (F: ∀(w:World) (mg:Str->Option Value) (fa:Addr) (h:Heap),(K w.params).In h->h.Ns mainGlobals mg->mg d.name=some (.ref fa)→
   ∃fd:Et,(∀(s:Ag) (u:Value),Ov s fd ⟨[u],[]⟩ [(x,u)])∧
    ∀base:Heap,(K w.params).In base->base.Ns mainGlobals mg->bJ l.prog w (K w.params) mg base (CX w) k fa fd [x] (sp w))
  (hsp: ∀(w:World) (H:Hp) (a:Addr) (ns:List Int),ns.length<=n->Only H->W8 (K w.params) H a (ns.map V.int)->sp w [.ref a] H (λv _=>v= .bl true) λ_ _ _=>False)
  (hCX: ∀(w:World) (H:Hp) (s:Ag) (e:Value) (s':Ag),CX w [] H s (λ_ _ _=>False) e s'->False):
  W.WalkO q loose XP YP l.row.toRowW d [] (λf vs=>Qf f vs):=by
 refine Att.HN hn hdf λw s₀ s₁ mg mb fa o pm cd doc a vs ns G Y ho hd hcd hmg hobj hints ai hg=> ?_
 have KX:=hY w _ Y
 obtain⟨fd,hb,hF⟩:=F w mg fa _ KX G.T.g hmg
 exact zB3 KX G.T.g G.T.b G.T.builtins G.T.nolimit hg hobj hints (Ei ai hn2) hr hF hb (λH hO hS=>hsp w H a ns ai hO hS) λH e s'=>hCX w H s₁ e s'
theorem BN{l:Qt}{n k:Nat}{q:Bn}{loose:List Str}{XP:(Str->Option Value)->Heap->Prop}{YP:World->Heap->Prop}{d:DefRec}{K:Oi->An}{CX:CXT}{sp:An->Sp}{x:Str}
  (hn:l.most=some n) (hn2:n<=sizeLine) (hdf:d.params.defaults=[]) (hr:YJ k Mc)
  (hY: ∀(w:World) (h:Heap),YP w h->(K w.params).In h)
  (F: ∀(w:World) (mg:Str->Option Value) (fa:Addr) (h:Heap),(K w.params).In h->h.Ns mainGlobals mg->mg d.name=some (.ref fa)→
   ∃fd:Et,(∀(s:Ag) (u:Value),Ov s fd ⟨[u],[]⟩ [(x,u)])∧
    ∀base:Heap,(K w.params).In base->base.Ns mainGlobals mg->bJ l.prog w (K w.params) mg base CX k fa fd [x] (sp (K w.params)))
  (hsp: ∀(K:An) (H:Hp) (a:Addr) (ns:List Int),ns.length<=n->Only H->W8 K H a (ns.map V.int)->sp K [.ref a] H (λv _=>v= .bl true) λ_ _ _=>False)
  (hCX: ∀(H:Hp) (s:Ag) (e:Value) (s':Ag),CX [] H s (λ_ _ _=>False) e s'->False):
  W.WalkO q loose XP YP l.row.toRowW d [] (λf vs=>Qf f vs):=
 zBV (K:=K) (CX:=λ_=>CX) (sp:=λw=>sp (K w.params)) hn hn2 hdf hr hY F (λw H a ns h1 h2 h3=>hsp (K w.params) H a ns h1 h2 h3) λ_ H s e s'=>hCX H s e s'
def ZL(s:Stmt):Arguments:=match s with
 | .FunctionDef _ a _ _ _ _ _ _ _ _=>a
 |_=>{posonlyargs:=[],args:=[],vararg:=none,kwonlyargs:=[],kw_defaults:=[],kwarg:=none,defaults:=[]}
def aA(s:Stmt):List Stmt:=match s with
 | .FunctionDef _ _ b _ _ _ _ _ _ _=>b
 |_=>[]
def c5(s:Stmt):Scope:=match s with
 | .FunctionDef _ _ _ _ _ _ sc _ _ _=>sc
 |_=>{kind:= .function,names:=[],isGenerator:=false,isCoroutine:=false}
abbrev CX0:CXT:=λ_ _ _ _ _ _=>False
abbrev E0:XK:=λ_ _ _=>False
theorem zAL{X:Cx}:FV CX0 X E0:=λ_ _ _ _ _ _ _ h=>h.elim
structure YI(K:An)(x qual:Str)(st:Stmt)(f:Addr)(fd:Et):Prop where
 ex: ∃(oc:Value) (od:Option Addr) (kV doc pm:Value) (an:Option Addr) (cdv ct:Value) (osl:Array (Option Value)),
  fd=Io x qual (ZL st) (aA st) (c5 st) .none kV doc pm an cdv ct/\K.lookup f=some ⟨oc,od,.func fd,osl⟩/\Jk K cdv qual=true
 kp:Gy K (.ref f)=true
section
variable{P:Bn}{w:World}{K:An}{mg:Str->Option Value}{base:Heap}
theorem YI.ok{x qual:Str}{st:Stmt}{f:Addr}{fd:Et}{N ps:List Str}{k:Nat}{sp:Sp}(F:YI K x qual st f fd)(S:cS N ps (c5 st))(len: ∀vs H Q E,sp vs H Q E->vs.length=ps.length)
  (ca: ∀(cdv:Value) (A:Cy) (outer:List Env) (s:Ag) (H:Hp) (vs:List V) (Q:VK) (E:XK),YJ k (A.deeper (Jv qual (c5 st) s.heap.objs.size f cdv))->sp vs H Q E→
   ∃t,PR (KO CX0 P w K mg base N qual (c5 st) f cdv A outer s H E).nox (aA st) t/\t {nx:=λ_ H'=>Q .non H',rt:=Q} (start N vs) H):bJ P w K mg base CX0 (k+1) f fd ps sp:=by
 obtain⟨oc,od,kV,doc,pm,an,cdv,ct,osl,rfl,lk,hcd⟩:=F.ex
 refine zE9 lk hcd S len λA outer s H vs Q E hr hsp=> ?_
 obtain⟨t,h,q⟩:=ca cdv A outer s H vs Q E hr hsp
 exact⟨t,h.nox,q⟩
theorem YI.binds{x qual:Str}{st:Stmt}{f:Addr}{fd:Et}{ps:List Str}(F:YI K x qual st f fd)
  (h: ∀(kV doc pm:Value) (an:Option Addr) (cdv ct:Value) (us:List Value),us.length=ps.length->bindArgs (Io x qual (ZL st) (aA st) (c5 st) .none kV doc pm an cdv ct) ⟨us,[]⟩=pure (ps.zip us)):Q1 K fd ps []:=by
 obtain⟨oc,od,kV,doc,pm,an,cdv,ct,osl,rfl,lk,hcd⟩:=F.ex
 exact .all (h kV doc pm an cdv ct)
theorem zBH{x qual:Str}{st:Stmt}{f:Addr}{oc:Value}{od an:Option Addr}{osl:Array (Option Value)}{kV doc pm cdv ct:Value}(l:K.lookup f=some ⟨oc,od,.func (Io x qual (ZL st) (aA st) (c5 st) .none kV doc pm an cdv ct),osl⟩)
  (c:Jk K cdv qual=true) (k:Gy K (.ref f)=true):YI K x qual st f (Io x qual (ZL st) (aA st) (c5 st) .none kV doc pm an cdv ct):=⟨⟨oc,od,kV,doc,pm,an,cdv,ct,osl,rfl,l,c⟩,k⟩
end
theorem zE8{A:Cy}{k:Nat}(hr:YJ k A):A.units+1<cLine:=Nat.lt_of_le_of_lt (Nat.add_le_add_left (by decide:1<=64) _) hr.units
section
variable{X:Cx}
theorem pv(i:Nat){x:Str}{pos:Pos}(hN:X.N[i]? =some x:=by rfl)(hv:Vis X.env.scope x:=by first|exact Lw rfl|exact Lx (Lw rfl)|exact Lx (Lx rfl))(hd:(x==("__debug__":Str))=false:=by decide)
  (hcd:(x==("__classdict__":Str))=false:=by decide):PE X (.Name x pos) (PN i):=GS hN hv hd hcd
end
theorem PH{A B:Prop}(h:B):if false=true then A else B:=by
 rw[if_neg Dd]
 exact h
theorem PJ{A B:Prop}(h:A):if true=true then A else B:=by
 rw[if_pos rfl]
 exact h
def a8(H H':Hp):Prop:= ∀b o,H b=some o->H' b=some o
theorem a8.refl(H:Hp):a8 H H:=λ_ _ h=>h
theorem a8.trans{H H1 H2:Hp}(a:a8 H H1)(b:a8 H1 H2):a8 H H2:=λc o h=>b c o (a c o h)
theorem a8.seq{K:An}{H H':Hp}{a:Addr}{xs:List V}(e:a8 H H')(h:W8 K H a xs):W8 K H' a xs:=by
 rcases h with(h|⟨o,h⟩)|h
 ·exact .inl (.inl (e _ _ h))
 ·exact .inl (.inr ⟨o,e _ _ h⟩)
 ·exact .inr h
theorem KM{env:Env}{f:Str×NameKind->List (Str×Addr)->Sem (ForInStep (List (Str×Addr)))}
  (hf : ∀ n k r,f (n,k) r = if (k == Bm) = true then (cellOf env n >>= λc => pure (Cp ((n,c) :: r))) else pure (Cp r)) :
  ∀(names:List (Str×NameKind)) (cs:List (Str×Addr)),(∀y∈names,y.2= .free-> ∃c,env.cells.lookup y.1=some c)→
   ∃cl,forIn names cs f=(pure cl:Sem (List (Str×Addr)))/\(∀x c,cl.lookup x=some c->cs.lookup x=some c∨env.cells.lookup x=some c)∧
    (∀x c,cs.lookup x=some c-> ∃c',cl.lookup x=some c')/\ ∀x,(x,Bm)∈names-> ∃c,cl.lookup x=some c
 | [],cs,_ => ⟨cs,rfl,λ_ _ e => .inl e,λ_ c e => ⟨c,e⟩,λ_ h => nomatch h⟩
 | (n,k) :: r,cs,h => by
  have hr: ∀y∈r,y.2= .free-> ∃c,env.cells.lookup y.1=some c:=λy hy=>h y (Ao _ hy)
  by_cases hk:k= .free
  ·subst hk
   obtain⟨c,hc⟩:=h (n,.free) Ba rfl
   have hc:env.cells.lookup n=some c:=hc
   obtain⟨cl,e1,e2,e3,e4⟩:=KM hf r ((n,c)::cs) hr
   refine⟨cl,?_,λx c' e=> ?_,λx c' e=> ?_,λx hx=> ?_⟩
   ·rw [Ir,hf,if_pos (show (Bm == Bm) = true by decide)]
    have ec:cellOf env n=pure c:=by unfold cellOf;rw[hc]
    rw[ec,pure_bind,pure_bind]
    exact e1
   ·rcases e2 x c' e with q|q
    ·by_cases hx:x=n
     ·subst hx
      rw[Dw] at q
      cases q
      exact .inr hc
     ·rw[Cn,beq_eq_false_iff_ne.mpr hx] at q
      exact .inl q
    ·exact .inr q
   ·by_cases hx:x=n
    ·subst hx
     exact e3 x c (Dw ..)
    ·refine e3 x c' ?_
     rw[Cn,beq_eq_false_iff_ne.mpr hx]
     exact e
   ·rcases Aj.mp hx with q|q
    ·cases q
     exact e3 n c (Dw ..)
    ·exact e4 x q
  ·obtain⟨cl,e1,e2,e3,e4⟩:=KM hf r cs hr
   refine⟨cl,?_,e2,e3,λx hx=> ?_⟩
   ·have hb : ¬ (k == Bm) = true := by simpa using hk
    rw[Ir,hf,if_neg hb,pure_bind]
    exact e1
   ·rcases Aj.mp hx with q|q
    ·cases q
     exact absurd rfl hk
    ·exact e4 x q
theorem KN{env:Env}{scope:Scope}(h: ∀y∈scope.names,y.2= .free-> ∃c,env.cells.lookup y.1=some c):
  ∃cl,closureFor scope env=pure cl/\(∀x c,cl.lookup x=some c->env.cells.lookup x=some c)/\ ∀x,(x,Bm)∈scope.names-> ∃c,cl.lookup x=some c:=by
 simp only[closureFor]
 obtain⟨cl,e1,e2,_,e4⟩:=KM (env:=env) (f:=λx r=>match x with
  |(name,kind)=>if(kind==Bm)=true then(cellOf env name>>=λc=>pure (Cp ((name,c)::r))) else pure (Cp r)) (λ_ _ _=>rfl) scope.names [] h
 refine⟨cl,?_,λx c e=> ?_,e4⟩
 ·first
   |exact e1
   |(refine Eq.trans (congrArg (λm=>m>>=pure) e1) ?_;exact pure_bind _ _)
 ·rcases e2 x c e with q|q
  ·cases q
  ·exact q
def bC(ix:List Nat)(σ:St):St:=ix.map λi=>(σ[i]?).join
def PTs(Y:Cx)(ifs:List Expr)(tt:TT):Prop:=
 ∀(aa:List (Addr×Obj)) (s:Ag) (σ:St) (H:Hp) (Q:Bool->Hp->Prop),cN Y aa σ H s->tt σ H Q→
  wpAny (model Y.prog Y.w) Y.A (forIn ifs true λc r=>if r=true then do let ok<- isTrue c Y.env (eval c Y.env);pure (Cp ok) else pure (Cp r)) (TP Y aa σ Q) Y.xe s
def tYes:TT:=λ_ H Q=>Q true H
theorem zCG{Y:Cx}:PTs Y [] tYes:=λ_ _ _ H _ I h=>wpAny_tests_nil ⟨H,I,h⟩
theorem zCF{Y:Cx}{c:Expr}{tt:TT}(h:PT Y c tt):PTs Y [c] tt:=λaa s σ H Q I hw=>wpAny_tests_one (h aa s σ H Q I hw)
structure Blk(Y:Cx)(tg:Expr)(ifs:List Expr)(elt:Expr)(g:TG)(tt:TT)(te:TE):Prop where
 tg:PG Y tg g
 ts:PTs Y ifs tt
 el:PE Y elt te
theorem CM{prog:Bn}{w:World}{A:Cy}{s:Ag}{elt cf iter:Expr}{ifs:List Expr}{scope:Scope}{pos:Pos}{it acc:Value}{env:Env}{R:Ot->Ag->Prop}(I:Nat->Ag->Prop)
  (turn : ∀ n s,I n s -> wpAny (model prog w) A (pyNext it) (λr s₁ => match r with
   | none => R (.ok .next) s₁
   | some v => wpAny (model prog w) A (Er cf it v) (λ_ s₀ => wpAny (model prog w) A (assign cf env v) (λ_ s₂ =>
     wpAny (model prog w) A (forIn ifs true λc r=>if r=true then do let ok<- isTrue c env (eval c env);pure (Cp ok) else pure (Cp r)) (λok s₃=>if ok=true then wpAny (model prog w) A (eval elt env) (λx s₄=>
      wpAny (model prog w) A (call (.builtin "list.append") [acc,x]) (λ_ s₅=> ∃m,m<n/\I m s₅) (λ_ _=>False) s₄) (λ_ _=>False) s₃
      else∃m,m<n/\I m s₃) (λ_ _=>False) s₂)
     (λ_ _=>False) s₀) (λ_ _=>False) s₁) (λ_ _=>False) s)
  (n:Nat) (h:I n s):Fw (model prog w) A (.compLoop (.ListComp elt [⟨cf,iter,ifs,0⟩] scope pos) 0 it acc env) R s:=by
 refine Np rfl I (λn s hI=> ?_) n h
 show wpAny _ A ((Of (.ListComp elt [⟨cf,iter,ifs,0⟩] scope pos) 0 it acc env).onRaise (λx=>do Oy x env;Lj x)) _ _ s
 refine Oz ?_
 rw[compTurn_list]
 refine Aa (Dq (Aa (Av (turn n s hI) (λr s₁ h₁=> ?_) λ_ _ h'=>h'.elim)))
 cases r with
 |none=>exact Ai h₁
 |some v=>
  refine Aa (Av h₁ (λ_ s₀ h₀'=> ?_) λ_ _ h'=>h'.elim)
  refine Aa (Av h₀' (λ_ s₂ h₂=> ?_) λ_ _ h'=>h'.elim)
  refine Aa (Av h₂ (λokb s₃ h₃=> ?_) λ_ _ h'=>h'.elim)
  cases okb with
  |false=>exact Ai ⟨rfl,h₃⟩
  |true=>exact Aa (Aa (Av h₃ (λx s₄ h₄=>Aa (Av h₄ (λ_ s₅ h₅=>Ai (Ai ⟨rfl,h₅⟩)) λ_ _ h'=>h'.elim)) λ_ _ h'=>h'.elim))
section
variable{X:Cx}{aa:List (Addr×Obj)}{σ:St}{H H':Hp}{s s1 s':Ag}{h'':Heap}
theorem cN.offNew{σ':St}{H1:Hp}(I1:cN X aa σ H1 s1)(I':cN X aa σ' H' s')(hn:H' s1.heap.objs.size=none)(sb: ∀b o,b≠s1.heap.objs.size->s'.heap.get? b=some o->h''.get? b=some o):
  cN X aa σ' H' {s' with heap:=h''}:=
 I'.turned (t':=s'.toks) (it:=s1.heap.objs.size) sb hn (Fv I1.lt) (.inr I1.sz)
  (λx c e z => by
   obtain⟨v,q⟩:=I1.cell x c e
   have:=q.lt
   rw[z] at this
   exact Ca _ this)
  λp hp z=>by
   have:=Am (I1.pin p hp).1
   rw[z] at this
   exact Ca _ this
end
def zED(D:Addr)(ix:List Nat)(nl:Nat)(J:It)(g:TG)(tt:TT)(te:TE)(σ:St)(H0:Hp)(Q:Hp->Prop):Prop:=
 ∃W:Nat->Nat->List V->Hp->Prop,(∃m,W 0 m [] (bA H0 D (.lst [])))/\ ∀i m acc H1,W i m acc H1→
  (J.stop i H1/\Q H1)∨
  (J.go i H1/\ ∃N:List V->Hp->Prop,(∀ag H',N ag H'-> ∃m',m'<m/\W (i+1) m' ag H')∧
   ∀x H2,J.yld i H1 x H2->g x (bC ix σ++Be nl none) H2 λσ2 H3=>σ2.take ix.length=bC ix σ∧
    tt σ2 H3 λb H4=>if b=true then te σ2 H4 λv H5=>H5 D=some (.lst acc)/\acc.length<sizeLine/\N (acc++[v]) (bA H5 D (.lst (acc++[v]))) else N acc H4)
theorem VW{env:Env}{x:Str}: ∀{l:List (Str×NameKind)},l.lookup x=some .free→
  (l.map λ(n,k) => if (k == Bm && env.scope.kind == .function && env.kindOf n == some .cell) then (n,Cb) else (n,k)).lookup x = some .cell ∨
  (l.map λ(n,k) => if (k == Bm && env.scope.kind == .function && env.kindOf n == some .cell) then (n,Cb) else (n,k)).lookup x = some .free
 | [],h => by cases h
 | (n,k) :: r,h => by
  show Md x ((if(k==Bm && env.scope.kind== .function && env.kindOf n==some .cell)=true then(n,Cb) else(n,k))::_)=some .cell∨Md x ((if(k==Bm && env.scope.kind== .function && env.kindOf n==some .cell)=true then(n,Cb) else(n,k))::_)=some .free
  by_cases hx:x=n
  ·subst hx
   rw[Dw] at h
   cases h
   by_cases hc:(Bm==Bm && env.scope.kind== .function && env.kindOf x==some .cell)=true
   ·left
    rw[if_pos hc,Dw]
   ·right
    rw[if_neg hc,Dw]
  ·have hb:(x==n)=false:=beq_eq_false_iff_ne.mpr hx
   simp only[Cn,hb] at h
   have ih:=VW (env:=env) h
   by_cases hc:(k==Bm && env.scope.kind== .function && env.kindOf n==some .cell)=true
   ·rw[if_pos hc]
    simp only[Cn,hb]
    exact ih
   ·rw[if_neg hc]
    simp only[Cn,hb]
    exact ih
def FL(ix:List Nat)(nl:Nat)(wi:TI)(g:TG)(tt:TT)(te:TE):TE:=λσ H Q=>wi σ H λJ H0=> ∀D,H0 D=none->zED D ix nl J g tt te σ H0 λH'=>Q (.ref D) H'
mutual
inductive Dp(K:An)(H:Hp):V->Ly->Prop
 |non:Dp K H .non .none
 |bl (b:Bool):Dp K H (.bl b) (.bool b)
 |int (i:Int):Dp K H (.int i) (.int i)
 |str (x:Str):Dp K H (.str x) (.str x)
 |lst {a:Addr} {xs:List V} {ds:List Ly}:W8 K H a xs->NI K H xs ds->Dp K H (.ref a) (.list ds)
 |tup {a:Addr} {xs:List V} {ds:List Ly}:WC K H a xs->NI K H xs ds->Dp K H (.ref a) (.tuple ds)
inductive NI(K:An)(H:Hp):List V->List Ly->Prop
 |nil:NI K H [] []
 |cons {v:V} {vs:List V} {d:Ly} {ds:List Ly}:Dp K H v d->NI K H vs ds->NI K H (v::vs) (d::ds)
end
section
variable{X:Cx}{aa:List (Addr×Obj)}{σ:St}{H:Hp}{s:Ag}
mutual
theorem cN.reads(I:cN X aa σ H s): ∀{v:V} {d:Ly} {u:Value},Dp X.K H v d->bZ v u-> ∃as,Reads s.heap u d as
 |_,_,_,.non,r=>by cases r;exact⟨_,.none⟩
 |_,_,_,.bl b,r=>by cases r;exact⟨_,.bool b⟩
 |_,_,_,.int i,r=>by obtain⟨t,rfl⟩:=r;exact⟨_,.int i t⟩
 |_,_,_,.str x,r=>by obtain⟨t,rfl⟩:=r;exact⟨_,.str x t⟩
 |_,_,_,.lst q all,r=>by
  cases r
  obtain⟨its,rv,⟨o,n,e,c,_,d⟩,_⟩:=I.list q
  obtain⟨as,h⟩:=cN.readsAll I all rv
  exact⟨_,.list e c d (by simpa using h)⟩
 |_,_,_,.tup q all,r=>by
  cases r
  obtain⟨its,rv,⟨o,e,c,n,d⟩,_⟩:=I.tuple q
  obtain⟨as,h⟩:=cN.readsAll I all rv
  exact⟨_,.tuple e c d (by simpa using h)⟩
theorem cN.readsAll(I:cN X aa σ H s): ∀{vs:List V} {ds:List Ly} {us:List Value},NI X.K H vs ds->bT vs us-> ∃as,ReadsAll s.heap us ds as
 | _,_,_,.nil,r => by cases r;exact ⟨_,.nil⟩
 | _,_,_,.cons h t,r => by
  cases r with
  |cons r1 r2=>
   obtain⟨as,h1⟩:=cN.reads I h r1
   obtain⟨bs,h2⟩:=cN.readsAll I t r2
   exact⟨_,.cons h1 h2⟩
end
end
def rEqD(K:An):R2:=λx y H Q=> ∃d e,Dp K H x d/\Dp K H y e/\Ej d=true/\Ej e=true/\Q (.bl (Ih d e)) H
def rNeD(K:An):R2:=λx y H Q=> ∃d e,Dp K H x d/\Dp K H y e/\Ej d=true/\Ej e=true/\Q (.bl (!PyData.eqv d e)) H
section
variable{X:Cx}
theorem zGA(hu:X.A.units+64<cLine):WT X (De .Eq) (rEqD X.K):=by
 intro aa s σ H x y v u Q I rx ry h
 obtain⟨d,e,hd,he,sd,se,q⟩:=h
 obtain⟨as,h1⟩:=I.reads hd rx
 obtain⟨bs,h2⟩:=I.reads he ry
 exact eq_dataH h1 h2 sd se hu (KS I q rfl)
theorem zG8(hu:X.A.units+64<cLine):WT X (De .NotEq) (rNeD X.K):=by
 intro aa s σ H x y v u Q I rx ry h
 obtain⟨d,e,hd,he,sd,se,q⟩:=h
 obtain⟨as,h1⟩:=I.reads hd rx
 obtain⟨bs,h2⟩:=I.reads he ry
 exact ne_dataH h1 h2 sd se hu (KS I q rfl)
def rngP(p:Addr)(a b c:Int):Heap->Prop:=λh=> ∃t u v,IsRange h p a b c t u v
inductive LR:List Kv->List (Str×V)->Prop
 |nil:LR [] []
 |cons {e:Kv} {es:List Kv} {x:Str} {t:Tok} {v:V} {D:List (Str×V)}:e.key= .str x t->bZ v e.val->LR es D->LR (e::es) ((x,v)::D)
def KTab(K:An)(a:Addr)(D:List (Str×V)):Prop:=
 (a==Ex)=false/\ ∃o es ep,K.lookup a=some o/\o.ExactDict/\o.data= .dict es ep/\LR es.toList D
theorem LR.rows{es:List Kv}{D:List (Str×V)}(h:LR es D):KTD.Rows bZ es D:=by
 induction h with
 |nil=>exact .nil
 |cons h1 h2 _ ih=>exact .cons h1 h2 ih
theorem IG{A:Cy}{E:Value->Ag->Prop}{s:Ag}{K:An}{prog:Bn}{w:World}{a:Addr}{D:List (Str×V)}{k:Str}{tk:Tok}{Q:Option Value->Ag->Prop}(hK:K.In s.heap)(T:KTab K a D)
  (h1: ∀d v,Fg k D=some d->bZ d v->Q (some v) {s with toks:=s.toks+1}) (h2:Fg k D=none->Q none {s with toks:=s.toks+1}):
  wpAny (model prog w) A (dictGet a (.str k tk)) Q E s:=by
 obtain⟨_,o,es,ep,ho,hc,hd,hr⟩:=T
 have ho:=hK _ _ ho
 have hr:=hr.rows
 unfold dictGet
 try with_reducible refine Ce ?_
 refine Aa (wpAny_pyHash_str (Aa (KTD.kt_dictFind_strs (s:={s with toks:=s.toks+1}) ho hd (by obtain⟨l⟩:=es;simpa using hr.exact) ?_)))
 have hq:Q (findBy (λk v=>v.isStr k) es k) {s with toks:=s.toks+1}:=by
  have hf:findBy (λk v=>v.isStr k) es k=(es.toList.find? λe=>e.key.isStr k).map (·.val):=by
   obtain⟨l⟩:=es
   simp[findBy]
  rw[hf]
  cases hat:Fg k D with
  |some d=>obtain⟨v,hv,hfl⟩:=hr.find_some hat;rw[hv];exact h1 d v hat hfl
  |none=>rw[hr.find_none hat];exact h2 hat
 rw[findBy_of_findIdx?] at hq
 cases hi:es.findIdx? λe=>e.key.isStr k with
 |none=>rw[hi] at hq;exact Ai hq
 |some i=>rw[hi] at hq;exact Aa (wpAny_dictEntries (s:={s with toks:=s.toks+1}) ho hd (Ai hq))
theorem zD6:B5 X (λx y H Q=> ∃a k D v,x= .ref a/\y= .str k/\KTab X.K a D/\Fg k D=some v/\Q v H):=by
 intro value slice aa s σ H x y v u Q I rx ry h hs
 obtain⟨a,k,D,d,rfl,rfl,T,hk,q⟩:=h
 cases rx
 obtain⟨t,rfl⟩:=ry
 have hT:s.TypeIs (.ref a) "dict":=by
  obtain⟨_,o,es,ep,ho,hc,_⟩:=T
  exact⟨o,I.kIn _ _ ho,hc.1⟩
 have main:wpAny (model X.prog X.w) X.A (Kg (.ref a) (.str k t)) (EP X aa σ Q) X.xe s:=by
  unfold Kg
  try with_reducible refine Ce ?_
  refine Aa (Jw hT (by decide) ?_)
  refine Aa (Di (name:=Bh "__getitem__") hT Jp
   (Ec Jp hT PySem.F.entry_dict_getitem ?_ (PySem.F.args_dict_getitem_2 _ _)))
  show wpAny _ _ (dictGet a (.str k t)>>=_) _ _ s
  exact Aa (IG I.kIn T (λd' v' ha hv=>Ai ⟨v',rfl,Ai (by
   rw[hk] at ha;cases ha
   exact⟨d,H,I.tok _,hv,q⟩)⟩) λhn=>by rw[hk] at hn;cases hn)
 exact Qi hT PySem.F.slot_dict_getitem.lookup main hs
end
section
variable{prog:Bn}{w:World}{A:Cy}{E:Value->Ag->Prop}{s:Ag}
theorem L5{it t:Addr}{items:Array Value}(hne:t≠it): ∀(n i:Nat) (s:Ag) (Q:List Value->Ag->Prop),s.heap.IsListIter it t i->s.heap.IsList t items->i+n<=items.size→
  (∀h',h'.IsListIter it t (i+n)->Ey it s.heap h'->Q ((items.toList.drop i).take n) {s with heap:=h'})->wpAny (model prog w) A (draw (.ref it) n) Q E s
 |0,i,s,Q,hit,_,_,hQ=>by
  show wpAny _ _ (pure []) Q E s
  exact Ai (by simpa using hQ s.heap hit (Heap.SameBut.refl ..))
 |n+1,i,s,Q,hit,ht,hle,hQ=>by
  have hlt:i<items.size:=by lia
  show wpAny _ _ (pyNext (.ref it)>>=_) Q E s
  refine Aa (Kq hit ht (x:=items[i]) (by simp[hlt]) λh₁ hit₁ hs₁=> ?_)
  refine Aa (Ce (L5 hne n (i+1) _ _ hit₁ (ht.extBut hs₁.extBut hne) (by lia) λh₂ hit₂ hs₂=>Ai ?_))
  have hd:items.toList.drop i=items[i]::items.toList.drop (i+1):=by simp[Cv,hlt]
  have:=hQ h₂ (by rw[show i+(n+1)=i+1+n by lia];exact hit₂) (hs₁.trans hs₂)
  rw[hd,Iu] at this
  exact this
theorem QZ{t:Addr}{items:Array Value}{Q:List Value->Ag->Prop}(hh:A.handled=none)(ht:s.heap.IsList t items)
  (hQ: ∀h',Ix s.heap.objs.size s.heap h'->Q items.toList {s with heap:=h'}):wpAny (model prog w) A (Im (.ref t) items.size none) Q E s:=by
 have hlt:t≠s.heap.objs.size:=by obtain⟨o,ho,_⟩:=ht;exact Bf (Am ho)
 unfold Im
 refine Aa ?_
 ·unfold notIterableAtAll
  refine Aa (wpAny_specialOf ht.typeIs PySem.F.slot_list_iter.lookup ?_)
  refine Ai ?_
  simp only[Fd,if_false]
  refine Aa (Ce (Gd ht ?_))
  have htp:(s.heap.push {cls:= .type "list_iterator",data:= .fields #[.ref t,.int 0 0]}).IsList t items:=by
   obtain⟨o,ho,r⟩:=ht
   exact⟨o,Ac _ ho,r⟩
  refine Aa (Ce (L5 hlt items.size 0 _ _ ⟨_,Au _ rfl,rfl,rfl⟩ htp (by lia) λh₁ hit₁ hs₁=> ?_))
  have jr:List.take items.size (List.drop 0 items.toList)=items.toList:=by rw[Jq];exact Cg (by simp)
  rw[jr]
  rw[if_neg (by simp)]
  have ht₁:h₁.IsList t items:=htp.extBut hs₁.extBut hlt
  refine Aa (Ce (Lb hh hit₁ ht₁ (by simp) λh₂ he₂=> ?_))
  simp only[Option.isSome_none,Fd,if_false]
  refine Ai (hQ h₂ λb o hb e=>he₂ b o hb (hs₁.extBut b o hb (Ac _ e)))
theorem Q3{env:Env}{j4:List Expr}{x1}{pos:Pos}{t:Addr}{items:Array Value}{Q:Unit->Ag->Prop}(hh:A.handled=none)(ht:s.heap.IsList t items)
  (hn:(assignEach j4 env).length=items.size) (o7:(assignEach j4 env).findIdx? (·.1)=none)
  (h: ∀h',Ix s.heap.objs.size s.heap h'->wpAny (model prog w) A (assignInOrder ((assignEach j4 env).map (·.2)) items.toList) Q E {s with heap:=h'}):
  wpAny (model prog w) A (assign (.Tuple j4 x1 pos) env (.ref t)) Q E s:=by
 rw[assign_Tuple]
 refine Aa (Dq ?_)
 unfold unpack
 rw[hn,o7]
 exact Aa (Ce (QZ hh ht h))
end
section
variable{X:Cx}{pos:Pos}
def gLst(K:An)(n:Nat)(t:CF):TG:=λv σ H Q=> ∃a xs,v= .ref a/\W8 K H a xs/\xs.length=n/\t xs σ H Q
theorem zFZ{es:List Expr}{k:Nat}{t:CF}{n:Nat}(hc:X.calm=true)(h:D5 X es t)
  (hn:(assignEach es X.env).length=n:=by rfl) (hst:(assignEach es X.env).findIdx? (·.1)=none:=by rfl):PG X (.Tuple es k pos) (gLst X.K n t):=by
 intro aa s σ H v u Q I r hw
 obtain⟨a,xs,e1,hq,hl,hw⟩:=hw
 subst e1
 cases r
 obtain⟨its,rv,ht,hz⟩:=I.list hq
 refine Q3 (I.ok.hd hc) ht.isList (by simp[hn,<- hl,rv.length]) hst λh' hx=> ?_
 have I1:cN X aa σ H {s with heap:=h'}:=I.kept (t':=s.toks) λb o e=>hx b o (Bf (Am e)) e
 exact h aa _ σ H xs _ Q I1 (by simpa using rv) hw
def FnAt(X:Cx)(f:Addr)(sp:Sp):Prop:= ∃(k:Nat) (fd:Et) (ps:List Str),bJ X.prog X.w X.K X.mg X.base CX0 k f fd ps sp/\YJ k X.A/\Gy X.K (.ref f)=true/\Q1 X.K fd ps []
def zEU(X:Cx)(tf:TE)(t:TA):TE:=λσ H Q=>tf σ H λx H1=> ∃f sp,x= .ref f/\FnAt X f sp/\t σ H1 λvs H2=>sp vs H2 Q E0
theorem zAK{x:Str}{p pos:Pos}{e:Expr}{es:List Expr}{tf:TE}{t:TA}(hf:PE X (.Name x p) tf)(ha:PA X (e::es) t)
  (he:Ah (e::es) X.env=(false,eval e X.env)::Ah es X.env:=by rfl) (hpl:(Ez pos (Ah es X.env)).any (·.1)=false:=by rfl):
  PE X (.Call (.Name x p) (e::es) [] pos) (zEU X tf t):=by
 intro aa s σ H Q I h
 refine Fc (ZG (hf aa s σ H _ I h) λu s1 ⟨x,H1,I1,rx,f,sp,ex,F,q⟩=> ?_)
 subst ex
 obtain rfl:u=Bq f:=rx
 obtain⟨k,fd,ps,F,hr,hk,hb⟩:=F
 refine W.callWith_K (h₀:=X.base) I.ok.mod.kin hk (ZG (ha pos aa s1 σ H1 _ I1 q) λus s2 ⟨vs,H2,I2,r,q2⟩=>⟨I2.kIn,?_⟩) he hpl
 refine AF (dvs:=[]) (ds:=[]) F hr hb .nil zAL I2 r ?_
 rw[Dn]
 exact q2
end
section
variable{X:Cx}{K:An}
theorem zK9(h:X.K=K):Z4 X (.type "list") (λxs H Q=> ∃p ys,xs=[.ref p]/\(W8 K H p ys∨WC K H p ys)/\ ∀l,H l=none->Q (.ref l) (bA H l (.lst ys))):=by subst h;exact KH
theorem zHV(h:X.K=K):Z4 X (.type "tuple") (λxs H Q=> ∃p ys,xs=[.ref p]/\((W8 K H p ys/\ ∀l,H l=none->Q (.ref l) (bA H l (.tup ys)))∨(WC K H p ys/\Q (.ref p) H))):=by subst h;exact M9
theorem kEqD(h:X.K=K)(hu:X.A.units+64<cLine):WT X (De .Eq) (rEqD K):=by subst h;exact zGA hu
theorem N6(h:X.K=K)(hu:X.A.units+64<cLine):WT X (De .NotEq) (rNeD K):=by subst h;exact zG8 hu
theorem zE3(h:X.K=K){es:List Expr}{k:Nat}{t:CF}{n:Nat}{pos:Pos}(hc:X.calm=true)(hg:D5 X es t)(hn:(assignEach es X.env).length=n:=by rfl)(hst:(assignEach es X.env).findIdx? (·.1)=none:=by rfl):PG X (.Tuple es k pos) (gTup K n t):=by subst h;exact zFX hc hg hn hst
theorem zK8(h:X.K=K){es:List Expr}{k:Nat}{t:CF}{n:Nat}{pos:Pos}(hc:X.calm=true)(hg:D5 X es t)(hn:(assignEach es X.env).length=n:=by rfl)(hst:(assignEach es X.env).findIdx? (·.1)=none:=by rfl):PG X (.Tuple es k pos) (gLst K n t):=by subst h;exact zFZ hc hg hn hst
theorem zB5(h:X.K=K){tg l:Expr}{tl:TE}(hl:PE X l tl):PI X tg l (zE7 K tl):=by subst h;exact zCN hl
theorem zE2(h:X.K=K){tg l:Expr}{tl:TE}(hl:PE X l tl):PI X tg l (iTup K tl):=by subst h;exact zFW hl
theorem kBm(h:X.K=K){o e:Expr}{es:List Expr}{to:TE}{t:TA}{name:Str}{aq af:Pos}{T id:String}{r:V->List V->Hp->VK->Prop}(pa:PlainAttrs T)(slot:Slot T name id)(hty:typeOf (.builtin id)=pure (.type "method_descriptor")) (hm:MtR X id r) (ho:PE X o to) (ha:PA X (e::es) t)
  (cq : Ha o name X.env (eval o X.env) = eval o X.env := by rfl)
  (ee : ((Ez af (Ah (e :: es) X.env)).all (λx => !x.1) && (Mm af (Ip [] X.env)).all (λx => x.1.isSome)
   && decide ((e::es).length+([]:List Iq).length+(if([]:List Iq).isEmpty then 0 else 1)<30))=true:=by rfl)
  (cm:(aq.endLine==af.line)=true:=by rfl) (hs:Ah (e::es) X.env=(false,eval e X.env)::Ah es X.env:=by rfl) (bp:(Ez af (Ah es X.env)).any (·.1)=false:=by rfl):
  PE X (.Call (.Attribute o name aq) (e::es) [] af) (tBM K T r to t):=by
 subst h;exact zJN pa slot hty hm ho ha cq ee cm hs bp
end
theorem zIC:Bg "len"=some (.builtin "len"):=by decide+kernel
theorem F1:Bg "min"=some (.builtin "min"):=by decide+kernel
theorem zBQ:Bg "max"=some (.builtin "max"):=by decide+kernel
theorem CH:Bg "sorted"=some (.builtin "sorted"):=by decide+kernel
theorem M7:Bg "isinstance"=some (.builtin "isinstance"):=by decide+kernel
theorem TR:Bg "list"=some (.type "list"):=by decide+kernel
theorem XU:Bg "tuple"=some (.type "tuple"):=by decide+kernel
theorem zBP:Bg "range"=some (.type "range"):=by decide+kernel
theorem zDE:Bg "bool"=some (.type "bool"):=by decide+kernel
theorem zID:Bg "int"=some (.type "int"):=by decide+kernel
theorem zIB:Bg "str"=some (.type "str"):=by decide+kernel
structure Def(P:Bn)(w:World)(K:An)(mg:Str->Option Value)(base:Heap)(x:Str)(k:Nat)(ps:List Str)(sp:Sp)(f:Addr):Prop where
 at_:mg x=some (.ref f)
 ok: ∃fd,bJ P w K mg base CX0 k f fd ps sp/\Q1 K fd ps []
 kp:Gy K (.ref f)=true
section
variable{X:Cx}{x:Str}{k j:Nat}{ps:List Str}{sp:Sp}{f:Addr}{p pos:Pos}{e:Expr}{es:List Expr}{t:TA}
theorem IZ(D:Def X.prog X.w X.K X.mg X.base x k ps sp f)(hr:YJ j X.A)(hk:k<=j)(hg:Gl X x)(ha:PA X (e::es) t)(hdb:(x==("__debug__":Str))=false:=by decide)
  (he:Ah (e::es) X.env=(false,eval e X.env)::Ah es X.env:=by rfl) (hpl:(Ez pos (Ah es X.env)).any (·.1)=false:=by rfl):
  PE X (.Call (.Name x p) (e::es) [] pos) (AZ sp [] E0 t):=by
 obtain⟨fd,F,B⟩:=D.ok
 exact EV F (hr.mono hk) hg D.at_ D.kp B .nil zAL ha hdb he hpl
theorem Def.fnAt(D:Def X.prog X.w X.K X.mg X.base x k ps sp f)(hr:YJ j X.A)(hk:k<=j):FnAt X f sp:=by
 obtain⟨fd,F,B⟩:=D.ok
 exact⟨k,fd,ps,F,hr.mono hk,D.kp,B⟩
end
theorem cZ{H:Hp}{p:Addr}{o:HO}(hp:H p=none):a8 H (bA H p o):=λb o' e=>by
 rw[bQ (X8 e hp)]
 exact e
theorem JO(ns:List Int):Ej (.list (ns.map Nc))=true:=by
 have h1:Fo (.list (ns.map Nc))=true:=by simp only[Fo,canLayAll_ints]
 have h2:Hu (.list (ns.map Nc))<=64:=by
  simp only[Hu,depthAll_ints]
  decide
 unfold Ej
 rw[h1,decide_eq_true h2]
 rfl
inductive dE where
 |non|bl (b:Bool)|int (i:Int)|str (x:Str)|ty (n:String)|fn (x:Str)|tup (ds:List dE)|lst (ds:List dE)|dct (ks:List aR) (ds:List dE)|exn (x:Str)
def FzL(K:An)(H:Hp)(a:Addr)(xs:List V):Prop:=
 (∃o,H a=some (.frz o (.lst xs)))∨
  ∃(o:Obj) (its:Array Value) (n:Nat),K.lookup a=some o/\o.cls= .type "list" /\o.dict=none/\o.data= .seq its n/\its.size<=sizeLine/\bT xs its.toList
theorem FzL.sq{K:An}{H:Hp}{a:Addr}{xs:List V}(h:FzL K H a xs):W8 K H a xs:=by
 rcases h with⟨o,h⟩|h
 ·exact .inl (.inr ⟨o,h⟩)
 ·exact .inr h
def zKY(h:Heap)(a C:Addr):Prop:= ∃o vs,h.get? a=some o/\o.cls= .ref C/\o.data= .fields vs
mutual
inductive bG(K:An)(N:Addr->Prop)(H:Hp):(Addr->Prop)->V->dE->Prop
 |non {M:Addr->Prop}:bG K N H M .non .non
 |bl {M:Addr->Prop} (b:Bool):bG K N H M (.bl b) (.bl b)
 |int {M:Addr->Prop} (i:Int):bG K N H M (.int i) (.int i)
 |str {M:Addr->Prop} (x:Str):bG K N H M (.str x) (.str x)
 |ty {M:Addr->Prop} (n:String):bG K N H M (.ty n) (.ty n)
 |fn {M:Addr->Prop} {a:Addr} {x:Str}:Lk K mainGlobals x=some (some (.ref a))->bG K N H M (.ref a) (.fn x)
 |tup {M:Addr->Prop} {a:Addr} {xs:List V} {ds:List dE}:WC K H a xs->cO K N H xs ds->bG K N H M (.ref a) (.tup ds)
 |lst {M:Addr->Prop} {a:Addr} {xs:List V} {ds:List dE}:H a=some (.lst xs)-> ¬M a->cO K N H xs ds->bG K N H M (.ref a) (.lst ds)
 |fzl {M:Addr->Prop} {a:Addr} {xs:List V} {ds:List dE}:FzL K H a xs->cO K N H xs ds->bG K N H M (.ref a) (.lst ds)
 |dct {M:Addr->Prop} {a:Addr} {kvs:List (aR×V)} {ds:List dE}:H a=some (.dK kvs)-> ¬M a->cO K N H (kvs.map Eg) ds->bG K N H M (.ref a) (.dct (kvs.map Dj) ds)
 |ktb {M:Addr->Prop} {a:Addr} {D:List (Str×V)} {ds:List dE}:KTab K a D->cO K N H (D.map Eg) ds->bG K N H M (.ref a) (.dct (D.map λp=> .inr p.1) ds)
 |exn {M:Addr->Prop} {a C:Addr} {x:Str} {φ:Heap->Prop}:Lk K mainGlobals x=some (some (.ref C))->H a=some (.ext φ)->(∀h,φ h->zKY h a C)->bG K N H M (.ref a) (.exn x)
inductive cO(K:An)(N:Addr->Prop)(H:Hp):List V->List dE->Prop
 |nil:cO K N H [] []
 |cons {v:V} {vs:List V} {d:dE} {ds:List dE}:bG K N H N v d->cO K N H vs ds->cO K N H (v::vs) (d::ds)
end
def Hard:HO->Prop
 | .tup _=>True
 | .frz _ _=>True
 | .ext _=>True
 |_=>False
def Fr(P:Addr->Prop)(H H':Hp):Prop:= ∀b o,H b=some o->(P b->Hard o)->H' b=some o
theorem Fr.refl(P:Addr->Prop)(H:Hp):Fr P H H:=λ_ _ h _=>h
theorem Fr.trans{P:Addr->Prop}{H H1 H2:Hp}(a:Fr P H H1)(b:Fr P H1 H2):Fr P H H2:=λc o h n=>b c o (a c o h n) n
theorem Fr.mono{P P':Addr->Prop}{H H':Hp}(a:Fr P H H')(h: ∀b,P b->P' b):Fr P' H H':=λc o e n=>a c o e λz=>n (h c z)
theorem a8.fr{P:Addr->Prop}{H H':Hp}(a:a8 H H'):Fr P H H':=λc o h _=>a c o h
section
variable{K:An}{N N' M M' P:Addr->Prop}{H H':Hp}
theorem Fr.tup(f:Fr P H H'){a:Addr}{xs:List V}(h:WC K H a xs):WC K H' a xs:=by
 rcases h with(h|⟨o,h⟩)|h
 ·exact .inl (.inl (f _ _ h λ_=>trivial))
 ·exact .inl (.inr ⟨o,f _ _ h λ_=>trivial⟩)
 ·exact .inr h
theorem Fr.fzl(f:Fr P H H'){a:Addr}{xs:List V}(h:FzL K H a xs):FzL K H' a xs:=by
 rcases h with⟨o,h⟩|h
 ·exact .inl ⟨o,f _ _ h λ_=>trivial⟩
 ·exact .inr h
mutual
theorem bG.fr(f:Fr P H H')(hN: ∀a,P a->N a): ∀{M:Addr->Prop} {v:V} {d:dE},(∀a,P a->M a)->bG K N H M v d->bG K N H' M v d
 |_,_,_,_,.non=> .non
 |_,_,_,_,.bl b=> .bl b
 |_,_,_,_,.int i=> .int i
 |_,_,_,_,.str x=> .str x
 |_,_,_,_,.ty n=> .ty n
 |_,_,_,_,.fn h=> .fn h
 |_,_,_,_,.tup q r=> .tup (f.tup q) (cO.fr f hN r)
 |_,_,_,hM,.lst q n r=> .lst (f _ _ q λz=>absurd (hM _ z) n) n (cO.fr f hN r)
 |_,_,_,_,.fzl q r=> .fzl (f.fzl q) (cO.fr f hN r)
 |_,_,_,hM,.dct q n r=> .dct (f _ _ q λz=>absurd (hM _ z) n) n (cO.fr f hN r)
 |_,_,_,_,.ktb q r=> .ktb q (cO.fr f hN r)
 |_,_,_,_,.exn p q r=> .exn p (f _ _ q λ_=>trivial) r
theorem cO.fr(f:Fr P H H')(hN: ∀a,P a->N a): ∀{vs:List V} {ds:List dE},cO K N H vs ds->cO K N H' vs ds
 |_,_,.nil=> .nil
 |_,_,.cons h t=> .cons (bG.fr f hN hN h) (cO.fr f hN t)
end
mutual
theorem bG.mono(hN: ∀a,N' a->N a): ∀{M M':Addr->Prop} {v:V} {d:dE},(∀a,M' a->M a)->bG K N H M v d->bG K N' H M' v d
 |_,_,_,_,_,.non=> .non
 |_,_,_,_,_,.bl b=> .bl b
 |_,_,_,_,_,.int i=> .int i
 |_,_,_,_,_,.str x=> .str x
 |_,_,_,_,_,.ty n=> .ty n
 |_,_,_,_,_,.fn h=> .fn h
 |_,_,_,_,_,.tup q r=> .tup q (cO.mono hN r)
 |_,_,_,_,hM,.lst q n r=> .lst q (λz=>n (hM _ z)) (cO.mono hN r)
 |_,_,_,_,_,.fzl q r=> .fzl q (cO.mono hN r)
 |_,_,_,_,hM,.dct q n r=> .dct q (λz=>n (hM _ z)) (cO.mono hN r)
 |_,_,_,_,_,.ktb q r=> .ktb q (cO.mono hN r)
 |_,_,_,_,_,.exn p q r=> .exn p q r
theorem cO.mono(hN: ∀a,N' a->N a): ∀{vs:List V} {ds:List dE},cO K N H vs ds->cO K N' H vs ds
 |_,_,.nil=> .nil
 |_,_,.cons h t=> .cons (bG.mono hN hN h) (cO.mono hN t)
end
theorem bG.same(f:a8 H H'){v:V}{d:dE}(h:bG K N H M v d):bG K N H' M v d:=h.fr f.fr (λ_ z=>z.elim) (P:=λ_=>False) λ_ z=>z.elim
theorem cO.same(f:a8 H H'){vs:List V}{ds:List dE}(h:cO K N H vs ds):cO K N H' vs ds:=h.fr f.fr (P:=λ_=>False) λ_ z=>z.elim
theorem cO.length: ∀{vs:List V} {ds:List dE},cO K N H vs ds->vs.length=ds.length
 |_,_,.nil=>rfl
 |_,_,.cons _ t=>congrArg (· +1) (cO.length t)
theorem cO.append: ∀{vs ws:List V} {ds es:List dE},cO K N H vs ds->cO K N H ws es->cO K N H (vs++ws) (ds++es)
 |_,_,_,_,.nil,s=>s
 |_,_,_,_,.cons h t,s=> .cons h (cO.append t s)
theorem cO.get: ∀{vs:List V} {ds:List dE} {i:Nat} {d:dE},cO K N H vs ds->ds[i]? =some d-> ∃v,vs[i]? =some v/\bG K N H N v d
 |_,_,_,_,.nil,e=>by simp at e
 |_,_,0,_,.cons r _,e=>by simp at e;subst e;exact⟨_,rfl,r⟩
 |_,_,i+1,x,.cons _ t,e=>by
  obtain⟨u,h1,h2⟩:=cO.get (i:=i) (d:=x) t (by simpa using e)
  exact⟨u,by simpa using h1,h2⟩
theorem cO.take: ∀{vs:List V} {ds:List dE} (n:Nat),cO K N H vs ds->cO K N H (vs.take n) (ds.take n)
 |_,_,0,_=> .nil
 |_,_,_+1,.nil=> .nil
 |_,_,n+1,.cons r t=> .cons r (cO.take n t)
theorem cO.drop: ∀{vs:List V} {ds:List dE} (n:Nat),cO K N H vs ds->cO K N H (vs.drop n) (ds.drop n)
 |_,_,0,r=>r
 |_,_,_+1,.nil=> .nil
 |_,_,n+1,.cons _ t=>cO.drop n t
theorem cO.set{v:V}{d:dE}(h:bG K N H N v d): ∀{vs:List V} {ds:List dE} (i:Nat),cO K N H vs ds->cO K N H (vs.set i v) (ds.set i d)
 |_,_,_,.nil=> .nil
 |_,_,0,.cons _ t=> .cons h t
 |_,_,i+1,.cons q t=> .cons q (cO.set h i t)
theorem cO.snoc{vs:List V}{ds:List dE}{v:V}{d:dE}(r:cO K N H vs ds)(h:bG K N H N v d):cO K N H (vs++[v]) (ds++[d]):=r.append (.cons h .nil)
end
mutual
def dE.isD:dE->Bool
 | .non=>true
 | .bl _=>true
 | .int _=>true
 | .str _=>true
 | .ty _=>false
 | .fn _=>false
 | .tup ds=>ND ds
 | .lst ds=>ND ds
 | .dct _ _=>false
 | .exn _=>false
def ND:List dE->Bool
 |[]=>true
 |d::ds=>d.isD && ND ds
end
mutual
def dE.pd:dE->Ly
 | .non=> .none
 | .bl b=> .bool b
 | .int i=> .int i
 | .str x=> .str x
 | .ty _=> .none
 | .fn _=> .none
 | .tup ds=> .tuple (BY ds)
 | .lst ds=> .list (BY ds)
 | .dct _ _=> .none
 | .exn _=> .none
def BY:List dE->List Ly
 |[]=>[]
 |d::ds=>d.pd::BY ds
end
mutual
def dE.hard:dE->Bool
 | .tup ds=>VA ds
 | .lst _=>false
 | .dct _ _=>false
 |_=>true
def VA:List dE->Bool
 |[]=>true
 |d::ds=>d.hard && VA ds
end
section
variable{K:An}{N:Addr->Prop}{H:Hp}
mutual
theorem bG.dp: ∀{M:Addr->Prop} {v:V} {d:dE},bG K N H M v d->d.isD=true->Dp K H v d.pd
 |_,_,_,.non,_=> .non
 |_,_,_,.bl b,_=> .bl b
 |_,_,_,.int i,_=> .int i
 |_,_,_,.str x,_=> .str x
 |_,_,_,.ty n,h=>by simp[dE.isD] at h
 |_,_,_,.fn _,h=>by simp[dE.isD] at h
 |_,_,_,.tup q r,h=> .tup q (cO.dp r (by simpa[dE.isD] using h))
 |_,_,_,.lst q n r,h=> .lst (W8.of q) (cO.dp r (by simpa[dE.isD] using h))
 |_,_,_,.fzl q r,h=> .lst q.sq (cO.dp r (by simpa[dE.isD] using h))
 |_,_,_,.dct _ _ _,h=>by simp[dE.isD] at h
 |_,_,_,.ktb _ _,h=>by simp[dE.isD] at h
 |_,_,_,.exn _ _ _,h=>by simp[dE.isD] at h
theorem cO.dp: ∀{vs:List V} {ds:List dE},cO K N H vs ds->ND ds=true->NI K H vs (BY ds)
 |_,_,.nil,_=> .nil
 |_,_,.cons h t,e=> .cons (bG.dp h (by simp[ND] at e;exact e.1)) (cO.dp t (by simp[ND] at e;exact e.2))
end
mutual
theorem bG.hard{N':Addr->Prop}: ∀{M M':Addr->Prop} {v:V} {d:dE},bG K N H M v d->d.hard=true->bG K N' H M' v d
 |_,_,_,_,.non,_=> .non
 |_,_,_,_,.bl b,_=> .bl b
 |_,_,_,_,.int i,_=> .int i
 |_,_,_,_,.str x,_=> .str x
 |_,_,_,_,.ty n,h=> .ty n
 |_,_,_,_,.fn q,h=> .fn q
 |_,_,_,_,.tup q r,h=> .tup q (cO.hard r (by simpa[dE.hard] using h))
 |_,_,_,_,.lst q n r,h=>by simp[dE.hard] at h
 |_,_,_,_,.fzl q r,h=>by simp[dE.hard] at h
 |_,_,_,_,.dct _ _ _,h=>by simp[dE.hard] at h
 |_,_,_,_,.ktb _ _,h=>by simp[dE.hard] at h
 |_,_,_,_,.exn p q r,_=> .exn p q r
theorem cO.hard{N':Addr->Prop}: ∀{vs:List V} {ds:List dE},cO K N H vs ds->VA ds=true->cO K N' H vs ds
 |_,_,.nil,_=> .nil
 |_,_,.cons h t,e=> .cons (bG.hard h (by simp[VA] at e;exact e.1)) (cO.hard t (by simp[VA] at e;exact e.2))
end
end
inductive Sl where
 |no|va (d:dE)|ow (d:dE)
abbrev Ev:=List Sl
structure Bs where
 Z:Addr->Prop
 P:Addr->Prop
 H0:Hp
 mu:Nat->Option Addr
 kp:List (V×dE)
def Nn(B:Bs)(O:Nat->Option Addr):Addr->Prop:=λa=>B.Z a∨ ∃i,O i=some a
def OA(O:Nat->Option Addr):Addr->Prop:=λa=> ∃i,O i=some a
inductive QC(K:An)(N:Addr->Prop)(H:Hp)(a:Addr):dE->Prop
 |lst {xs:List V} {ds:List dE}:H a=some (.lst xs)->cO K N H xs ds->QC K N H a (.lst ds)
 |dct {kvs:List (aR×V)} {ds:List dE}:H a=some (.dK kvs)->cO K N H (kvs.map Eg) ds->QC K N H a (.dct (kvs.map Dj) ds)
theorem QC.fr{K:An}{N P:Addr->Prop}{H H':Hp}{a:Addr}{d:dE}(f:Fr P H H')(hN: ∀a,P a->N a)(ha: ¬P a):QC K N H a d->QC K N H' a d
 | .lst q r=> .lst (f _ _ q λz=>absurd z ha) (r.fr f hN)
 | .dct q r=> .dct (f _ _ q λz=>absurd z ha) (r.fr f hN)
theorem QC.mono{K:An}{N N':Addr->Prop}{H:Hp}{a:Addr}{d:dE}(h: ∀b,N' b->N b):QC K N H a d->QC K N' H a d
 | .lst q r=> .lst q (r.mono h)
 | .dct q r=> .dct q (r.mono h)
theorem QC.soft{K:An}{N:Addr->Prop}{H:Hp}{a:Addr}{d:dE}(h:QC K N H a d): ∃o,H a=some o/\¬Hard o:=by
 cases h with
 |lst q _=>exact⟨_,q,λz=>z⟩
 |dct q _=>exact⟨_,q,λz=>z⟩
theorem QC.rep{K:An}{N M:Addr->Prop}{H:Hp}{a:Addr}{d:dE}(h:QC K N H a d)(hM: ¬M a):bG K N H M (.ref a) d:=by
 cases h with
 |lst q r=>exact .lst q hM r
 |dct q r=>exact .dct q hM r
structure aS(K:An)(ml:List Nat)(B:Bs)(O:Nat->Option Addr)(H:Hp)(σ:St)(δ:Ev):Prop where
 len:σ.length=δ.length
 va: ∀(i:Nat) (d:dE),δ[i]? =some (Sl.va d)-> ∃v,σ[i]? =some (some v)/\bG K (Nn B O) H (Nn B O) v d
 ow: ∀(i:Nat) (d:dE),δ[i]? =some (Sl.ow d)-> ∃a,O i=some a/\σ[i]? =some (some (.ref a))/\QC K (Nn B O) H a d
 dom: ∀(i:Nat) a,O i=some a-> ∃d,δ[i]? =some (Sl.ow d)
 inj: ∀i j a,O i=some a->O j=some a->i=j
 old: ∀i a,O i=some a-> ¬B.Z a/\(B.P a∨B.H0 a=none)
 zin: ∀a,B.Z a-> ∃o,H a=some o
 frm:Fr B.P B.H0 H
 par:(∀i a,B.mu i=some a->i∈ml)/\ ∀i∈ml,O i=B.mu i
 pin: ∀a,B.P a-> ∃o,H a=some o
 kep: ∀p∈B.kp,bG K (Nn B O) H (Nn B O) p.1 p.2
section
variable{K:An}{ml:List Nat}{B:Bs}{O:Nat->Option Addr}{H H':Hp}{σ:St}{δ δ':Ev}
theorem aS.nin(S:aS K ml B O H σ δ){a:Addr}(h:Nn B O a): ∃o,H a=some o:=by
 rcases h with h|⟨i,h⟩
 ·exact S.zin a h
 ·obtain⟨d,e⟩:=S.dom i a h
  obtain⟨a',e1,_,w⟩:=S.ow i d e
  rw[h] at e1
  cases e1
  obtain⟨o,q,_⟩:=w.soft
  exact⟨o,q⟩
theorem aS.new(S:aS K ml B O H σ δ){a:Addr}(h:H a=none): ¬Nn B O a:=λz=>by
 obtain⟨o,q⟩:=S.nin z
 rw[h] at q
 cases q
theorem aS.same(S:aS K ml B O H σ δ)(f:a8 H H'):aS K ml B O H' σ δ where
 len:=S.len
 va:=λi d e=>let ⟨v,a,b⟩:=S.va i d e;⟨v,a,b.same f⟩
 ow:=λi d e=>let ⟨a,b,c,w⟩:=S.ow i d e;⟨a,b,c,w.fr (P:=λ_=>False) f.fr (λ_ z=>z.elim) λz=>z⟩
 dom:=S.dom
 inj:=S.inj
 old:=S.old
 zin:=λa h=>let ⟨o,q⟩:=S.zin a h;⟨o,f _ _ q⟩
 frm:=S.frm.trans f.fr
 par:=S.par
 pin:=λa h=>let ⟨o,q⟩:=S.pin a h;⟨o,f _ _ q⟩
 kep:=λp h=>(S.kep p h).same f
theorem aS.fresh(S:aS K ml B O H σ δ){a:Addr}(h:H a=none):B.H0 a=none:=by
 cases q:B.H0 a with
 | none => rfl
 |some o=>
  by_cases hp:B.P a
  ·obtain⟨o',e⟩:=S.pin a hp
   rw[h] at e
   cases e
  ·have := S.frm a o q λz => absurd z hp
   rw[h] at this
   cases this
def Bs.add(B:Bs)(p:Addr):Bs:={B with Z:=λa=>B.Z a∨a=p}
theorem SJ{p:Addr}: ∀a,Nn B O a->Nn (B.add p) O a:=λa h=>by
 rcases h with h|h
 ·exact .inl (.inl h)
 ·exact .inr h
mutual
theorem bG.away{p:Addr}(hp:H p=none)(N N':Addr->Prop)(hN: ∀a,N' a->N a∨a=p): ∀{M M':Addr->Prop} {v:V} {d:dE},(∀a,M' a->M a∨a=p)->bG K N H M v d->bG K N' H M' v d
 |_,_,_,_,_,.non=> .non
 |_,_,_,_,_,.bl b=> .bl b
 |_,_,_,_,_,.int i=> .int i
 |_,_,_,_,_,.str x=> .str x
 |_,_,_,_,_,.ty n=> .ty n
 |_,_,_,_,_,.fn h=> .fn h
 |_,_,_,_,_,.tup q r=> .tup q (cO.away hp N N' hN r)
 |_,_,_,_,hM,.lst q n r=> .lst q (λz=>by rcases hM _ z with z|z;exact n z;rw[z,hp] at q;cases q) (cO.away hp N N' hN r)
 |_,_,_,_,_,.fzl q r=> .fzl q (cO.away hp N N' hN r)
 |_,_,_,_,hM,.dct q n r=> .dct q (λz=>by rcases hM _ z with z|z;exact n z;rw[z,hp] at q;cases q) (cO.away hp N N' hN r)
 |_,_,_,_,_,.ktb q r=> .ktb q (cO.away hp N N' hN r)
 |_,_,_,_,_,.exn p q r=> .exn p q r
theorem cO.away{p:Addr}(hp:H p=none)(N N':Addr->Prop)(hN: ∀a,N' a->N a∨a=p): ∀{vs:List V} {ds:List dE},cO K N H vs ds->cO K N' H vs ds
 |_,_,.nil=> .nil
 |_,_,.cons h t=> .cons (bG.away hp N N' hN hN h) (cO.away hp N N' hN t)
end
theorem WP{p:Addr}: ∀a,Nn (B.add p) O a->Nn B O a∨a=p:=λa h=>by
 rcases h with(h|h)|h
 ·exact .inl (.inl h)
 ·exact .inr h
 ·exact .inl (.inr h)
theorem aS.laid(S:aS K ml B O H σ δ){p:Addr}{o:HO}(hp:H p=none):aS K ml (B.add p) O (bA H p o) σ δ where
 len:=S.len
 va:=λi d e=>let ⟨v,a,b⟩:=S.va i d e;⟨v,a,(b.away hp _ _ WP WP).same (cZ hp)⟩
 ow:=λi d e=>by
  obtain⟨a,b,c,w⟩:=S.ow i d e
  refine⟨a,b,c,?_⟩
  have hne: ∀o,H a=some o->bA H p o=bA H p o:=λ_ _=>rfl
  cases w with
  |lst q r=>exact .lst (cZ hp _ _ q) ((r.away hp _ _ WP).same (cZ hp))
  |dct q r=>exact .dct (cZ hp _ _ q) ((r.away hp _ _ WP).same (cZ hp))
 dom:=S.dom
 inj:=S.inj
 old:=λi a h=>by
  refine⟨λz=> ?_,(S.old i a h).2⟩
  rcases z with z|z
  ·exact(S.old i a h).1 z
  ·obtain⟨o,q⟩:=S.nin (.inr ⟨i,h⟩)
   rw[z,hp] at q
   cases q
 zin:=λa h=>by
  rcases h with h|h
  ·obtain⟨o,q⟩:=S.zin a h
   exact⟨o,cZ hp _ _ q⟩
  ·exact⟨_,by rw[h];exact cH⟩
 frm:=S.frm.trans (cZ hp).fr
 par:=S.par
 pin:=λa h=>let ⟨o,q⟩:=S.pin a h;⟨o,cZ hp _ _ q⟩
 kep:=λp h=>((S.kep p h).away hp _ _ WP WP).same (cZ hp)
theorem P0{i:Nat}{o:Option Addr}: ∀a,Nn B (λj=>if j=i then none else O j) a->Nn B O a:=λa h=>by
 rcases h with h|⟨j,h⟩
 ·exact .inl h
 ·refine .inr ⟨j,?_⟩
  by_cases hj:j=i
  ·simp[hj] at h
  ·simpa[hj] using h
theorem UA{α:Type}{l:List α}{i j:Nat}{x y:α}(h:(l.set i x)[j]? =some y):(j=i/\y=x/\i<l.length)∨(j≠i/\l[j]? =some y):=by
 by_cases hj:j=i
 ·subst hj
  rw[List.getElem?_set_self'] at h
  cases q:l[j]? with
  |none=>rw[q] at h;cases h
  |some z=>
   rw[q] at h
   cases h
   exact .inl ⟨rfl,rfl,(Ad.mp q).1⟩
 ·rw[By (Dk hj)] at h
  exact .inr ⟨hj,h⟩
theorem aS.setVa(S:aS K ml B O H σ δ){i:Nat}{v:V}{d:dE}(hm:i∉ml)(h:bG K (Nn B O) H (Nn B O) v d):aS K ml B (λj=>if j=i then none else O j) H (σ.set i (some v)) (δ.set i (.va d)) where
 len:=by rw[Cj,Cj,S.len]
 va:=λj e q=>by
  rcases UA q with⟨rfl,z,hl⟩|⟨hj,q⟩
  ·cases z
   exact⟨v,by rw[Cz (by rw[S.len];exact hl)],h.mono (P0 (o:=none)) (P0 (o:=none))⟩
  ·obtain⟨u,e1,r⟩:=S.va j e q
   exact⟨u,by rw[By (Dk hj)];exact e1,r.mono (P0 (o:=none)) (P0 (o:=none))⟩
 ow:=λj e q=>by
  rcases UA q with⟨rfl,z,hl⟩|⟨hj,q⟩
  ·cases z
  ·obtain⟨a,e1,e2,w⟩:=S.ow j e q
   exact⟨a,by simpa[hj] using e1,by rw[By (Dk hj)];exact e2,w.mono (P0 (o:=none))⟩
 dom:=λj a e=>by
  by_cases hj:j=i
  ·simp[hj] at e
  ·obtain ⟨d,q⟩ := S.dom j a (by simpa [hj] using e)
   exact⟨d,by rw[By (Dk hj)];exact q⟩
 inj:=λj k a e1 e2=>by
  by_cases hj:j=i
  ·simp[hj] at e1
  ·by_cases hk:k=i
   ·simp[hk] at e2
   ·exact S.inj j k a (by simpa[hj] using e1) (by simpa[hk] using e2)
 old:=λj a e=>by
  by_cases hj:j=i
  ·simp[hj] at e
  ·exact S.old j a (by simpa[hj] using e)
 zin:=S.zin
 frm:=S.frm
 par:=⟨S.par.1,λj hj=>by
  have hne:j≠i:=λz=>hm (z▸hj)
  have h2:O j=B.mu j:=S.par.2 j hj
  simpa[hne] using h2⟩
 pin:=S.pin
 kep:=λp hp=>(S.kep p hp).mono (P0 (o:=none)) (P0 (o:=none))
theorem QR{i:Nat}{p:Addr}: ∀a,Nn B (λj=>if j=i then some p else O j) a->Nn (B.add p) O a:=λa h=>by
 rcases h with h|⟨j,h⟩
 ·exact .inl (.inl h)
 ·by_cases hj:j=i
  ·simp[hj] at h
   exact .inl (.inr h.symm)
  ·exact .inr ⟨j,by simpa[hj] using h⟩
theorem aS.setOw{p:Addr}(S:aS K ml (B.add p) O H σ δ){i:Nat}{d:dE}(hm:i∉ml)(hl:i<δ.length)(hz: ¬B.Z p)(h0:B.H0 p=none)(h:QC K (Nn (B.add p) O) H p d):
  aS K ml B (λj=>if j=i then some p else O j) H (σ.set i (some (.ref p))) (δ.set i (.ow d)) where
 len:=by rw[Cj,Cj,S.len]
 va := λj e q => by
  rcases UA q with⟨rfl,z,_⟩|⟨hj,q⟩
  ·cases z
  ·obtain⟨u,e1,r⟩:=S.va j e q
   exact⟨u,by rw[By (Dk hj)];exact e1,r.mono QR QR⟩
 ow := λj e q => by
  rcases UA q with⟨rfl,z,hl⟩|⟨hj,q⟩
  ·cases z
   exact⟨p,by simp,by rw[Cz (by rw[S.len];exact hl)],h.mono QR⟩
  ·obtain⟨a,e1,e2,w⟩:=S.ow j e q
   exact⟨a,by simpa[hj] using e1,by rw[By (Dk hj)];exact e2,w.mono QR⟩
 dom:=λj a e=>by
  by_cases hj:j=i
  ·subst hj
   exact⟨d,by rw[Cz hl]⟩
  ·obtain ⟨d,q⟩ := S.dom j a (by simpa [hj] using e)
   exact⟨d,by rw[By (Dk hj)];exact q⟩
 inj:=λj k a e1 e2=>by
  by_cases hj:j=i
  ·by_cases hk:k=i
   ·rw[hj,hk]
   ·simp[hj] at e1
    simp[hk] at e2
    exact absurd (.inr e1.symm) (S.old k a e2).1
  ·by_cases hk:k=i
   ·simp[hk] at e2
    simp[hj] at e1
    exact absurd (.inr e2.symm) (S.old j a e1).1
   ·exact S.inj j k a (by simpa[hj] using e1) (by simpa[hk] using e2)
 old:=λj a e=>by
  by_cases hj:j=i
  ·simp[hj] at e
   subst e
   exact⟨hz,.inr h0⟩
  ·have := S.old j a (by simpa [hj] using e)
   exact⟨λz=>this.1 (.inl z),this.2⟩
 zin:=λa h=>S.zin a (.inl h)
 frm:=S.frm
 par:=⟨S.par.1,λj hj=>by
  have hne:j≠i:=λz=>hm (z▸hj)
  have h2:O j=B.mu j:=S.par.2 j hj
  simpa[hne] using h2⟩
 pin:=S.pin
 kep:=λp hp=>(S.kep p hp).mono QR QR
theorem aS.wrote(S:aS K ml B O H σ δ){i:Nat}{a:Addr}{d:dE}{o:HO}(e:O i=some a)(ho: ¬Hard o)(h:QC K (Nn B O) (bA H a o) a d):aS K ml B O (bA H a o) σ (δ.set i (.ow d)):=by
 have hf:Fr (λb=>b=a) H (bA H a o):=λb u q n=>by
  by_cases hb:b=a
  ·subst hb
   obtain⟨d',q'⟩:=S.dom i b e
   obtain⟨a',e1,_,w⟩:=S.ow i d' q'
   rw[e] at e1
   cases e1
   obtain⟨u',q1,hh⟩:=w.soft
   rw[q] at q1
   cases q1
   exact absurd (n rfl) hh
  ·rw[bQ hb]
   exact q
 have hN: ∀b,b=a->Nn B O b:=λb z=> .inr ⟨i,z▸e⟩
 have hin: ∀b,(∃u,H b=some u)-> ∃u,bA H a o b=some u:=λb q0=>by
  obtain⟨u,q⟩:=q0
  by_cases hb:b=a
  ·exact ⟨o,by rw [hb];exact cH⟩
  ·exact ⟨u,by rw [bQ hb];exact q⟩
 refine⟨by rw[Cj,S.len],λj d' q=> ?_,λj d' q=> ?_,λj b q=> ?_,S.inj,S.old,λb h=>hin b (S.zin b h),?_,S.par,λb h=>hin b (S.pin b h),λp hp=>(S.kep p hp).fr hf hN hN⟩
 ·rcases UA q with⟨_,z,_⟩|⟨hj,q⟩
  ·cases z
  ·obtain⟨v,e1,r⟩:=S.va j d' q
   exact⟨v,e1,r.fr hf hN hN⟩
 ·rcases UA q with⟨rfl,z,hl⟩|⟨hj,q⟩
  ·cases z
   obtain⟨d0,q0⟩:=S.dom j a e
   obtain⟨a',e1,e2,_⟩:=S.ow j d0 q0
   rw[e] at e1
   cases e1
   exact⟨a,e,e2,h⟩
  ·obtain⟨a',e1,e2,w⟩:=S.ow j d' q
   exact⟨a',e1,e2,w.fr hf hN λz=>hj (S.inj j i a (z▸e1) e)⟩
 ·by_cases hj:j=i
  ·subst hj
   obtain⟨d0,q0⟩:=S.dom j b q
   exact⟨d,by rw[Cz (Ad.mp q0).1]⟩
  ·obtain⟨d0,q0⟩:=S.dom j b q
   exact⟨d0,by rw[By (Dk hj)];exact q0⟩
 ·intro b u q n
  have h1:=S.frm b u q n
  by_cases hb:b=a
  ·subst hb
   rcases(S.old i b e).2 with z|z
   ·obtain⟨d',q'⟩:=S.dom i b e
    obtain⟨a',e1,_,w⟩:=S.ow i d' q'
    rw[e] at e1
    cases e1
    obtain⟨u',q1,hh⟩:=w.soft
    rw[h1] at q1
    cases q1
    exact absurd (n z) hh
   ·rw[q] at z
    cases z
  ·rw[bQ hb]
   exact h1
theorem aS.keepV(S:aS K ml B O H σ δ){ps:List (V×dE)}(h: ∀p∈ps,bG K (Nn B O) H (Nn B O) p.1 p.2):aS K ml {B with kp:=ps++B.kp} O H σ δ:=
 ⟨S.len,S.va,S.ow,S.dom,S.inj,S.old,S.zin,S.frm,S.par,S.pin,λp hp=>(Bi.mp hp).elim (h p) (S.kep p)⟩
theorem aS.unkeep{ps:List (V×dE)}(S:aS K ml {B with kp:=ps++B.kp} O H σ δ):aS K ml B O H σ δ:=
 ⟨S.len,S.va,S.ow,S.dom,S.inj,S.old,S.zin,S.frm,S.par,S.pin,λp hp=>S.kep p (At _ hp)⟩
end
def rz(B:Bs):Addr->Prop:=λa=>B.Z a∨ ∃i,B.mu i=some a
def av(B:Bs)(O:Nat->Option Addr)(b:Bool):Addr->Prop:=if b then Nn B O else λa=>Nn B O a/\rz B a
def at_(B:Bs)(O:Nat->Option Addr)(b:Bool):Addr->Prop:=if b then Nn B O else λ_=>False
theorem zEC{B:Bs}{O:Nat->Option Addr}{b:Bool}: ∀a,at_ B O b a->av B O b a:=λa h=>by
 cases b with
 |true=>exact h
 |false=>exact h.elim
theorem zDH{B:Bs}{O:Nat->Option Addr}{b c:Bool}(h:b=true->c=true): ∀a,at_ B O b a->at_ B O c a:=λa z=>by
 cases b with
 |true=>rw[h rfl];exact z
 |false=>exact z.elim
theorem aS.rzn{K:An}{ml:List Nat}{B:Bs}{O:Nat->Option Addr}{H:Hp}{σ:St}{δ:Ev}(S:aS K ml B O H σ δ): ∀a,rz B a->Nn B O a:=λa h=>by
 rcases h with h|⟨i,h⟩
 ·exact .inl h
 ·exact .inr ⟨i,(S.par.2 i (S.par.1 i a h)).trans h⟩
theorem aS.rza{K:An}{ml:List Nat}{B:Bs}{O:Nat->Option Addr}{H:Hp}{σ:St}{δ:Ev}(S:aS K ml B O H σ δ){b:Bool}: ∀a,rz B a->av B O b a:=λa h=>by
 cases b with
 |true=>exact S.rzn a h
 |false=>exact⟨S.rzn a h,h⟩
theorem Q5{B:Bs}{O:Nat->Option Addr}{b c:Bool}(h:b=true->c=true): ∀a,av B O b a->av B O c a:=λa z=>by
 cases b with
 |true=>rw[h rfl];exact z
 |false=>cases c with
  |true=>exact z.1
  |false=>exact z
structure Res(K:An)(ml:List Nat)(B:Bs)(O:Nat->Option Addr)(H:Hp)(σ:St)(pu bt bi:Bool)(H':Hp)(δ':Ev)(v:V)(d:dE):Prop where
 sta:aS K ml B O H' σ δ'
 frm:Fr (OA O) H H'
 pur:pu=true->a8 H H'
 rep:bG K (av B O bi) H' (at_ B O bt) v d
abbrev VF:=Ev->Option (dE×Ev)
def TV(K:An)(ml:List Nat)(pu bt bi:Bool)(f:VF):TE:=λσ H Q=> ∃B O δ d δ',aS K ml B O H σ δ/\f δ=some (d,δ')/\ ∀v H',Res K ml B O H σ pu bt bi H' δ' v d->Q v H'
theorem PE.imp{X:Cx}{e:Expr}{t u:TE}(h:PE X e t)(k: ∀σ H Q,u σ H Q->t σ H Q):PE X e u:=λaa s σ H Q I w=>h aa s σ H Q I (k σ H Q w)
theorem PT.imp{X:Cx}{e:Expr}{t u:TT}(h:PT X e t)(k: ∀σ H Q,u σ H Q->t σ H Q):PT X e u:=λaa s σ H Q I w=>h aa s σ H Q I (k σ H Q w)
theorem PW.imp{X:Cx}{e:Expr}{t u:TT}(h:PW X e t)(k: ∀σ H Q,u σ H Q->t σ H Q):PW X e u:=λbr aa s σ H Q I w=>h br aa s σ H Q I (k σ H Q w)
theorem PA.imp{X:Cx}{e:List Expr}{t u:TA}(h:PA X e t)(k: ∀σ H Q,u σ H Q->t σ H Q):PA X e u:=λpos aa s σ H Q I w=>h pos aa s σ H Q I (k σ H Q w)
theorem PS.imp{X:Cx}{e:Stmt}{t u:TS}(h:PS X e t)(k: ∀D σ H,u D σ H->t D σ H):PS X e u:=λaa s σ H D I w=>h aa s σ H D I (k D σ H w)
theorem PR.imp{X:Cx}{e:List Stmt}{t u:TS}(h:PR X e t)(k: ∀D σ H,u D σ H->t D σ H):PR X e u:=λaa s σ H D I w=>h aa s σ H D I (k D σ H w)
section
variable{X:Cx}{K:An}{ml:List Nat}{e a b c:Expr}{pa ta ia pb tb ib pc tc ic:Bool}{fa fb fc:VF}{r:R2}{o:dE->dE->Option dE}{B:Bs}{O:Nat->Option Addr}{H H1 H':Hp}{σ:St}{δ δ':Ev}{v:V}{d:dE}
def fC(d:dE):VF:=λδ=>some (d,δ)
theorem Res.refl{pu bt bi:Bool}(S:aS K ml B O H σ δ)(h:bG K (av B O bi) H (at_ B O bt) v d):Res K ml B O H σ pu bt bi H δ v d:=⟨S,Fr.refl _ _,λ_=>a8.refl _,h⟩
theorem D0(h:PE X e (tC v))(hr: ∀N H M,bG K N H M v d):PE X e (TV K ml true true true (fC d)):=h.imp λσ H Q q0=>by
 obtain⟨B,O,δ,d',δ',S,q,k⟩:=q0
 cases q
 exact k v H (Res.refl S (hr _ _ _))
theorem dC{i j pos}:PE X (.Constant (.int i) j pos) (TV K ml true true true (fC (.int i))):=D0 zG5 λ_ _ _=> .int i
theorem XJ{i j pos}:PE X (.Constant (.bool i) j pos) (TV K ml true true true (fC (.bl i))):=D0 zJO λ_ _ _=> .bl i
theorem ZS{j pos}:PE X (.Constant .none j pos) (TV K ml true true true (fC .non)):=D0 zG3 λ_ _ _=> .non
theorem cQ{i j pos}:PE X (.Constant (.str i) j pos) (TV K ml true true true (fC (.str i))):=D0 zG0 λ_ _ _=> .str i
noncomputable def fV(i:Nat):VF:=λδ=>match δ[i]? with
 |some (.va d)=>some (d,δ)
 |_=>none
noncomputable def fO(i:Nat):VF:=λδ=>match δ[i]? with
 |some (.va d)=>some (d,δ)
 |some (.ow d)=>some (d,δ)
 |_=>none
theorem zEI{i:Nat}(h:PE X e (PN i)):PE X e (TV K ml true true true (fV i)):=h.imp λσ H Q q0=>by
 obtain⟨B,O,δ,d',δ',S,q,k⟩:=q0
 unfold fV at q
 split at q
 ·rename_i d hd
  cases q
  obtain⟨v,e1,r⟩:=S.va i _ hd
  exact⟨v,e1,k v H (Res.refl S r)⟩
 ·cases q
theorem zEJ{i:Nat}(h:PE X e (PN i)):PE X e (TV K ml true false true (fO i)):=h.imp λσ H Q q0=>by
 obtain⟨B,O,δ,d',δ',S,q,k⟩:=q0
 unfold fO at q
 split at q
 ·rename_i d hd
  cases q
  obtain⟨v,e1,r⟩:=S.va i _ hd
  exact⟨v,e1,k v H (Res.refl S (r.mono (λ_ z=>z) λa z=>z.elim))⟩
 ·rename_i d hd
  cases q
  obtain⟨a,e1,e2,w⟩:=S.ow i _ hd
  exact⟨.ref a,e2,k _ H (Res.refl S (w.rep λz=>z))⟩
 ·cases q
theorem Res.live{H2:Hp}{v2:V}{d2:dE}(R2:Res K ml B O H1 σ pb tb ib H2 δ' v2 d2)(hs:(pb || (ta && ia))=true)(h:bG K (av B O ia) H1 (at_ B O ta) v d):bG K (av B O ia) H2 (at_ B O ta) v d:=by
 cases pb with
 |true=>exact h.same (R2.pur rfl)
 |false=>
  have hs:(ta && ia)=true:=by simpa using hs
  obtain⟨h1,h2⟩:=(Af _ _).mp hs
  subst h1 h2
  exact h.fr R2.frm (λa z=> .inr z) λa z=> .inr z
noncomputable def f2(o:dE->dE->Option dE)(fa fb:VF):VF:=λδ=>(fa δ).bind λp=>(fb p.2).bind λq=>(o p.1 q.1).map λc=>(c,q.2)
theorem QJ{δ2:Ev}(h:f2 o fa fb δ=some (d,δ2)): ∃x δ1 y,fa δ=some (x,δ1)/\fb δ1=some (y,δ2)/\o x y=some d:=by
 unfold f2 at h
 cases h1:fa δ with
 | none => rw [h1] at h;cases h
 |some p=>
  rw[h1] at h
  cases h2:fb p.2 with
  | none => simp [h2] at h
  |some q=>
   simp only[Ak,h2] at h
   cases h3:o p.1 q.1 with
   |none=>rw[h3] at h;cases h
   |some c=>
    rw[h3] at h
    cases h
    exact⟨p.1,p.2,q.1,rfl,h2,h3⟩
def PQ(K:An)(r:R2)(o:dE->dE->Option dE):Prop:= ∀(H:Hp) (N N' M M':Addr->Prop) (x y:V) (d e c:dE) (Q:VK),bG K N H M x d->bG K N' H M' y e->o d e=some c->(∀v,(∀H' N M,bG K N H' M v c)->Q v H)->r x y H Q
def OpC(K:An)(r:R2)(o:dE->dE->Option dE):Prop:= ∀(H:Hp) (N M M':Addr->Prop) (x y:V) (d e c:dE) (Q:VK),bG K N H M x d->bG K N H M' y e->o d e=some c→
 (∀v H',a8 H H'->(∀M,(∀a,M a-> ∃o,H a=some o)->bG K N H' M v c)->Q v H')->r x y H Q
def OpI(K:An)(r:R2)(o:dE->dE->Option dE):Prop:= ∀(H:Hp) (N N' M M':Addr->Prop) (x y:V) (d e c:dE) (Q:VK),bG K N H M x d->bG K N' H M' y e->o d e=some c->(∀v,bG K N H N v c->Q v H)->r x y H Q
theorem HE(ho:PQ K r o)(hs:(pb || (ta && ia))=true){Q:VK}(h:TV K ml (pa && pb) true true (f2 o fa fb) σ H Q):tOp r (TV K ml pa ta ia fa) (TV K ml pb tb ib fb) σ H Q:=by
 obtain⟨B,O,δ,d,δ2,S,q,k⟩:=h
 obtain⟨x,δ1,y,h1,h2,h3⟩:=QJ q
 refine⟨B,O,δ,x,δ1,S,h1,λv1 H1 R1=>⟨B,O,δ1,y,δ2,R1.sta,h2,λv2 H2 R2=> ?_⟩⟩
 exact ho H2 _ _ _ _ v1 v2 x y d Q (R2.live hs R1.rep) R2.rep h3 λv hv=>k v H2 ⟨R2.sta,R1.frm.trans R2.frm,λz=>by
  obtain⟨z1,z2⟩:=(Af _ _).mp z
  exact(R1.pur z1).trans (R2.pur z2),hv _ _ _⟩
theorem zEO(ho:OpC K r o)(hs:(pb || (ta && ia))=true){Q:VK}(h:TV K ml (pa && pb) true (ia && ib) (f2 o fa fb) σ H Q):tOp r (TV K ml pa ta ia fa) (TV K ml pb tb ib fb) σ H Q:=by
 obtain⟨B,O,δ,d,δ2,S,q,k⟩:=h
 obtain⟨x,δ1,y,h1,h2,h3⟩:=QJ q
 refine⟨B,O,δ,x,δ1,S,h1,λv1 H1 R1=>⟨B,O,δ1,y,δ2,R1.sta,h2,λv2 H2 R2=> ?_⟩⟩
 have g1: ∀a,av B O (ia && ib) a->av B O ia a:=Q5 λz=>((Af _ _).mp z).1
 have g2: ∀a,av B O (ia && ib) a->av B O ib a:=Q5 λz=>((Af _ _).mp z).2
 refine ho H2 (av B O (ia && ib)) _ _ v1 v2 x y d Q ((R2.live hs R1.rep).mono g1 λ_ z=>z) (R2.rep.mono g2 λ_ z=>z) h3 λv H3 s3 hv=>k v H3 ⟨R2.sta.same s3,(R1.frm.trans R2.frm).trans s3.fr,λz=> ?_,hv _ λa z=>R2.sta.nin z⟩
 obtain⟨z1,z2⟩:=(Af _ _).mp z
 exact((R1.pur z1).trans (R2.pur z2)).trans s3
theorem zEN(ho:OpI K r o)(hs:(pb || (ta && ia))=true){Q:VK}(h:TV K ml (pa && pb) ia ia (f2 o fa fb) σ H Q):tOp r (TV K ml pa ta ia fa) (TV K ml pb tb ib fb) σ H Q:=by
 obtain⟨B,O,δ,d,δ2,S,q,k⟩:=h
 obtain⟨x,δ1,y,h1,h2,h3⟩:=QJ q
 refine⟨B,O,δ,x,δ1,S,h1,λv1 H1 R1=>⟨B,O,δ1,y,δ2,R1.sta,h2,λv2 H2 R2=> ?_⟩⟩
 exact ho H2 _ _ _ _ v1 v2 x y d Q (R2.live hs R1.rep) R2.rep h3 λv hv=>k v H2 ⟨R2.sta,R1.frm.trans R2.frm,λz=>by
  obtain⟨z1,z2⟩:=(Af _ _).mp z
  exact(R1.pur z1).trans (R2.pur z2),hv.mono (λ_ z=>z) zEC⟩
theorem ZA{op:Operator}{pos:Pos}(ho:WT X (Fs op) r)(hv:PQ K r o)(ha:PE X a (TV K ml pa ta ia fa))(hb:PE X b (TV K ml pb tb ib fb))(hs:(pb || (ta && ia))=true:=by rfl):PE X (.BinOp a op b pos) (TV K ml (pa && pb) true true (f2 o fa fb)):=
 (zDX ho ha hb).imp λ_ _ _ h=>HE hv hs h
theorem aD{op:Operator}{pos:Pos}(ho:WT X (Fs op) r)(hv:OpC K r o)(ha:PE X a (TV K ml pa ta ia fa))(hb:PE X b (TV K ml pb tb ib fb))(hs:(pb || (ta && ia))=true:=by rfl):PE X (.BinOp a op b pos) (TV K ml (pa && pb) true (ia && ib) (f2 o fa fb)):=
 (zDX ho ha hb).imp λ_ _ _ h=>zEO hv hs h
theorem YX{op:CmpOp}{pos:Pos}(ho:WT X (De op) r)(hv:PQ K r o)(ha:PE X a (TV K ml pa ta ia fa))(hb:PE X b (TV K ml pb tb ib fb))(hm:Gx op b=false)(hs:(pb || (ta && ia))=true:=by rfl):PE X (.Compare a [op] [b] pos) (TV K ml (pa && pb) true true (f2 o fa fb)):=
 (zCR ho ha hb hm).imp λ_ _ _ h=>HE hv hs h
theorem zIM{pos:Pos}(ho:B5 X r)(hv:OpI K r o)(ha:PE X a (TV K ml pa ta ia fa))(hb:PE X b (TV K ml pb tb ib fb))(hx:J7 b)(hs:(pb || (ta && ia))=true:=by rfl):PE X (.Subscript a b pos) (TV K ml (pa && pb) ia ia (f2 o fa fb)):=
 (zJM ho ha hb hx).imp λ_ _ _ h=>zEN hv hs h
noncomputable def oI(C:Int->Int->Bool)(g:Int->Int->dE):dE->dE->Option dE
 | .int i,.int j=>if C i j=true then some (g i j) else none
 |_,_=>none
theorem zAT{C:Int->Int->Bool}{g:Int->Int->dE}{d e c:dE}(h:oI C g d e=some c): ∃i j,d= .int i/\e= .int j/\C i j=true/\c=g i j:=by
 unfold oI at h
 split at h
 ·split at h
  ·rename_i hc
   cases h
   exact⟨_,_,rfl,rfl,hc,rfl⟩
  ·cases h
 ·cases h
theorem ET{C:Int->Int->Prop}{C':Int->Int->Bool}{g:Int->Int->V}{g':Int->Int->dE}(hC: ∀i j,C' i j=true->C i j)(hg: ∀i j N H M,bG K N H M (g i j) (g' i j)):PQ K (rI C g) (oI C' g'):=by
 intro H N N' M M' x y d e c Q hx hy h k
 obtain⟨i,j,rfl,rfl,hc,rfl⟩:=zAT h
 cases hx
 cases hy
 exact⟨_,_,rfl,rfl,hC _ _ hc,k _ λ_ _ _=>hg ..⟩
theorem OE{g:Int->Int->V}{g':Int->Int->dE}(hg: ∀i j N H M,bG K N H M (g i j) (g' i j)):PQ K (GW g) (oI (λ_ _=>true) g'):=by
 intro H N N' M M' x y d e c Q hx hy h k
 obtain⟨i,j,rfl,rfl,hc,rfl⟩:=zAT h
 cases hx
 cases hy
 exact⟨_,_,rfl,rfl,k _ λ_ _ _=>hg ..⟩
noncomputable def CI(i j:Int):Bool:=(decide (-18446744073709551616<i) && decide (i<18446744073709551616)) || (decide (-18446744073709551616<j) && decide (j<18446744073709551616))
noncomputable def cDiv(i j:Int):Bool:=decide (0<j) && decide (j<1073741824)
def cPow(i j:Int):Bool:=decide (0<=j) && decide (j<=1000000) && decide (i.natAbs<18446744073709551616)
abbrev OD:=oI (λ_ _=>true) λi j=> .int (i - j)
abbrev oMul:=oI CI λi j=> .int (i*j)
abbrev IS:=oI cDiv λi j=> .int (i/j)
noncomputable abbrev PL:=oI (λ_ j=>decide (0<j)) λi j=> .int (i % j)
abbrev oPow:=oI cPow λi j=> .int (i ^ j.toNat)
abbrev oLt:=oI (λ_ _=>true) λi j=> .bl (decide (i<j))
abbrev oLe:=oI (λ_ _=>true) λi j=> .bl (decide (i<=j))
abbrev oGt:=oI (λ_ _=>true) λi j=> .bl (decide (j<i))
abbrev oGe:=oI (λ_ _=>true) λi j=> .bl (decide (j<=i))
theorem P5:PQ K (GW λi j=> .int (i - j)) OD:=OE λi j _ _ _=> .int _
theorem zJ5:PQ K (rI B0 λi j=> .int (i*j)) oMul:=ET (λi j h=>by
 have p:(2:Int) ^ 64=18446744073709551616:=by decide
 unfold B0
 rw[p]
 simpa[CI] using h) λi j _ _ _=> .int _
theorem G1:PQ K (rI CDiv λi j=> .int (i/j)) IS:=ET (λi j h=>by show 0<j/\j<1073741824;simpa[cDiv] using h) λi j _ _ _=> .int _
theorem UX:PQ K (rI (λ_ j=>0<j) λi j=> .int (i % j)) PL:=ET (λi j h=>by simpa using h) λi j _ _ _=> .int _
theorem zJ4:PQ K (rI CPow λi j=> .int (i ^ j.toNat)) oPow:=ET (λi j h=>by
 have p:(2:Nat) ^ 64=18446744073709551616:=by decide
 unfold CPow
 rw[p]
 simpa[cPow,and_assoc] using h) λi j _ _ _=> .int _
theorem DO:PQ K (GW λi j=> .bl (decide (i<j))) oLt:=OE λi j _ _ _=> .bl _
theorem AJ:PQ K (GW λi j=> .bl (decide (i<=j))) oLe:=OE λi j _ _ _=> .bl _
theorem s_gt:PQ K (GW λi j=> .bl (decide (j<i))) oGt:=OE λi j _ _ _=> .bl _
theorem s_ge:PQ K (GW λi j=> .bl (decide (j<=i))) oGe:=OE λi j _ _ _=> .bl _
def MK(d:dE):Bool:=d.isD && Ej d.pd
def HZ(d e:dE):Bool:=Ih d.pd e.pd
def XH(d e:dE):Option dE:=if(MK d && MK e)=true then some (.bl (HZ d e)) else none
def OC(d e:dE):Option dE:=if(MK d && MK e)=true then some (.bl (!HZ d e)) else none
theorem s_eq:PQ K (rEqD K) XH:=by
 intro H N N' M M' x y d e c Q hx hy h k
 unfold XH at h
 split at h
 ·rename_i hh
  cases h
  simp only[MK,Af] at hh
  exact⟨d.pd,e.pd,hx.dp hh.1.1,hy.dp hh.2.1,hh.1.2,hh.2.2,k _ λ_ _ _=> .bl _⟩
 ·cases h
theorem OL:PQ K (rNeD K) OC:=by
 intro H N N' M M' x y d e c Q hx hy h k
 unfold OC at h
 split at h
 ·rename_i hh
  cases h
  simp only[MK,Af] at hh
  exact⟨d.pd,e.pd,hx.dp hh.1.1,hy.dp hh.2.1,hh.1.2,hh.2.2,k _ λ_ _ _=> .bl _⟩
 ·cases h
noncomputable def isN:dE->Bool
 | .non=>true
 |_=>false
noncomputable def K6:dE->dE->Option dE
 |d,.non=>some (.bl (isN d))
 |_,_=>none
def US:dE->dE->Option dE
 |d,.non=>some (.bl (!isN d))
 |_,_=>none
theorem FE{N M:Addr->Prop}(h:bG K N H M v d):decide (v=V.non)=isN d:=by
 cases h<;>simp[isN]
theorem AI:PQ K (λx y H Q=>y= .non/\Q (.bl (decide (x= .non))) H) K6:=by
  intro H N N' M M' x y d e c Q hx hy h k
  cases hy<;>first
    | (cases h
       refine⟨rfl,?_⟩
       rw[FE hx]
       exact k _ λ_ _ _=> .bl _)
    |(simp[K6] at h)
theorem OM:PQ K (λx y H Q=>y= .non/\Q (.bl (!decide (x= .non))) H) US:=by
  intro H N N' M M' x y d e c Q hx hy h k
  cases hy<;>first
    | (cases h
       refine⟨rfl,?_⟩
       rw[FE hx]
       exact k _ λ_ _ _=> .bl _)
    |(simp[US] at h)
noncomputable def YV:dE->Option (List dE)
 | .tup ds=>some ds
 | .lst ds=>some ds
 |_=>none
theorem bG.seq{N M:Addr->Prop}{ds:List dE}(h:bG K N H M v d)(e:YV d=some ds): ∃a xs,v= .ref a/\(W8 K H a xs∨WC K H a xs)/\cO K N H xs ds:=by
 cases h<;>first
  |(cases e;rename_i q r;exact⟨_,_,rfl,.inr q,r⟩)
  |(cases e;rename_i q n r;exact⟨_,_,rfl,.inl (W8.of q),r⟩)
  |(cases e;rename_i q r;exact⟨_,_,rfl,.inl q.sq,r⟩)
  |cases e
theorem zDI{N:Addr->Prop}{xs:List V}{ds:List dE}{i:Int}(r:cO K N H xs ds)(h:WQ ds i=some d): ∃v,WQ xs i=some v/\bG K N H N v d:=by
 unfold WQ at h⊢
 rw[r.length]
 cases hi:ME ds.length i with
 |none=>rw[hi] at h;cases h
 |some j=>
  rw[hi] at h
  exact r.get h
end
section
variable{X:Cx}{K:An}{ml:List Nat}{e a b c:Expr}{es:List Expr}{pa ta ia pb tb ib pc tc ic pu bt bi ps bs:Bool}{fa fb fc:VF}{r r':R2}{o o':dE->dE->Option dE}{B:Bs}{O:Nat->Option Addr}{H H1 H':Hp}{σ:St}{δ δ':Ev}{v:V}{d:dE}{p:Addr}{pos:Pos}
theorem aS.unadd(S:aS K ml (B.add p) O H σ δ):aS K ml B O H σ δ where
 len:=S.len
 va:=λi d e=>let ⟨v,a,b⟩:=S.va i d e;⟨v,a,b.mono SJ SJ⟩
 ow:=λi d e=>let ⟨a,b,c,w⟩:=S.ow i d e;⟨a,b,c,w.mono SJ⟩
 dom:=S.dom
 inj:=S.inj
 old:=λi a h=>⟨λz=>(S.old i a h).1 (.inl z),(S.old i a h).2⟩
 zin:=λa h=>S.zin a (.inl h)
 frm:=S.frm
 par:=S.par
 pin:=S.pin
 kep:=λp h=>(S.kep p h).mono SJ SJ
structure ResN(K:An)(ml:List Nat)(B:Bs)(O:Nat->Option Addr)(H:Hp)(σ:St)(pu:Bool)(H':Hp)(δ':Ev)(p:Addr)(d:dE):Prop where
 sta:aS K ml (B.add p) O H' σ δ'
 frm:Fr (OA O) H H'
 pur:pu=true->a8 H H'
 own:QC K (Nn (B.add p) O) H' p d
 nz: ¬Nn B O p
 h0:B.H0 p=none
def TN(K:An)(ml:List Nat)(pu:Bool)(f:VF):TE:=λσ H Q=> ∃B O δ d δ',aS K ml B O H σ δ/\f δ=some (d,δ')/\ ∀p H',ResN K ml B O H σ pu H' δ' p d->Q (.ref p) H'
theorem bL{f:VF}(h:PE X e (TN K ml pu f)):PE X e (TV K ml pu true true f):=h.imp λσ H Q ⟨B,O,δ,d,δ',S,q,k⟩=>
 ⟨B,O,δ,d,δ',S,q,λp H' R=>k _ H' ⟨R.sta.unadd,R.frm,R.pur,(R.own.mono SJ).rep R.nz⟩⟩
theorem mkN{xs:List V}{ds:List dE}(S:aS K ml B O H1 σ δ')(f:Fr (OA O) H H1)(s:pu=true->a8 H H1)(hp:H1 p=none)(r:cO K (Nn B O) H1 xs ds):ResN K ml B O H σ pu (bA H1 p (.lst xs)) δ' p (.lst ds):=
 ⟨S.laid hp,f.trans (cZ hp).fr,λz=>(s z).trans (cZ hp),.lst cH ((r.away hp _ _ WP).same (cZ hp)),S.new hp,S.fresh hp⟩
theorem mkD(S:aS K ml B O H1 σ δ')(f:Fr (OA O) H H1)(s:pu=true->a8 H H1)(hp:H1 p=none):ResN K ml B O H σ pu (bA H1 p (.dK [])) δ' p (.dct [] []):=
 ⟨S.laid hp,f.trans (cZ hp).fr,λz=>(s z).trans (cZ hp),.dct (kvs:=[]) cH .nil,S.new hp,S.fresh hp⟩
theorem BJ:PE X (.Dict [] [] pos) (TN K ml true (fC (.dct [] []))):=zAG.imp λσ H Q q0=>by
 obtain⟨B,O,δ,d,δ',S,q,k⟩:=q0
 cases q
 exact λp hp=>k p _ (mkD S (Fr.refl _ _) (λ_=>a8.refl _) hp)
abbrev NM:=Ev->Option (List dE×Ev)
structure ResA(K:An)(ml:List Nat)(B:Bs)(O:Nat->Option Addr)(H:Hp)(σ:St)(pu b:Bool)(H':Hp)(δ':Ev)(vs:List V)(ds:List dE):Prop where
 sta:aS K ml B O H' σ δ'
 frm:Fr (OA O) H H'
 pur:pu=true->a8 H H'
 rep:cO K (av B O b) H' vs ds
def TAV(K:An)(ml:List Nat)(pu b:Bool)(f:NM):TA:=λσ H Q=> ∃B O δ d δ',aS K ml B O H σ δ/\f δ=some (d,δ')/\ ∀vs H',ResA K ml B O H σ pu b H' δ' vs d->Q vs H'
def cB:NM:=λδ=>some ([],δ)
noncomputable def c7(fa:VF)(fs:NM):NM:=λδ=>(fa δ).bind λp=>(fs p.2).map λq=>(p.1::q.1,q.2)
theorem L9{fs:NM}{ds:List dE}(h:c7 fa fs δ=some (ds,δ')): ∃x δ1 xs,fa δ=some (x,δ1)/\fs δ1=some (xs,δ')/\ds=x::xs:=by
 unfold c7 at h
 cases h1:fa δ with
 | none => rw [h1] at h;cases h
 |some p=>
  rw[h1] at h
  cases h2:fs p.2 with
  |none=>simp[h2] at h
  |some q=>
   simp only[Ak,h2] at h
   cases h
   exact⟨p.1,p.2,q.1,rfl,h2,rfl⟩
theorem cT:PA X [] (TAV K ml true true cB):=ZR.imp λσ H Q q0=>by
 obtain⟨B,O,δ,d,δ',S,q,k⟩:=q0
 cases q
 exact k [] H ⟨S,Fr.refl _ _,λ_=>a8.refl _,.nil⟩
theorem dD{fs:NM}(ha:PE X a (TV K ml pa ta ia fa))(hr:PA X es (TAV K ml ps bs fs))(hs:Ah (a::es) X.env=(false,eval a X.env)::Ah es X.env:=by rfl)(hl:(ps || (ta && ia))=true:=by rfl)(ht:ta=true:=by rfl):
  PA X (a::es) (TAV K ml (pa && ps) (ta && ia && bs) (c7 fa fs)):=(bW ha hr hs).imp λσ H Q ⟨B,O,δ,d,δ2,S,q,k⟩=>by
 obtain⟨x,δ1,xs,h1,h2,rfl⟩:=L9 q
 refine⟨B,O,δ,x,δ1,S,h1,λv1 H1 R1=>⟨B,O,δ1,xs,δ2,R1.sta,h2,λvs H2 R2=>k _ H2 ⟨R2.sta,R1.frm.trans R2.frm,λz=> ?_,?_⟩⟩⟩
 ·obtain⟨z1,z2⟩:=(Af _ _).mp z
  exact(R1.pur z1).trans (R2.pur z2)
 ·have g : ∀ c,((ta && ia && bs) = true -> c = true) -> ∀ a,av B O (ta && ia && bs) a -> av B O c a := λc h => Q5 h
  have g1:=g ta λz=>by simp only[Af] at z;exact z.1.1
  have g2:=g ia λz=>by simp only[Af] at z;exact z.1.2
  have g3:=g bs λz=>by simp only[Af] at z;exact z.2
  refine .cons ?_ (R2.rep.mono g3)
  have h:bG K (av B O ia) H2 (at_ B O ta) v1 x:=by
   cases ps with
   |true=>exact R1.rep.same (R2.pur rfl)
   |false=>
    have hs:(ta && ia)=true:=by simpa using hl
    obtain⟨h1,h2⟩:=(Af _ _).mp hs
    subst h1 h2
    exact R1.rep.fr R2.frm (λa z=> .inr z) λa z=> .inr z
  subst ht
  exact h.mono g2 g1
theorem aS.lone(S:aS K ml B O H σ δ){i:Nat}{x:dE}(hm:i∉ml)(h:fO i δ=some (x,δ')):δ'=δ/\ ∃v,σ[i]? =some (some v)/\bG K (av B O false) H (av B O false) v x:=by
 unfold fO at h
 split at h
 ·rename_i d hd
  cases h
  obtain⟨v,e1,r⟩:=S.va i _ hd
  exact⟨rfl,v,e1,r.mono (λa z=>z.1) λa z=>z.1⟩
 ·rename_i d hd
  cases h
  obtain⟨a,e1,e2,w⟩:=S.ow i _ hd
  refine⟨rfl,.ref a,e2,(w.mono λa z=>z.1).rep λz=> ?_⟩
  rcases z.2 with z|⟨j,z⟩
  ·exact(S.old i a e1).1 z
  ·have hj:=S.par.1 j a z
   have:i=j:=S.inj i j a e1 ((S.par.2 j hj).trans z)
   exact hm (this▸hj)
 ·cases h
theorem OS{i:Nat}{fs:NM}(ha:PE X a (PN i))(hr:PA X es (TAV K ml ps bs fs))(hs:Ah (a::es) X.env=(false,eval a X.env)::Ah es X.env:=by rfl)(hl:ps=true:=by rfl)(hm:i∉ml:=by decide):
  PA X (a::es) (TAV K ml ps false (c7 (fO i) fs)):=(bW ha hr hs).imp λσ H Q ⟨B,O,δ,d,δ2,S,q,k⟩=>by
 obtain⟨x,δ1,xs,h1,h2,rfl⟩:=L9 q
 obtain⟨rfl,v,e1,r⟩:=S.lone hm h1
 exact⟨v,e1,B,O,δ1,xs,δ2,S,h2,λvs H2 R2=>k _ H2 ⟨R2.sta,R2.frm,R2.pur,.cons (r.same (R2.pur hl)) (R2.rep.mono (Q5 (b:=false) λz=>nomatch z))⟩⟩
noncomputable def aG(fs:NM):VF:=λδ=>(fs δ).bind λp=>if p.1.length<=16777216 then some (.tup p.1,p.2) else none
noncomputable def YN(fs:NM):VF:=λδ=>(fs δ).bind λp=>if p.1.length<=16777216 then some (.lst p.1,p.2) else none
theorem IA{fs:NM}{g:List dE->dE}(h:((fs δ).bind λp=>if p.1.length<=16777216 then some (g p.1,p.2) else none)=some (d,δ')): ∃ds,fs δ=some (ds,δ')/\ds.length<=16777216/\d=g ds:=by
 cases h1:fs δ with
 | none => rw [h1] at h;cases h
 |some p=>
  rw[h1] at h
  have h:(if p.1.length<=16777216 then some (g p.1,p.2) else none)=some (d,δ'):=h
  split at h
  ·cases h
   exact⟨p.1,rfl,by assumption,rfl⟩
  ·cases h
theorem bY{x1}{fs:NM}(h:PA X es (TAV K ml pu bs fs)):PE X (.Tuple es x1 pos) (TV K ml pu true bs (aG fs)):=(zAC h).imp λσ H Q q0=>by
 obtain⟨B,O,δ,d,δ',S,q,k⟩:=q0
 obtain⟨ds,h1,hl,rfl⟩:=IA (g:=dE.tup) q
 refine⟨B,O,δ,ds,δ',S,h1,λvs H1 R=>⟨by rw[R.rep.length,Db];exact hl,λp hp=>k _ _ ⟨R.sta.same (cZ hp),R.frm.trans (cZ hp).fr,λz=>(R.pur z).trans (cZ hp),.tup (WC.of cH) (R.rep.same (cZ hp))⟩⟩⟩
theorem aL{fs:NM}(h:PA X es (TAV K ml pu true fs)):PE X (.List es pos) (TN K ml pu (YN fs)):=(zG4 h).imp λσ H Q q0=>by
 obtain⟨B,O,δ,d,δ',S,q,k⟩:=q0
 obtain⟨ds,h1,hl,rfl⟩:=IA (g:=dE.lst) q
 exact⟨B,O,δ,ds,δ',S,h1,λvs H1 R=>⟨by rw[R.rep.length,Db];exact hl,λp hp=>k p _ (mkN R.sta R.frm R.pur hp R.rep)⟩⟩
abbrev VB:=Ev->Option (Bool×Ev)
structure CD(K:An)(ml:List Nat)(B:Bs)(O:Nat->Option Addr)(H:Hp)(σ:St)(pu:Bool)(H':Hp)(δ':Ev):Prop where
 sta:aS K ml B O H' σ δ'
 frm:Fr (OA O) H H'
 pur:pu=true->a8 H H'
def TB(K:An)(ml:List Nat)(pu:Bool)(f:VB):TT:=λσ H Q=> ∃B O δ k δ',aS K ml B O H σ δ/\f δ=some (k,δ')/\ ∀H',CD K ml B O H σ pu H' δ'->Q k H'
noncomputable def fB(f:VF):VB:=λδ=>(f δ).bind λp=>match p.1 with
 | .bl k=>some (k,p.2)
 |_=>none
theorem zI2{f:VF}{k:Bool}(h:fB f δ=some (k,δ')):f δ=some (.bl k,δ'):=by
 unfold fB at h
 cases h1:f δ with
 | none => rw [h1] at h;cases h
 |some p=>
  obtain⟨x,δ1⟩:=p
  rw[h1] at h
  cases x<;>first
   |(cases h;rfl)
   |cases h
theorem LM{f:VF}{t:TE}(ht: ∀σ H Q,TV K ml pu bt bi f σ H Q->t σ H Q){Q:Bool->Hp->Prop}(h:TB K ml pu (fB f) σ H Q):t σ H λx H'=> ∃k,x= .bl k/\Q k H':=by
 obtain⟨B,O,δ,k,δ',S,q,w⟩:=h
 refine ht σ H _ ⟨B,O,δ,.bl k,δ',S,zI2 q,λv H' R=>⟨k,?_,w H' ⟨R.sta,R.frm,R.pur⟩⟩⟩
 cases R.rep
 rfl
theorem b7{op:CmpOp}(ho:WT X (De op) r)(hv:PQ K r o)(ha:PE X a (TV K ml pa ta ia fa))(hb:PE X b (TV K ml pb tb ib fb))(hm:Gx op b=false)(hs:(pb || (ta && ia))=true:=by rfl):PT X (.Compare a [op] [b] pos) (TB K ml (pa && pb) (fB (f2 o fa fb))):=
 (zCH ho ha hb hm).imp λ_ _ _ h=>LM (λ_ _ _=>HE hv hs) h
theorem ZY{f:VF}(h:PE X e (TV K ml pu bt bi f))(he: ∀br,isTrue e X.env br=(do let v<- br;Ky e.pos;Kz [v] (truthy v)):=by intro _;rfl):PT X e (TB K ml pu (fB f)):=
 (zFP h he).imp λ_ _ _ h=>LM (λ_ _ _ z=>z) h
noncomputable def RW(x y:VB):VB:=λδ=>(x δ).bind λp=>if p.1=true then y p.2 else some (false,p.2)
noncomputable def D7(x y:VB):VB:=λδ=>(x δ).bind λp=>if p.1=true then some (true,p.2) else y p.2
noncomputable def U7(x:VB):VB:=λδ=>(x δ).map λp=>(!p.1,p.2)
theorem CD.refl(S:aS K ml B O H σ δ):CD K ml B O H σ pu H δ:=⟨S,Fr.refl _ _,λ_=>a8.refl _⟩
theorem zEQ{x y:VB}{Q:Bool->Hp->Prop}(h:TB K ml (pa && pb) (RW x y) σ H Q):tAnd (TB K ml pa x) (TB K ml pb y) σ H Q:=by
 obtain⟨B,O,δ,k,δ',S,q,w⟩:=h
 unfold RW at q
 cases h1:x δ with
 | none => rw [h1] at q;cases q
 |some p=>
  obtain⟨kk,δ1⟩:=p
  rw[h1] at q
  refine⟨B,O,δ,kk,δ1,S,h1,λH1 R1=> ?_⟩
  cases kk with
  |true=>
   have q:y δ1=some (k,δ'):=q
   exact PJ ⟨B,O,δ1,k,δ',R1.sta,q,λH2 R2=>w H2 ⟨R2.sta,R1.frm.trans R2.frm,λz=>by
    obtain⟨z1,z2⟩:=(Af _ _).mp z
    exact(R1.pur z1).trans (R2.pur z2)⟩⟩
  |false=>
   have q:some (false,δ1)=some (k,δ'):=q
   cases q
   exact PH (w H1 ⟨R1.sta,R1.frm,λz=>R1.pur ((Af _ _).mp z).1⟩)
theorem zIN{x y:VB}{Q:Bool->Hp->Prop}(h:TB K ml (pa && pb) (D7 x y) σ H Q):tOr (TB K ml pa x) (TB K ml pb y) σ H Q:=by
 obtain⟨B,O,δ,k,δ',S,q,w⟩:=h
 unfold D7 at q
 cases h1:x δ with
 | none => rw [h1] at q;cases q
 |some p=>
  obtain⟨kk,δ1⟩:=p
  rw[h1] at q
  refine⟨B,O,δ,kk,δ1,S,h1,λH1 R1=> ?_⟩
  cases kk with
  |false=>
   have q:y δ1=some (k,δ'):=q
   exact PH ⟨B,O,δ1,k,δ',R1.sta,q,λH2 R2=>w H2 ⟨R2.sta,R1.frm.trans R2.frm,λz=>by
    obtain⟨z1,z2⟩:=(Af _ _).mp z
    exact(R1.pur z1).trans (R2.pur z2)⟩⟩
  |true=>
   have q:some (true,δ1)=some (k,δ'):=q
   cases q
   exact PJ (w H1 ⟨R1.sta,R1.frm,λz=>R1.pur ((Af _ _).mp z).1⟩)
theorem YO{x:VB}(h:PT X a (TB K ml pu x)):PT X (.UnaryOp .Not a pos) (TB K ml pu (U7 x)):=(zFQ h).imp λσ H Q q0=>by
 obtain⟨B,O,δ,k,δ',S,q,w⟩:=q0
 unfold U7 at q
 cases h1:x δ with
 |none=>rw[h1] at q;cases q
 |some p=>
  rw[h1] at q
  cases q
  exact⟨B,O,δ,p.1,p.2,S,h1,w⟩
theorem V1{x:VB}(h:PT X a (TB K ml pu x)):PW X (.BoolOp .And [a] pos) (TB K ml pu x):=zCE h
theorem WM{x:VB}(h:PT X a (TB K ml pu x)):PW X (.BoolOp .Or [a] pos) (TB K ml pu x):=zFN h
theorem SS{x y:VB}(ha:PT X a (TB K ml pa x))(hb:PW X (.BoolOp .And (b::es) pos) (TB K ml pb y)):PW X (.BoolOp .And (a::b::es) pos) (TB K ml (pa && pb) (RW x y)):=(zFO ha hb).imp λ_ _ _ h=>zEQ h
theorem S9{x y:VB}(ha:PT X a (TB K ml pa x))(hb:PW X (.BoolOp .Or (b::es) pos) (TB K ml pb y)):PW X (.BoolOp .Or (a::b::es) pos) (TB K ml (pa && pb) (D7 x y)):=(zJI ha hb).imp λ_ _ _ h=>zIN h
theorem U2{x:VB}(h:PW X e (TB K ml pu x)):PT X e (TB K ml pu x):=h.pt
noncomputable def TC(x y:VF):VF:=λδ=>(x δ).bind λp=>match p.1 with
 | .bl true=>y p.2
 | .bl false=>some (.bl false,p.2)
 |_=>none
noncomputable def fOr(x y:VF):VF:=λδ=>(x δ).bind λp=>match p.1 with
 | .bl false=>y p.2
 | .bl true=>some (.bl true,p.2)
 |_=>none
noncomputable def fNot(x:VF):VF:=λδ=>(x δ).bind λp=>match p.1 with
 | .bl k=>some (.bl (!k),p.2)
 |_=>none
theorem YA{op}{f:VF}(h:PE X a (TV K ml pu bt bi f)):PE X (.BoolOp op [a] pos) (TV K ml pu bt bi f):=zG1 h
theorem X9(ha:PE X a (TV K ml pa ta ia fa))(hb:PE X (.BoolOp .And (b::es) pos) (TV K ml pb tb ib fb)):PE X (.BoolOp .And (a::b::es) pos) (TV K ml (pa && pb) tb ib (TC fa fb)):=(zG6 ha hb).imp λσ H Q q0=>by
 obtain⟨B,O,δ,d,δ',S,q,k⟩:=q0
 unfold TC at q
 cases h1:fa δ with
 | none => rw [h1] at q;cases q
 |some p=>
  obtain⟨x,δ1⟩:=p
  rw[h1] at q
  refine⟨B,O,δ,x,δ1,S,h1,λv1 H1 R1=> ?_⟩
  cases x with
  |bl kk=>
   have e1:v1= .bl kk:=by cases R1.rep;rfl
   refine⟨kk,e1,?_⟩
   cases kk with
   |true=>
    exact PJ ⟨B,O,δ1,d,δ',R1.sta,q,λv2 H2 R2=>k v2 H2 ⟨R2.sta,R1.frm.trans R2.frm,λz=>by
     obtain⟨z1,z2⟩:=(Af _ _).mp z
     exact(R1.pur z1).trans (R2.pur z2),R2.rep⟩⟩
   |false=>
    cases q
    exact PH (k _ H1 ⟨R1.sta,R1.frm,λz=>R1.pur ((Af _ _).mp z).1,.bl _⟩)
  |_=>cases q
theorem zDJ(ha:PE X a (TV K ml pa ta ia fa))(hb:PE X (.BoolOp .Or (b::es) pos) (TV K ml pb tb ib fb)):PE X (.BoolOp .Or (a::b::es) pos) (TV K ml (pa && pb) tb ib (fOr fa fb)):=(zJL ha hb).imp λσ H Q q0=>by
 obtain⟨B,O,δ,d,δ',S,q,k⟩:=q0
 unfold fOr at q
 cases h1:fa δ with
 | none => rw [h1] at q;cases q
 |some p=>
  obtain⟨x,δ1⟩:=p
  rw[h1] at q
  refine⟨B,O,δ,x,δ1,S,h1,λv1 H1 R1=> ?_⟩
  cases x with
  |bl kk=>
   have e1:v1= .bl kk:=by cases R1.rep;rfl
   refine⟨kk,e1,?_⟩
   cases kk with
   |false=>
    exact PH ⟨B,O,δ1,d,δ',R1.sta,q,λv2 H2 R2=>k v2 H2 ⟨R2.sta,R1.frm.trans R2.frm,λz=>by
     obtain⟨z1,z2⟩:=(Af _ _).mp z
     exact(R1.pur z1).trans (R2.pur z2),R2.rep⟩⟩
   |true=>
    cases q
    exact PJ (k _ H1 ⟨R1.sta,R1.frm,λz=>R1.pur ((Af _ _).mp z).1,.bl _⟩)
  |_=>cases q
theorem zEK(ha:PE X a (TV K ml pa ta ia fa)):PE X (.UnaryOp .Not a pos) (TV K ml pa true true (fNot fa)):=(zG2 ha).imp λσ H Q q0=>by
 obtain⟨B,O,δ,d,δ',S,q,k⟩:=q0
 unfold fNot at q
 cases h1:fa δ with
 | none => rw [h1] at q;cases q
 |some p=>
  obtain⟨x,δ1⟩:=p
  rw[h1] at q
  refine⟨B,O,δ,x,δ1,S,h1,λv1 H1 R1=> ?_⟩
  cases x with
  |bl kk=>
   have e1:v1= .bl kk:=by cases R1.rep;rfl
   cases q
   exact⟨kk,e1,k _ H1 ⟨R1.sta,R1.frm,R1.pur,.bl _⟩⟩
  |_=>cases q
def F9(t:VB)(x y:VF):VF:=λδ=>(t δ).bind λp=>if p.1=true then x p.2 else y p.2
theorem VE{t:VB}(ht:PT X c (TB K ml pc t))(ha:PE X a (TV K ml pa ta ia fa))(hb:PE X b (TV K ml pb tb ib fb)):PE X (.IfExp c a b pos) (TV K ml (pc && pa && pb) (ta && tb) (ia && ib) (F9 t fa fb)):=(zAE ht ha hb).imp λσ H Q q0=>by
 obtain⟨B,O,δ,d,δ',S,q,k⟩:=q0
 unfold F9 at q
 cases h1:t δ with
 | none => rw [h1] at q;cases q
 |some p=>
  obtain⟨kk,δ1⟩:=p
  rw[h1] at q
  refine⟨B,O,δ,kk,δ1,S,h1,λH1 R1=> ?_⟩
  have g1: ∀c,((ta && tb)=true->c=true)-> ∀a,at_ B O (ta && tb) a->at_ B O c a:=λc h=>zDH h
  have g2: ∀c,((ia && ib)=true->c=true)-> ∀a,av B O (ia && ib) a->av B O c a:=λc h=>Q5 h
  cases kk with
  |true=>
   exact PJ ⟨B,O,δ1,d,δ',R1.sta,q,λv2 H2 R2=>k v2 H2 ⟨R2.sta,R1.frm.trans R2.frm,λz=>by
    simp only[Af] at z
    exact(R1.pur z.1.1).trans (R2.pur z.1.2),R2.rep.mono (g2 _ λz=>((Af _ _).mp z).1) (g1 _ λz=>((Af _ _).mp z).1)⟩⟩
  |false=>
   exact PH ⟨B,O,δ1,d,δ',R1.sta,q,λv2 H2 R2=>k v2 H2 ⟨R2.sta,R1.frm.trans R2.frm,λz=>by
    simp only[Af] at z
    exact(R1.pur z.1.1).trans (R2.pur z.2),R2.rep.mono (g2 _ λz=>((Af _ _).mp z).2) (g1 _ λz=>((Af _ _).mp z).2)⟩⟩
noncomputable def f3(o o':dE->dE->Option dE)(fa fb fc:VF):VF:=λδ=>(fa δ).bind λp=>(fb p.2).bind λq=>(o p.1 q.1).bind λz=>match z with
 | .bl true=>(fc q.2).bind λs=>(o' q.1 s.1).map λu=>(u,s.2)
 | .bl false=>some (.bl false,q.2)
 |_=>none
theorem JU(ho:PQ K r o)(ho':PQ K r' o')(hs:(pb || (ta && ia))=true)(hs':(pc || (tb && ib))=true){Q:VK}(h:TV K ml (pa && pb && pc) true true (f3 o o' fa fb fc) σ H Q):HA r r' (TV K ml pa ta ia fa) (TV K ml pb tb ib fb) (TV K ml pc tc ic fc) σ H Q:=by
 obtain⟨B,O,δ,d,δ3,S,q,k⟩:=h
 unfold f3 at q
 cases h1:fa δ with
 | none => rw [h1] at q;cases q
 |some p=>
  obtain⟨x,δ1⟩:=p
  rw[h1] at q
  cases h2:fb δ1 with
  | none => simp [h2] at q
  |some p2=>
   obtain⟨y,δ2⟩:=p2
   simp only[Ak,h2] at q
   refine⟨B,O,δ,x,δ1,S,h1,λv1 H1 R1=>⟨B,O,δ1,y,δ2,R1.sta,h2,λv2 H2 R2=> ?_⟩⟩
   cases h3:o x y with
   | none => rw [h3] at q;cases q
   |some z=>
    rw[h3] at q
    refine ho H2 _ _ _ _ v1 v2 x y z _ (R2.live hs R1.rep) R2.rep h3 λv hv=> ?_
    have hv := hv (λ_ => none) (λ_ => True) λ_ => True
    cases z with
    |bl kk=>
     have e1:v= .bl kk:=by cases hv;rfl
     refine⟨kk,e1,?_⟩
     cases kk with
     |false=>
      cases q
      exact PH (k _ H2 ⟨R2.sta,R1.frm.trans R2.frm,λz=>by
       simp only[Af] at z
       exact(R1.pur z.1.1).trans (R2.pur z.1.2),.bl _⟩)
     |true=>
      have q:((fc δ2).bind λs=>(o' y s.1).map λu=>(u,s.2))=some (d,δ3):=q
      cases h4:fc δ2 with
      | none => rw [h4] at q;cases q
      |some p4=>
       obtain⟨z4,δ4⟩:=p4
       rw[h4] at q
       have q:((o' y z4).map λu=>(u,δ4))=some (d,δ3):=q
       cases h5:o' y z4 with
       | none => rw [h5] at q;cases q
       |some u=>
        rw[h5] at q
        cases q
        refine PJ ⟨B,O,δ2,z4,_,R2.sta,h4,λv4 H4 R4=> ?_⟩
        exact ho' H4 _ _ _ _ v2 v4 y z4 d Q (R4.live hs' R2.rep) R4.rep h5 λv hv=>k v H4 ⟨R4.sta,(R1.frm.trans R2.frm).trans R4.frm,λz=>by
         simp only[Af] at z
         exact((R1.pur z.1.1).trans (R2.pur z.1.2)).trans (R4.pur z.2),hv _ _ _⟩
    |_=>cases q
theorem BE{op op':CmpOp}(ho:WT X (De op) r)(ho':WT X (De op') r')(hv:PQ K r o)(hv':PQ K r' o')(ha:PE X a (TV K ml pa ta ia fa))(hb:PE X b (TV K ml pb tb ib fb))(hc:PE X c (TV K ml pc tc ic fc))
  (hm:Oq [op,op'] [b,c]=false:=by with_unfolding_all rfl) (hs:(pb || (ta && ia))=true:=by rfl) (hs':(pc || (tb && ib))=true:=by rfl):PE X (.Compare a [op,op'] [b,c] pos) (TV K ml (pa && pb && pc) true true (f3 o o' fa fb fc)):=
 (zAJ ho ho' ha hb hc hm).imp λ_ _ _ h=>JU hv hv' hs hs' h
theorem JZ{op op':CmpOp}(ho:WT X (De op) r)(ho':WT X (De op') r')(hv:PQ K r o)(hv':PQ K r' o')(ha:PE X a (TV K ml pa ta ia fa))(hb:PE X b (TV K ml pb tb ib fb))(hc:PE X c (TV K ml pc tc ic fc))
  (hm:Oq [op,op'] [b,c]=false:=by with_unfolding_all rfl) (hs:(pb || (ta && ia))=true:=by rfl) (hs':(pc || (tb && ib))=true:=by rfl):PT X (.Compare a [op,op'] [b,c] pos) (TB K ml (pa && pb && pc) (fB (f3 o o' fa fb fc))):=
 (zA7 ho ho' ha hb hc hm).imp λ_ _ _ h=>LM (λ_ _ _=>JU hv hv' hs hs') h
end
section
variable{X:Cx}{K:An}{ml:List Nat}{e a b c:Expr}{es:List Expr}{pa ta ia pb tb ib pc tc ic pu bt bi ps bs:Bool}{fa fb fc:VF}{B:Bs}{O:Nat->Option Addr}{H H1 H':Hp}{σ:St}{δ δ':Ev}{v:V}{d:dE}{p:Addr}{pos:Pos}
noncomputable def f1(o:dE->Option dE)(fa:VF):VF:=λδ=>(fa δ).bind λp=>(o p.1).map λc=>(c,p.2)
theorem NS{o:dE->Option dE}(h:f1 o fa δ=some (d,δ')): ∃x,fa δ=some (x,δ')/\o x=some d:=by
 unfold f1 at h
 cases h1:fa δ with
 | none => rw [h1] at h;cases h
 |some p=>
  rw[h1] at h
  have h:((o p.1).map λc=>(c,p.2))=some (d,δ'):=h
  cases h3:o p.1 with
  |none=>rw[h3] at h;cases h
  |some c=>
   rw[h3] at h
   cases h
   exact⟨p.1,rfl,h3⟩
abbrev RC:=List V->Hp->VK->Prop
def CalS(K:An)(r:RC)(o:dE->Option dE):Prop:= ∀(H:Hp) (N M:Addr->Prop) (x:V) (d c:dE) (Q:VK),bG K N H M x d->o d=some c->(∀v,(∀H' N M,bG K N H' M v c)->Q v H)->r [x] H Q
def CalC(K:An)(r:RC)(o:dE->Option dE):Prop:= ∀(H:Hp) (N M:Addr->Prop) (x:V) (d c:dE) (Q:VK),bG K N H M x d->o d=some c→
 (∀v H',a8 H H'->(∀M,(∀a,M a-> ∃o,H a=some o)->bG K N H' M v c)->Q v H')->r [x] H Q
def CalN(K:An)(r:RC)(o:dE->Option dE):Prop:= ∀(H:Hp) (N M:Addr->Prop) (x:V) (d c:dE) (Q:VK),bG K N H M x d->o d=some c→
 (∀p xs ds,H p=none->cO K N H xs ds->c= .lst ds->Q (.ref p) (bA H p (.lst xs)))->r [x] H Q
def LO(K:An)(r:RC)(o:dE->dE->Option dE):Prop:= ∀(H:Hp) (N N' M M':Addr->Prop) (x y:V) (d e c:dE) (Q:VK),bG K N H M x d->bG K N' H M' y e->o d e=some c->(∀v,(∀H' N M,bG K N H' M v c)->Q v H)->r [x,y] H Q
theorem DY{r:RC}{o:dE->Option dE}(ho:CalS K r o){Q:VK}(h:TV K ml pa true true (f1 o fa) σ H Q):tCB r (MW (TV K ml pa ta ia fa) A1) σ H Q:=by
 obtain⟨B,O,δ,d,δ',S,q,k⟩:=h
 obtain⟨x,h1,h2⟩:=NS q
 exact⟨B,O,δ,x,δ',S,h1,λv1 H1 R1=>ho H1 _ _ v1 x d Q R1.rep h2 λv hv=>k v H1 ⟨R1.sta,R1.frm,R1.pur,hv _ _ _⟩⟩
theorem DX{r:RC}{o:dE->Option dE}(ho:CalC K r o){Q:VK}(h:TV K ml pa true ia (f1 o fa) σ H Q):tCB r (MW (TV K ml pa ta ia fa) A1) σ H Q:=by
 obtain⟨B,O,δ,d,δ',S,q,k⟩:=h
 obtain⟨x,h1,h2⟩:=NS q
 exact⟨B,O,δ,x,δ',S,h1,λv1 H1 R1=>ho H1 _ _ v1 x d Q R1.rep h2 λv H2 s2 hv=>k v H2 ⟨R1.sta.same s2,R1.frm.trans s2.fr,λz=>(R1.pur z).trans s2,hv _ λa z=>R1.sta.nin z⟩⟩
theorem MY{r:RC}{o:dE->Option dE}(ho:CalN K r o){Q:VK}(h:TN K ml pa (f1 o fa) σ H Q):tCB r (MW (TV K ml pa ta true fa) A1) σ H Q:=by
 obtain⟨B,O,δ,d,δ',S,q,k⟩:=h
 obtain⟨x,h1,h2⟩:=NS q
 refine⟨B,O,δ,x,δ',S,h1,λv1 H1 R1=>ho H1 _ _ v1 x d Q R1.rep h2 λp xs ds hp hr he=> ?_⟩
 subst he
 exact k p _ (mkN R1.sta R1.frm R1.pur hp hr)
theorem DZ{r:RC}{o:dE->dE->Option dE}(ho:LO K r o)(hs:(pb || (ta && ia))=true){Q:VK}(h:TV K ml (pa && pb) true true (f2 o fa fb) σ H Q):tCB r (MW (TV K ml pa ta ia fa) (MW (TV K ml pb tb ib fb) A1)) σ H Q:=by
 obtain⟨B,O,δ,d,δ2,S,q,k⟩:=h
 obtain⟨x,δ1,y,h1,h2,h3⟩:=QJ q
 refine⟨B,O,δ,x,δ1,S,h1,λv1 H1 R1=>⟨B,O,δ1,y,δ2,R1.sta,h2,λv2 H2 R2=> ?_⟩⟩
 exact ho H2 _ _ _ _ v1 v2 x y d Q (R2.live hs R1.rep) R2.rep h3 λv hv=>k v H2 ⟨R2.sta,R1.frm.trans R2.frm,λz=>by
  obtain⟨z1,z2⟩:=(Af _ _).mp z
  exact(R1.pur z1).trans (R2.pur z2),hv _ _ _⟩
section
variable{x:Str}{p':Pos}{id T:String}{r:RC}
theorem BA{o:dE->Option dE}(hc:Z4 X (.builtin id) r)(ho:CalS K r o)(hg:Gl X x)(hm:X.mg x=none)(hv:Bg x=some (.builtin id))(ha:PE X a (TV K ml pa ta ia fa))(hn:x≠ "__name__":=by decide) (hdb:(x==("__debug__":Str))=false:=by decide)
  (he:Ah (a::[]) X.env=(false,eval a X.env)::Ah [] X.env:=by rfl):PE X (.Call (.Name x p') [a] [] pos) (TV K ml pa true true (f1 o fa)):=
 (OF hc hg hm hv (bW ha ZR he) hn hdb he).imp λ_ _ _ h=>DY ho h
theorem M3{o:dE->dE->Option dE}(hc:Z4 X (.builtin id) r)(ho:LO K r o)(hg:Gl X x)(hm:X.mg x=none)(hv:Bg x=some (.builtin id))(ha:PE X a (TV K ml pa ta ia fa))(hb:PE X b (TV K ml pb tb ib fb))(hn:x≠ "__name__":=by decide) (hdb:(x==("__debug__":Str))=false:=by decide)
  (he:Ah (a::[b]) X.env=(false,eval a X.env)::Ah [b] X.env:=by rfl) (he2:Ah (b::[]) X.env=(false,eval b X.env)::Ah [] X.env:=by rfl) (hpl:(Ez pos (Ah [b] X.env)).any (·.1)=false:=by rfl) (hs:(pb || (ta && ia))=true:=by rfl):
  PE X (.Call (.Name x p') [a,b] [] pos) (TV K ml (pa && pb) true true (f2 o fa fb)):=
 (OF hc hg hm hv (bW ha (bW hb ZR he2) he) hn hdb he hpl).imp λ_ _ _ h=>DZ ho hs h
theorem JW{o:dE->Option dE}(hc:Z4 X (.type T) r)(ho:CalC K r o)(hg:Gl X x)(hm:X.mg x=none)(hv:Bg x=some (.type T))(ha:PE X a (TV K ml pa ta ia fa))(hn:x≠ "__name__":=by decide) (hdb:(x==("__debug__":Str))=false:=by decide)
  (he:Ah (a::[]) X.env=(false,eval a X.env)::Ah [] X.env:=by rfl):PE X (.Call (.Name x p') [a] [] pos) (TV K ml pa true ia (f1 o fa)):=
 (W7 hc hg hm hv (bW ha ZR he) hn hdb he).imp λ_ _ _ h=>DX ho h
theorem BI{o:dE->Option dE}(hc:Z4 X (.type T) r)(ho:CalN K r o)(hg:Gl X x)(hm:X.mg x=none)(hv:Bg x=some (.type T))(ha:PE X a (TV K ml pa ta true fa))(hn:x≠ "__name__":=by decide) (hdb:(x==("__debug__":Str))=false:=by decide)
  (he:Ah (a::[]) X.env=(false,eval a X.env)::Ah [] X.env:=by rfl):PE X (.Call (.Name x p') [a] [] pos) (TN K ml pa (f1 o fa)):=
 (W7 hc hg hm hv (bW ha ZR he) hn hdb he).imp λ_ _ _ h=>MY ho h
theorem zIK{o:dE->Option dE}(hc:Z4 X (.builtin id) r)(ho:CalN K r o)(hg:Gl X x)(hm:X.mg x=none)(hv:Bg x=some (.builtin id))(ha:PE X a (TV K ml pa ta true fa))(hn:x≠ "__name__":=by decide) (hdb:(x==("__debug__":Str))=false:=by decide)
  (he:Ah (a::[]) X.env=(false,eval a X.env)::Ah [] X.env:=by rfl):PE X (.Call (.Name x p') [a] [] pos) (TN K ml pa (f1 o fa)):=
 (OF hc hg hm hv (bW ha ZR he) hn hdb he).imp λ_ _ _ h=>MY ho h
end
noncomputable def ZB:dE->Option dE
 | .tup ds=>some (.int ds.length)
 | .lst ds=>some (.int ds.length)
 | .str z=>if z.length<=16777216 then some (.int z.length) else none
 |_=>none
def rLen(K:An):RC:=λxs H Q=>(∃p ys,xs=[.ref p]/\(W8 K H p ys∨WC K H p ys)/\Q (.int ys.length) H)∨ ∃z,xs=[.str z]/\z.length<=sizeLine/\Q (.int z.length) H
theorem zKA(h:X.K=K):Z4 X (.builtin "len") (rLen K):=by subst h;exact KD.or KG
theorem zJ6:CalS K (rLen K) ZB:=by
  intro H N M x d c Q hx h k
  cases d<;>first
    | (rename_i ds
       obtain⟨a,xs,rfl,sq,r⟩:=hx.seq rfl
       cases h
       refine .inl ⟨a,xs,rfl,sq,?_⟩
       rw[r.length]
       exact k _ λ_ _ _=> .int _)
    | (cases hx
       simp only[ZB] at h
       split at h
       · cases h
         exact .inr ⟨_,rfl,by rw[Db];assumption,k _ λ_ _ _=> .int _⟩
       · cases h)
    |cases h
def MJ(d:dE):Option dE:=(YV d).map dE.lst
def UT(d:dE):Option dE:=(YV d).map dE.tup
def LD(K:An):RC:=λxs H Q=> ∃p ys,xs=[.ref p]/\(W8 K H p ys∨WC K H p ys)/\ ∀l,H l=none->Q (.ref l) (bA H l (.lst ys))
def FA(K:An):RC:=λxs H Q=> ∃p ys,xs=[.ref p]/\((W8 K H p ys/\ ∀l,H l=none->Q (.ref l) (bA H l (.tup ys)))∨(WC K H p ys/\Q (.ref p) H))
theorem K5(h:X.K=K):Z4 X (.type "list") (LD K):=zK9 h
theorem RE(h:X.K=K):Z4 X (.type "tuple") (FA K):=zHV h
theorem JN{d:dE}{g:List dE->dE}{c:dE}(h:(YV d).map g=some c): ∃ds,YV d=some ds/\c=g ds:=by
 cases h1:YV d with
 |none=>rw[h1] at h;cases h
 |some ds=>rw[h1] at h;cases h;exact⟨ds,rfl,rfl⟩
theorem WK:CalN K (LD K) MJ:=by
 intro H N M x d c Q hx h k
 obtain⟨ds,h1,rfl⟩:=JN h
 obtain⟨a,xs,rfl,sq,r⟩:=hx.seq h1
 exact⟨a,xs,rfl,sq,λl hl=>k l xs ds hl r rfl⟩
theorem Q8:CalC K (FA K) UT:=by
 intro H N M x d c Q hx h k
 obtain⟨ds,h1,rfl⟩:=JN h
 obtain⟨a,xs,rfl,sq,r⟩:=hx.seq h1
 rcases sq with sq|sq
 ·exact⟨a,xs,rfl,.inl ⟨sq,λl hl=>k _ _ (cZ hl) λM hM=> .tup (WC.of cH) (r.same (cZ hl))⟩⟩
 ·exact⟨a,xs,rfl,.inr ⟨sq,k _ _ (a8.refl _) λM hM=> .tup sq r⟩⟩
noncomputable def o2I(g:Int->Int->Int):dE->dE->Option dE
 | .int i,.int j=>some (.int (g i j))
 |_,_=>none
theorem AG{g:Int->Int->Int}:LO K (λxs H Q=> ∃i j,xs=[.int i,.int j]/\Q (.int (g i j)) H) (o2I g):=by
 intro H N N' M M' x y d e c Q hx hy h k
 unfold o2I at h
 split at h
 ·cases h
  cases hx
  cases hy
  exact⟨_,_,rfl,k _ λ_ _ _=> .int _⟩
 ·cases h
abbrev oMax:=o2I λi j=>if j>i then j else i
abbrev oMin:=o2I λi j=>if j<i then j else i
theorem zDM:LO K (λxs H Q=> ∃i j,xs=[.int i,.int j]/\Q (.int (if j>i then j else i)) H) oMax:=AG
theorem AK:LO K (λxs H Q=> ∃i j,xs=[.int i,.int j]/\Q (.int (if j<i then j else i)) H) oMin:=AG
noncomputable def tyD:dE->Option String
 | .non=>some "NoneType"
 | .bl _=>some "bool"
 | .int _=>some "int"
 | .str _=>some "str"
 | .tup _=>some "tuple"
 | .lst _=>some "list"
 |_=>none
noncomputable def RD(t n:String):Option Bool:=if((Jt t)==(Jt n))=true then some true else if W.kitMeta n=true then(PySem.fastBuiltinMro t).map (·.contains (.type n)) else none
theorem zD7{t n:String}{k:Bool}(h:RD t n=some k):W.kitOne K (.type t) (.type n)=some k:=h
noncomputable def RH:dE->dE->Option dE
 |d,.ty n=>(tyD d).bind λt=>(RD t n).map dE.bl
 |_,_=>none
def rIsi(K:An):RC:=λxs H Q=> ∃x n d N M t k,xs=[x,.ty n]/\bG K N H M x d/\tyD d=some t/\RD t n=some k/\Q (.bl k) H
theorem CK:Z4 X (.builtin "isinstance") (rIsi X.K):=by
 intro aa s σ H xs us Q I r h
 obtain⟨x,n,d,N,M,t,k,rfl,hx,ht,hk,q⟩:=h
 obtain⟨u,c,rfl,rx,rc⟩:=FO r
 cases (show c=Jt n from rc)
 have e:=zD7 (K:=X.K) hk
 have fin: ∀tk,EP X aa σ Q (.bool k) {s with toks:=tk}:=λtk=>⟨.bl k,H,I.tok tk,rfl,q⟩
 cases hx with
 |non=>cases ht;exact T4 I rx (.non) e fin
 |bl y=>cases ht;exact T4 I rx (.bl y) e fin
 |int i=>cases ht;exact T4 I rx (.int i) e fin
 |str y=>cases ht;exact T4 I rx (.str y) e fin
 |ty n=>cases ht
 |fn _=>cases ht
 |dct _ _ _=>cases ht
 |ktb _ _=>cases ht
 |exn _ _ _=>cases ht
 |tup q _=>
  cases ht
  cases rx
  obtain⟨its,_,⟨o,h1,h2,_⟩,_⟩:=I.tuple q
  exact Fj W.kitx_tuple I.kIn ⟨o,h1,h2⟩ e (λz=>nomatch z) fin
 |lst q _ _=>
  cases ht
  cases rx
  obtain⟨its,_,⟨o,n,h1,h2,_⟩,_⟩:=I.list (W8.of q)
  exact Fj Mb I.kIn ⟨o,h1,h2⟩ e (λz=>nomatch z) fin
 |fzl q _=>
  cases ht
  cases rx
  obtain⟨its,_,⟨o,n,h1,h2,_⟩,_⟩:=I.list q.sq
  exact Fj Mb I.kIn ⟨o,h1,h2⟩ e (λz=>nomatch z) fin
theorem kIsi(h:X.K=K):Z4 X (.builtin "isinstance") (rIsi K):=by subst h;exact CK
theorem zJ7:LO K (rIsi K) RH:=by
  intro H N N' M M' x y d e c Q hx hy h k
  cases hy<;>first
    | (simp only [RH] at h
       cases h1:tyD d with
       | none => rw [h1] at h;cases h
       |some t=>
         rw[h1] at h
         rename_i n
         have h:(RD t n).map dE.bl=some c:=h
         cases h2:RD t n with
         | none => rw [h2] at h;cases h
         |some kk=>
           rw[h2] at h
           cases h
           exact⟨x,n,d,N,M,t,kk,rfl,hx,h1,h2,k _ λ_ _ _=> .bl _⟩)
    |cases h
def IT:dE->Option dE
 | .int i=>some (.int (-i))
 |_=>none
theorem Q0(ha:PE X a (TV K ml pa ta ia fa)):PE X (.UnaryOp .USub a pos) (TV K ml pa true true (f1 IT fa)):=(zJK zEL ha).imp λσ H Q q0=>by
 obtain⟨B,O,δ,d,δ',S,q,k⟩:=q0
 obtain⟨x,h1,h2⟩:=NS q
 refine⟨B,O,δ,x,δ',S,h1,λv1 H1 R1=> ?_⟩
 cases x with
 |int i=>
  cases h2
  have e1:v1= .int i:=by cases R1.rep;rfl
  exact⟨i,e1,k _ H1 ⟨R1.sta,R1.frm,R1.pur,.int _⟩⟩
 |_=>cases h2
abbrev VP:=Ev->Option (Option Int×Ev)
def TPO(K:An)(ml:List Nat)(pu:Bool)(f:VP):TO:=λσ H Q=> ∃B O δ k δ',aS K ml B O H σ δ/\f δ=some (k,δ')/\ ∀H',CD K ml B O H σ pu H' δ'->Q k H'
def DD:VP:=λδ=>some (none,δ)
noncomputable def GQ(f:VF):VP:=λδ=>(f δ).bind λp=>match p.1 with
 | .int i=>some (some i,p.2)
 |_=>none
theorem PO.imp{e:Option Expr}{t u:TO}(h:PO X e t)(k: ∀σ H Q,u σ H Q->t σ H Q):PO X e u:=λaa s σ H Q I w=>h aa s σ H Q I (k σ H Q w)
theorem SZ:PO X none (TPO K ml true DD):=zCL.imp λσ H Q q0=>by
 obtain⟨B,O,δ,d,δ',S,q,k⟩:=q0
 cases q
 exact k H (CD.refl S)
theorem S8(h:PE X a (TV K ml pa ta ia fa)):PO X (some a) (TPO K ml pa (GQ fa)):=(zCK h).imp λσ H Q q0=>by
 obtain⟨B,O,δ,d,δ',S,q,k⟩:=q0
 unfold GQ at q
 cases h1:fa δ with
 | none => rw [h1] at q;cases q
 |some p=>
  obtain⟨x,δ1⟩:=p
  rw[h1] at q
  refine⟨B,O,δ,x,δ1,S,h1,λv1 H1 R1=> ?_⟩
  cases x with
  |int i=>
   have e1:v1= .int i:=by cases R1.rep;rfl
   cases q
   exact⟨i,e1,k H1 ⟨R1.sta,R1.frm,R1.pur⟩⟩
  |_=>cases q
def WR(ds:List dE)(lo hi:Option Int):List dE:=(ds.drop (HT.sIx ds.length 0 lo)).take (HT.sIx ds.length ds.length hi - HT.sIx ds.length 0 lo)
theorem OV{N:Addr->Prop}{xs:List V}{ds:List dE}(r:cO K N H xs ds)(lo hi:Option Int):cO K N H (HW xs lo hi) (WR ds lo hi):=by
 unfold HW WR
 rw[r.length]
 exact(r.drop _).take _
noncomputable def oSl(d:dE)(lo hi:Option Int):Option dE:=match d with
 | .lst ds=>some (.lst (WR ds lo hi))
 | .tup ds=>some (.tup (WR ds lo hi))
 |_=>none
noncomputable def GA(fa:VF)(fl fh:VP):VF:=λδ=>(fa δ).bind λp=>(fl p.2).bind λl=>(fh l.2).bind λu=>(oSl p.1 l.1 u.1).map λc=>(c,u.2)
theorem DU{prog:Bn}{w:World}{A:Cy}{E:Value->Ag->Prop}{s:Ag}{t sl:Addr}{items:Array Value}{vl vu:Value}{lo hi:Option Int}{Q:Value->Ag->Prop}(ht:IsTup s.heap t items)(hs:s.heap.IsSliceOf sl vl vu .none)(pl:IsPart vl lo)
  (pu:IsPart vu hi) (h1:HT.sIx items.size 0 lo=0) (h2:HT.sIx items.size items.size hi=items.size) (h:Q (.ref t) s):wpAny (model prog w) A (Kg (.ref t) (.ref sl)) Q E s:=by
 obtain⟨os,hos,hcs,hds⟩:=id hs
 have hT:s.TypeIs (.ref sl) "slice":=⟨os,hos,hcs⟩
 unfold Kg
 try with_reducible refine Ce ?_
 first|refine Aa (Ai ?_)|skip
 refine Aa (Jw ht.typeIs (by decide) ?_)
 refine Aa (Di (name:=Bh "__getitem__") ht.typeIs Ed
  (Ec Ed ht.typeIs PyProof.Rows.entry_tuple_getitem ?_ (PyProof.Rows.args_tuple_getitem _ _)))
 show wpAny _ _ (Jh (.ref t)>>=_) _ _ s
 refine Aa (PyProof.Rows.tupleItemsOf_ ht ?_)
 refine Aa (Jl hT ?_)
 rw[if_pos (by decide)]
 refine Aa (HT.WA hs pl pu ?_)
 rw[h1,h2]
 show wpAny _ _ (if((((0:Nat):Int)==0 && (1:Int)==1 && (items.size - 0)==items.size)=true) then _ else _) _ _ s
 rw[if_pos (by simp)]
 refine Aa (m:=Po _) (Aa (Jl ht.typeIs (Ai ?_)))
 rw[if_pos (by decide)]
 exact Aa (Gc (Ai ⟨_,rfl,Ai h⟩))
def rSlW(K:An):V->Option Int->Option Int->Hp->VK->Prop:=λx lo hi H Q=> ∃a xs,x= .ref a/\WC K H a xs/\(HT.sIx xs.length 0 lo=0/\HT.sIx xs.length xs.length hi=xs.length)/\Q (.ref a) H
theorem zC6:SlR X (rSlW X.K):=by
 intro aa s σ H x v vl vu lo hi sl Q I rx hs pl pu h
 obtain⟨a,xs,rfl,hx,hw,q⟩:=h
 cases rx
 obtain⟨its,r,ht,hz⟩:=I.tuple hx
 have ai:its.toArray.size=xs.length:=by rw[Aq];exact r.length.symm
 refine⟨"tuple",_,PyProof.Rows.slot_tuple_getitem.lookup,ht.typeIs,?_⟩
 exact DU ht hs pl pu (by rw[ai];exact hw.1) (by rw[ai];exact hw.2) ⟨.ref a,H,I,rfl,q⟩
def rSl(K:An):V->Option Int->Option Int->Hp->VK->Prop:=λx lo hi H Q=>(rSlT K x lo hi H Q∨rSlL K x lo hi H Q)∨rSlW K x lo hi H Q
theorem kSl(h:X.K=K):SlR X (rSl K):=by subst h;exact(zEW.or zC7).or zC6
theorem zDA{fl fh:VP}(h:GA fa fl fh δ=some (d,δ')): ∃x δ1 l δ2 u,fa δ=some (x,δ1)/\fl δ1=some (l,δ2)/\fh δ2=some (u,δ')/\oSl x l u=some d:=by
 unfold GA at h
 cases h1:fa δ with
 | none => rw [h1] at h;cases h
 |some p=>
  rw[h1] at h
  cases h2:fl p.2 with
  | none => simp [h2] at h
  |some q=>
   simp only[Ak,h2] at h
   cases h3:fh q.2 with
   | none => simp [h3] at h
   |some s=>
    simp only[Ak,h3] at h
    cases h4:oSl p.1 q.1 s.1 with
    |none=>rw[h4] at h;cases h
    |some c=>
     rw[h4] at h
     cases h
     exact⟨p.1,p.2,q.1,q.2,s.1,rfl,h2,h3,h4⟩
theorem SY{lo hi:Option Expr}{p2:Pos}{fl fh:VP}(hK:X.K=K)(ha:PE X a (TV K ml pa ta ia fa))(hl:PO X lo (TPO K ml pb fl))(hh:PO X hi (TPO K ml pc fh))(hs:(pb && pc || (ta && ia))=true:=by rfl):
  PE X (.Subscript a (.Slice lo hi none p2) pos) (TV K ml (pa && pb && pc) true ia (GA fa fl fh)) := (zAD (kSl hK) ha hl hh).imp λσ H Q ⟨B,O,δ,d,δ3,S,q,k⟩ => by
 obtain⟨x,δ1,l,δ2,u,h1,h2,h3,h4⟩:=zDA q
 refine⟨B,O,δ,x,δ1,S,h1,λv1 H1 R1=>⟨B,O,δ1,l,δ2,R1.sta,h2,λH2 R2=>⟨B,O,δ2,u,δ3,R2.sta,h3,λH3 R3=> ?_⟩⟩⟩
 have hx:bG K (av B O ia) H3 (at_ B O ta) v1 x:=by
  rcases(He _ _).mp hs with z|z
  ·obtain⟨z1,z2⟩:=(Af _ _).mp z
   exact(R1.rep.same (R2.pur z1)).same (R3.pur z2)
  ·obtain⟨z1,z2⟩:=(Af _ _).mp z
   subst z1 z2
   exact(R1.rep.fr R2.frm (λa z=> .inr z) λa z=> .inr z).fr R3.frm (λa z=> .inr z) λa z=> .inr z
 have ga:(pa && pb && pc)=true->a8 H H3:=λz=>by
  simp only[Af] at z
  exact((R1.pur z.1.1).trans (R2.pur z.1.2)).trans (R3.pur z.2)
 have hfr:=(R1.frm.trans R2.frm).trans R3.frm
 cases x with
 |lst ds=>
  cases h4
  obtain⟨a,xs,rfl,sq,r⟩:=hx.seq rfl
  rcases sq with sq|sq
  ·exact .inl (.inr ⟨a,xs,rfl,sq,λp hp => k _ _ ⟨R3.sta.same (cZ hp),hfr.trans (cZ hp).fr,λz => (ga z).trans (cZ hp),.lst cH (R3.sta.new hp) ((OV r l u).same (cZ hp))⟩⟩)
  ·cases hx with
   | lst q n r' => exact .inl (.inr ⟨a,_,rfl,W8.of q,λp hp => k _ _ ⟨R3.sta.same (cZ hp),hfr.trans (cZ hp).fr,λz => (ga z).trans (cZ hp),.lst cH (R3.sta.new hp) ((OV r' l u).same (cZ hp))⟩⟩)
   | fzl q r' => exact .inl (.inr ⟨a,_,rfl,q.sq,λp hp => k _ _ ⟨R3.sta.same (cZ hp),hfr.trans (cZ hp).fr,λz => (ga z).trans (cZ hp),.lst cH (R3.sta.new hp) ((OV r' l u).same (cZ hp))⟩⟩)
 |tup ds=>
  cases h4
  cases hx with
  |tup q r'=>
   by_cases hw:HT.sIx ds.length 0 l=0/\HT.sIx ds.length ds.length u=ds.length
   ·refine .inr ⟨_,_,rfl,q,by rw [r'.length];exact hw,k _ _ ⟨R3.sta,hfr,ga,?_⟩⟩
    have e:WR ds l u=ds:=by
     unfold WR
     rw[hw.1,hw.2]
     simp
    rw[e]
    exact .tup q r'
   ·exact .inl (.inl ⟨_,_,rfl,q,by rw[r'.length];exact hw,λp hp=>k _ _ ⟨R3.sta.same (cZ hp),hfr.trans (cZ hp).fr,λz=>(ga z).trans (cZ hp),.tup (WC.of cH) ((OV r' l u).same (cZ hp))⟩⟩)
 |_=>cases h4
end
inductive Ou where
 |nx (δ:Ev)|rt (d:dE) (δ:Ev)|bk (δ:Ev)|ct (δ:Ev)
abbrev VS:=Ev->Option Ou
def Post(K:An)(ml:List Nat)(B:Bs)(D:FT):Ou->Prop
 | .nx δ'=> ∀σ' H' O',aS K ml B O' H' σ' δ'->D.nx σ' H'
 | .rt d δ'=> ∀v σ' H' O',aS K ml B O' H' σ' δ'->bG K (rz B) H' (rz B) v d->D.rt v H'
 | .bk δ'=> ∀σ' H' O',aS K ml B O' H' σ' δ'->D.bk σ' H'
 | .ct δ'=> ∀σ' H' O',aS K ml B O' H' σ' δ'->D.ct σ' H'
def TM(K:An)(ml:List Nat)(g:VS):TS:=λD σ H=> ∃B O δ o,aS K ml B O H σ δ/\g δ=some o/\Post K ml B D o
section
variable{X:Cx}{K:An}{ml:List Nat}{e a b c:Expr}{es:List Expr}{pa ta ia pb tb ib pc tc ic pu bt bi ps bs:Bool}{fa fb fc f:VF}{B B':Bs}{O:Nat->Option Addr}{H H1 H':Hp}{σ:St}{δ δ':Ev}{v:V}{d:dE}{p:Addr}{pos:Pos}{st:Stmt}{rest:List Stmt}{g g':VS}
def aH:VS:=λδ=>some (.nx δ)
def cK(g g':VS):VS:=λδ=>(g δ).bind λo=>match o with
 | .nx δ'=>g' δ'
 |o=>some o
theorem cL:PR X [] (TM K ml aH):=E3.imp λD σ H q0=>by
 obtain⟨B,O,δ,o,S,q,k⟩:=q0
 cases q
 exact k σ H O S
theorem c9(h1:PS X st (TM K ml g))(h2:PR X rest (TM K ml g')):PR X (st::rest) (TM K ml (cK g g')):=(JE h1 h2).imp λD σ H q0=>by
 obtain⟨B,O,δ,o,S,q,k⟩:=q0
 unfold cK at q
 cases h1:g δ with
 |none=>rw[h1] at q;cases q
 |some z=>
  rw[h1] at q
  refine⟨B,O,δ,z,S,h1,?_⟩
  cases z with
  |nx δ1=>exact λσ' H' O' S'=>⟨B,O',δ1,o,S',q,k⟩
  |rt d δ1=>cases q;exact k
  |bk δ1=>cases q;exact k
  |ct δ1=>cases q;exact k
theorem c8(h1:PS X st (TM K ml g)):PR X [st] (TM K ml g):=(JE h1 E3).imp λD σ H ⟨B,O,δ,o,S,q,k⟩=>⟨B,O,δ,o,S,q,by cases o<;>exact k⟩
noncomputable def cC(f:VF):VS:=λδ=>(f δ).map λp=> .rt p.1 p.2
theorem cW(h:PE X e (TV K ml pu bt bi f))(ht:bt=true:=by rfl):PS X (.Return (some e) pos) (TM K ml (cC f)):=(zAA h).imp λD σ H q0=>by
 obtain⟨B,O,δ,o,S,q,k⟩:=q0
 unfold cC at q
 cases h1:f δ with
 |none=>rw[h1] at q;cases q
 |some p=>
  rw[h1] at q
  cases q
  subst ht
  exact⟨B,O,δ,p.1,p.2,S,h1,λv H' R=>k v σ H' O R.sta (R.rep.mono R.sta.rza R.sta.rzn)⟩
theorem zBY{i:Nat}(h:PE X e (PN i))(hm:i∉ml:=by decide):PS X (.Return (some e) pos) (TM K ml (cC (fO i))):=(zAA h).imp λD σ H q0=>by
 obtain⟨B,O,δ,o,S,q,k⟩:=q0
 unfold cC at q
 cases h1:fO i δ with
 |none=>rw[h1] at q;cases q
 |some p=>
  obtain⟨x,δ1⟩:=p
  rw[h1] at q
  cases q
  obtain⟨rfl,v,e1,r⟩:=S.lone hm h1
  exact⟨v,e1,k v σ H O S (r.mono S.rza S.rza)⟩
def MR(f:VF):VS:=λδ=>(f δ).map λp=> .nx p.2
theorem LN(h:PE X e (TV K ml pu bt bi f))(hs:Fu e none pos.line X.env=pure false:=by rfl):PS X (.Expr e pos) (TM K ml (MR f)):=(E2 h hs).imp λD σ H q0=>by
 obtain⟨B,O,δ,o,S,q,k⟩:=q0
 unfold MR at q
 cases h1:f δ with
 |none=>rw[h1] at q;cases q
 |some p=>
  rw[h1] at q
  cases q
  exact⟨B,O,δ,p.1,p.2,S,h1,λv H' R=>k σ H' O R.sta⟩
def XR(t:VB)(g g':VS):VS:=λδ=>(t δ).bind λp=>if p.1=true then g p.2 else g' p.2
theorem bP{x y:List Stmt}{t:VB}(ht:PT X c (TB K ml pc t))(ha:PR X x (TM K ml g))(hb:PR X y (TM K ml g')):PS X (.If c x y pos) (TM K ml (XR t g g')):=(zJJ ht ha hb).imp λD σ H q0=>by
 obtain⟨B,O,δ,o,S,q,k⟩:=q0
 unfold XR at q
 cases h1:t δ with
 |none=>rw[h1] at q;cases q
 |some p=>
  obtain⟨kk,δ1⟩:=p
  rw[h1] at q
  refine⟨B,O,δ,kk,δ1,S,h1,λH1 R1=> ?_⟩
  cases kk with
  |true=>exact PJ ⟨B,O,δ1,o,R1.sta,q,k⟩
  |false=>exact PH ⟨B,O,δ1,o,R1.sta,q,k⟩
abbrev VX:=Ev->Option (Sl×Ev)
inductive St1(K:An)(B:Bs)(O:Nat->Option Addr)(H:Hp):Bs->V->Sl->Prop
 |va {v:V} {d:dE}:St1 K B O H {B with kp:=[(v,d)]++B.kp} v (.va d)
 |ol {p:Addr} {xs:List V} {ds:List dE}:H p=some (.lst xs)->xs.length=ds.length-> ¬Nn B O p->B.H0 p=none->St1 K B O H {B.add p with kp:=xs.zip ds++B.kp} (.ref p) (.ow (.lst ds))
 |od {p:Addr} {kvs:List (aR×V)} {ds:List dE}:H p=some (.dK kvs)->kvs.length=ds.length-> ¬Nn B O p->B.H0 p=none->St1 K B O H {B.add p with kp:=(kvs.map Eg).zip ds++B.kp} (.ref p) (.ow (.dct (kvs.map Dj) ds))
theorem St1.fr{s:Sl}(h:St1 K B O H B' v s)(f:Fr (OA O) H H'):St1 K B O H' B' v s:=by
 cases h with
 |va=>exact .va
 |ol q l n z=>exact .ol (f _ _ q λw=>absurd (.inr w) n) l n z
 |od q l n z=>exact .od (f _ _ q λw=>absurd (.inr w) n) l n z
def TX(K:An)(ml:List Nat)(f:VX):TE:=λσ H Q=> ∃B O δ s δ',aS K ml B O H σ δ/\f δ=some (s,δ')/\ ∀v H' B',aS K ml B' O H' σ δ'->St1 K B O H' B' v s->Fr (OA O) H H'->Q v H'
noncomputable def xV(f:VF):VX:=λδ=>(f δ).map λp=>(.va p.1,p.2)
noncomputable def xO(f:VF):VX:=λδ=>(f δ).map λp=>(.ow p.1,p.2)
theorem aI(h:PE X e (TV K ml pu true true f)):PE X e (TX K ml (xV f)):=h.imp λσ H Q q0=>by
 obtain⟨B,O,δ,o,δ',S,q,k⟩:=q0
 unfold xV at q
 cases h1:f δ with
 | none => rw [h1] at q;cases q
 |some p=>
  rw[h1] at q
  cases q
  exact⟨B,O,δ,p.1,p.2,S,h1,λv H' R=>k v H' _ (R.sta.keepV (ps:=[(v,p.1)]) λz hz=>by
   rw[As.mp hz]
   exact R.rep) .va R.frm⟩
theorem UD{N:Addr->Prop}: ∀{xs:List V} {ds:List dE},cO K N H xs ds-> ∀z∈xs.zip ds,bG K N H N z.1 z.2
 |_,_,.nil,z,hz=>nomatch hz
 |_,_,.cons h t,z,hz=>by
  rcases Aj.mp hz with e|e
  ·rw[e];exact h
  ·exact UD t z e
theorem VY{N:Addr->Prop}: ∀{xs:List V} {ds:List dE},xs.length=ds.length->(∀z∈xs.zip ds,bG K N H N z.1 z.2)->cO K N H xs ds
 |[],[],_,_=> .nil
 |x::xs,d::ds,hl,h=> .cons (h (x,d) (Ba ..)) (VY (by simpa using hl) λz hz=>h z (Ao _ hz))
theorem VH(h:PE X e (TN K ml pu f)):PE X e (TX K ml (xO f)):=h.imp λσ H Q q0=>by
 obtain⟨B,O,δ,o,δ',S,q,k⟩:=q0
 unfold xO at q
 cases h1:f δ with
 |none=>rw[h1] at q;cases q
 |some p=>
  obtain⟨d,δ1⟩:=p
  rw[h1] at q
  cases q
  refine⟨B,O,δ,d,δ1,S,h1,λp H' R=> ?_⟩
  have w:=R.own
  cases w with
  |lst q r=>exact k _ H' _ (R.sta.keepV (UD r)) (.ol q r.length R.nz R.h0) R.frm
  |dct q r=>exact k _ H' _ (R.sta.keepV (UD r)) (.od q (by simpa using r.length) R.nz R.h0) R.frm
theorem St1.bind{O':Nat->Option Addr}{s:Sl}{i:Nat}(h:St1 K B O H' B' v s)(S:aS K ml B' O' H' σ δ)(hm:i∉ml)(hl:i<δ.length): ∃O'',aS K ml B O'' H' (σ.set i (some v)) (δ.set i s):=by
 cases h with
 |va=>
  refine⟨_,aS.unkeep (ps:=_) (S.setVa hm (S.kep _ (Bp _ (As.mpr rfl))))⟩
 |ol q l n z=>
  refine⟨_,aS.setOw (aS.unkeep (B:=B.add _) S) hm hl (λw=>n (.inl w)) z (.lst q (VY l λz hz=>S.kep z (Bp _ hz)))⟩
 |od q l n z=>
  refine⟨_,aS.setOw (aS.unkeep (B:=B.add _) S) hm hl (λw=>n (.inl w)) z (.dct q (VY (by simpa using l) λz hz=>S.kep z (Bp _ hz)))⟩
noncomputable def aC(i:Nat)(x:VX):VS:=λδ=>(x δ).bind λp=>if i<p.2.length then some (.nx (p.2.set i p.1)) else none
theorem bN{i:Nat}{y:Str}{x:VX}{bh:Pos}(hN:X.N.Nodup)(he:PE X e (TX K ml x))(hi:X.N[i]? =some y:=by rfl)(hx:B6 X.env.scope y:=by first|exact .inl rfl|exact .inr rfl)(hm:i∉ml:=by decide)(hs:Fu e (some (.Name y bh)) pos.line X.env=pure false:=by rfl)
  (hf : X.fn y = true ∨ X.env.scope.names.lookup y = some .local := by first | exact .inl rfl | exact .inr rfl | assumption) : PS X (.Assign [.Name y bh] e pos) (TM K ml (aC i x)) := (zFR hN hi hx he hs hf).imp λD σ H ⟨B,O,δ,o,S,q,k⟩ => by
 unfold aC at q
 cases h1:x δ with
 | none => rw [h1] at q;cases q
 |some p=>
  obtain⟨s,δ1⟩:=p
  rw[h1] at q
  have q:(if i<δ1.length then some (Ou.nx (δ1.set i s)) else none)=some o:=q
  split at q
  ·rename_i hl
   cases q
   refine⟨B,O,δ,s,δ1,S,h1,λv H' B' S' h' f'=> ?_⟩
   obtain⟨O'',S''⟩:=h'.bind S' hm hl
   exact k _ _ _ S''
  ·cases q
noncomputable def JM(i j:Nat)(x y:VX):VS:=λδ=>(x δ).bind λp=>(y p.2).bind λq=>if i<q.2.length/\j<q.2.length then some (.nx ((q.2.set j q.1).set i p.1)) else none
theorem FQ{i j:Nat}{y z:Str}{fx fy:VX}{px py pt:Pos}{kt k2 pt2}(hc:X.calm=true)(hN:X.N.Nodup)(hi:X.N[i]? =some y)(hj:X.N[j]? =some z)(hij:i≠j)
  (hx:X.env.scope.names.lookup y=some .local) (hy:X.env.scope.names.lookup z=some .local) (ha:PE X a (TX K ml fx)) (hb:PE X b (TX K ml fy))
  (hw : Fb [.Tuple [.Name y px,.Name z py] kt pt] (.Tuple [a,b] k2 pt2) X.env = pure (some [y,z])) (hmi : i ∉ ml := by decide) (hmj : j ∉ ml := by decide)
  (hs : Fa [.Tuple [.Name y px,.Name z py] kt pt] (.Tuple [a,b] k2 pt2) pos.line X.env = pure false := by rfl)
  (he : Ah (a :: [b]) X.env = (false,eval a X.env) :: Ah [b] X.env := by rfl) (he2 : Ah (b :: []) X.env = (false,eval b X.env) :: Ah [] X.env := by rfl) :
  PS X (.Assign [.Tuple [.Name y px,.Name z py] kt pt] (.Tuple [a,b] k2 pt2) pos) (TM K ml (JM i j fx fy)):=(zFS hc hN hi hj hij hx hy (bW ha (bW hb ZR he2) he) hw hs).imp λD σ H ⟨B,O,δ,o,S,q,k⟩=>by
 unfold JM at q
 cases h1:fx δ with
 | none => rw [h1] at q;cases q
 |some p=>
  obtain⟨s,δ1⟩:=p
  rw[h1] at q
  cases h2:fy δ1 with
  | none => simp [h2] at q
  |some p2=>
   obtain⟨s2,δ2⟩:=p2
   simp only[Ak,h2] at q
   split at q
   ·rename_i hl
    cases q
    refine⟨B,O,δ,s,δ1,S,h1,λv H1 B1 S1 w1 f1=>⟨B1,O,δ1,s2,δ2,S1,h2,λv2 H2 B2 S2 w2 f2=>⟨v,v2,rfl,?_⟩⟩⟩
    obtain⟨O3,S3⟩:=w2.bind S2 hmj hl.2
    obtain⟨O4,S4⟩:=(w1.fr f2).bind S3 hmi (by rw[Cj];exact hl.1)
    rw[Ef _ _ (Dk hij)] at S4
    exact k _ _ _ S4
   ·cases q
abbrev VG:=dE->Ev->Option Ev
def BR(K:An)(ml:List Nat)(h:VG):TG:=λv σ H Q=> ∃B O δ d δ',aS K ml B O H σ δ/\bG K (Nn B O) H (Nn B O) v d/\h d δ=some δ'/\ ∀σ' O',aS K ml B O' H σ' δ'->(∀i∈ml,σ'[i]? =σ[i]?)->Q σ' H
theorem PG.imp{t u:TG}(h:PG X e t)(k: ∀v σ H Q,u v σ H Q->t v σ H Q):PG X e u:=λaa s σ H v w Q I r z=>h aa s σ H v w Q I r (k v σ H Q z)
theorem D5.imp{t u:CF}(h:D5 X es t)(k: ∀v σ H Q,u v σ H Q->t v σ H Q):D5 X es u:=λaa s σ H v w Q I r z=>h aa s σ H v w Q I r (k v σ H Q z)
theorem PG.or{t u:TG}(h:PG X e t)(h':PG X e u):PG X e (λv σ H Q=>t v σ H Q∨u v σ H Q):=λaa s σ H v w Q I r z=>by
 rcases z with z|z
 ·exact h aa s σ H v w Q I r z
 ·exact h' aa s σ H v w Q I r z
def gN(i:Nat):VG:=λd δ=>some (δ.set i (.va d))
theorem cP{i:Nat}{x:Str}(hN:X.N.Nodup)(hi:X.N[i]? =some x:=by rfl)(hx:B6 X.env.scope x:=by first|exact .inl rfl|exact .inr rfl)(hm:i∉ml:=by decide)(hf:X.fn x=true∨X.env.scope.names.lookup x=some .local:=by first|exact .inl rfl|exact .inr rfl|assumption):PG X (.Name x pos) (BR K ml (gN i)):=
 (O9 hN hi hx hf).imp λv σ H Q q0 => by
  obtain⟨B,O,δ,d,δ',S,r,q,k⟩:=q0
  cases q
  exact k _ _ (S.setVa hm r) λj hj=>By λ(z:i=j)=>hm (z▸hj)
abbrev BS:=List dE->Ev->Option Ev
def TGVs(K:An)(ml:List Nat)(h:BS):CF:=λvs σ H Q=> ∃B O δ ds δ',aS K ml B O H σ δ/\cO K (Nn B O) H vs ds/\h ds δ=some δ'/\ ∀σ' O',aS K ml B O' H σ' δ'->(∀i∈ml,σ'[i]? =σ[i]?)->Q σ' H
def YU:BS:=λds δ=>match ds with
 |[]=>some δ
 |_=>none
def b6(g:VG)(gs:BS):BS:=λds δ=>match ds with
 |d::r=>(g d δ).bind λδ1=>gs r δ1
 |[]=>none
theorem ZU:D5 X [] (TGVs K ml YU):=EW.imp λvs σ H Q q0=>by
 obtain⟨B,O,δ,ds,δ',S,r,q,k⟩:=q0
 cases r with
 |nil=>cases q;exact⟨rfl,k _ _ S λ_ _=>rfl⟩
 |cons _ _=>cases q
theorem cF{g:VG}{gs:BS}(h1:PG X e (BR K ml g))(h2:D5 X es (TGVs K ml gs))(hs:(assignEach (e::es) X.env).map (·.2)=assign e X.env::(assignEach es X.env).map (·.2):=by rfl):D5 X (e::es) (TGVs K ml (b6 g gs)):=
 (RK h1 h2 hs).imp λvs σ H Q q0 => by
  obtain⟨B,O,δ,ds,δ',S,r,q,k⟩:=q0
  cases r with
  | nil => cases q
  | @cons v vs d ds h t=>
   have q:((g d δ).bind λδ1=>gs ds δ1)=some δ':=q
   cases h1:g d δ with
   |none=>rw[h1] at q;cases q
   |some δ1=>
    rw[h1] at q
    have S0:=S.keepV (UD t)
    exact⟨v,vs,rfl,_,O,δ,d,δ1,S0,h,h1,λσ1 O1 S1 m1=>⟨B,O1,δ1,ds,δ',S1.unkeep,VY t.length λz hz=>S1.kep z (Bp _ hz),q,λσ2 O2 S2 m2=>k σ2 O2 S2 λi hi=>(m2 i hi).trans (m1 i hi)⟩⟩
def NU(n:Nat)(gs:BS):VG:=λd δ=>(YV d).bind λds=>if ds.length=n then gs ds δ else none
theorem YY{gs:BS}{k n:Nat}(hK:X.K=K)(hc:X.calm=true)(h:D5 X es (TGVs K ml gs))(hn:(assignEach es X.env).length=n:=by rfl)(hst:(assignEach es X.env).findIdx? (·.1)=none:=by rfl):PG X (.Tuple es k pos) (BR K ml (NU n gs)):=
 ((zE3 (K := K) hK hc h hn hst).or (zK8 (K := K) hK hc h hn hst)).imp λv σ H Q q0 => by
  obtain⟨B,O,δ,d,δ',S,r,q,k⟩:=q0
  unfold NU at q
  cases h1:YV d with
  | none => rw [h1] at q;cases q
  |some ds=>
   rw[h1] at q
   have q:(if ds.length=n then gs ds δ else none)=some δ':=q
   split at q
   ·rename_i hl
    obtain⟨a,xs,rfl,sq,ra⟩:=r.seq h1
    have fin:TGVs K ml gs xs σ H Q:=⟨B,O,δ,ds,δ',S,ra,q,k⟩
    rcases sq with sq|sq
    ·exact .inr ⟨a,xs,rfl,sq,ra.length.trans hl,fin⟩
    ·exact .inl ⟨a,xs,rfl,sq,ra.length.trans hl,fin⟩
   ·cases q
noncomputable def NE(f:VF)(g:VG):VS:=λδ=>(f δ).bind λp=>(g p.1 p.2).map Ou.nx
theorem SR{tg:Expr}{gg:VG}(he:PE X e (TV K ml pu true true f))(hg:PG X tg (BR K ml gg))(hs:Fa [tg] e pos.line X.env=pure false:=by rfl)(hw:Fb [tg] e X.env=pure none:=by rfl)
  (h1 : (assignEach [tg] X.env).map (·.2) = [assign tg X.env] := by rfl) : PS X (.Assign [tg] e pos) (TM K ml (NE f gg)) := (LC he hg hs hw h1).imp λD σ H ⟨B,O,δ,o,S,q,k⟩ => by
 unfold NE at q
 cases h1:f δ with
 | none => rw [h1] at q;cases q
 |some p=>
  obtain⟨d,δ1⟩:=p
  rw[h1] at q
  have q:(gg d δ1).map Ou.nx=some o:=q
  cases h2:gg d δ1 with
  |none=>rw[h2] at q;cases q
  |some δ2=>
   rw[h2] at q
   cases q
   exact⟨B,O,δ,d,δ1,S,h1,λv H' R=>⟨B,O,δ1,d,δ2,R.sta,R.rep,h2,λσ' O' S' _=>k σ' H' O' S'⟩⟩
def MuV(K:An)(r:V->List V->Hp->VK->Prop)(m:List dE->List dE->Option (List dE)):Prop:= ∀(H:Hp) (N:Addr->Prop) (l:Addr) (xs vs:List V) (ds es ds':List dE) (Q:VK),
 H l=some (.lst xs)->N l->cO K N H xs ds->cO K N H vs es->m ds es=some ds'->(∀v xs',cO K N H xs' ds'->Q v (bA H l (.lst xs')))->r (.ref l) vs H Q
noncomputable def XE(δ:Ev)(i:Nat):Option (List dE):=match δ[i]? with
 |some (.ow (.lst ds))=>some ds
 |_=>none
noncomputable def UW(i:Nat)(m:List dE->List dE->Option (List dE))(fs:NM):VS:=λδ=>(XE δ i).bind λ_=>(fs δ).bind λp=>(XE p.2 i).bind λds=>(m ds p.1).map λds'=> .nx (p.2.set i (.ow (.lst ds')))
theorem T8{i:Nat}{ds:List dE}(h:XE δ i=some ds):δ[i]? =some (.ow (.lst ds)):=by
 unfold XE at h
 split at h
 ·cases h;assumption
 ·cases h
theorem P4{N:Addr->Prop}{l:Addr}{o:HO}{xs:List V}{ds ys:List dE}{zs:List V}(ho:H l=some (.lst zs))(hN:N l)(h:cO K N H xs ds):cO K N (bA H l o) xs ds:=
 h.fr (P:=λb=>b=l) (λb u q n=>by
  by_cases hb:b=l
  ·subst hb
   rw[ho] at q
   cases q
   exact absurd (n rfl) λz=>z
  ·rw[bQ hb]
   exact q) λa z=>z▸hN
theorem YH{i:Nat}{x:Str}{name:Str}{aq af fg:Pos}{id:String}{r:V->List V->Hp->VK->Prop}{m:List dE->List dE->Option (List dE)}{fs:NM}(hK:X.K=K)(slot:Slot "list" name id) (hty:typeOf (.builtin id)=pure (.type "method_descriptor")) (hm:MtR X id r) (hmu:MuV K r m)
  (ho:PE X (.Name x fg) (PN i)) (ha:PA X (e::es) (TAV K ml pu true fs))
  (cq : Ha (.Name x fg) name X.env (eval (.Name x fg) X.env) = eval (.Name x fg) X.env := by rfl)
  (ee : ((Ez af (Ah (e :: es) X.env)).all (λx => !x.1) && (Mm af (Ip [] X.env)).all (λx => x.1.isSome)
   && decide ((e :: es).length + ([] : List Iq).length + (if ([] : List Iq).isEmpty then 0 else 1) < 30)) = true := by rfl)
  (cm : (aq.endLine == af.line) = true := by rfl) (hs : Ah (e :: es) X.env = (false,eval e X.env) :: Ah es X.env := by rfl) (bp : (Ez af (Ah es X.env)).any (·.1) = false := by rfl)
  (hsw : Fu (.Call (.Attribute (.Name x fg) name aq) (e :: es) [] af) none pos.line X.env = pure false := by rfl) :
  PS X (.Expr (.Call (.Attribute (.Name x fg) name aq) (e::es) [] af) pos) (TM K ml (UW i m fs)):=
 (E2 (kBm (K := K) hK Kj slot hty hm ho ha cq ee cm hs bp) hsw).imp λD σ H q0 => by
  obtain⟨B,O,δ,o,S,q,k⟩:=q0
  unfold UW at q
  cases h0:XE δ i with
  | none => rw [h0] at q;cases q
  |some ds0=>
   rw[h0] at q
   have q : ((fs δ).bind λp => (XE p.2 i).bind λds => (m ds p.1).map λds' => Ou.nx (p.2.set i (.ow (.lst ds')))) = some o := q
   cases h1:fs δ with
   | none => rw [h1] at q;cases q
   |some p=>
    obtain⟨es',δ1⟩:=p
    rw[h1] at q
    have q:((XE δ1 i).bind λds=>(m ds es').map λds'=>Ou.nx (δ1.set i (.ow (.lst ds'))))=some o:=q
    cases h2:XE δ1 i with
    | none => rw [h2] at q;cases q
    |some ds=>
     rw[h2] at q
     have q:((m ds es').map λds'=>Ou.nx (δ1.set i (.ow (.lst ds'))))=some o:=q
     cases h3:m ds es' with
     | none => rw [h3] at q;cases q
     |some ds'=>
      rw[h3] at q
      cases q
      obtain⟨l,e1,e2,w⟩:=S.ow i _ (T8 h0)
      cases w with
      |lst hl0 _=>
       refine⟨.ref l,e2,.inl ⟨rfl,_,W8.of hl0⟩,B,O,δ,es',δ1,S,h1,λvs H1 R=> ?_⟩
       obtain⟨l',e3,_,w1⟩:=R.sta.ow i _ (T8 h2)
       rw[e1] at e3
       cases e3
       cases w1 with
       |lst hl1 r1=>
        refine hmu H1 (Nn B O) l _ vs ds es' ds' _ hl1 (.inr ⟨i,e1⟩) r1 R.rep h3 λv xs' r2=> ?_
        exact k σ _ O (R.sta.wrote e1 (λz=>z) (.lst cH (P4 (ys:=[]) hl1 (.inr ⟨i,e1⟩) r2)))
noncomputable def TD:List dE->List dE->Option (List dE)
 |ds,[d]=>if ds.length<16777216 then some (ds++[d]) else none
 |_,_=>none
theorem X7:MuV K E8 TD:=by
 intro H N l xs vs ds es ds' Q hl hN rx re h k
 cases re with
 | nil => cases h
 | @cons v vs d es hd t=>
  cases t with
  | cons _ _ => cases h
  |nil=>
   simp only[TD] at h
   split at h
   ·rename_i hz
    cases h
    exact⟨l,xs,v,rfl,rfl,hl,by rw[rx.length,Db];exact hz,k _ _ (rx.snoc hd)⟩
   ·cases h
end
section
variable{X:Cx}{K:An}{ml:List Nat}{e a b c:Expr}{es:List Expr}{pa ta ia pb tb ib pc tc ic pu bt bi ps bs:Bool}{fa fb fc f:VF}{B B':Bs}{O:Nat->Option Addr}{H H1 H':Hp}{σ:St}{δ δ':Ev}{v:V}{d:dE}{p:Addr}{pos:Pos}{st:Stmt}{rest:List Stmt}{g g':VS}
def again(nxt:VS):Ou->Option Ou
 | .nx δ=>nxt δ
 | .ct δ=>nxt δ
 | .bk δ=>some (.nx δ)
 | .rt d δ=>some (.rt d δ)
noncomputable def aX(t:VB)(g:VS):Nat->VS
 |0=>λ_=>none
 |n+1=>λδ=>(t δ).bind λp=>if p.1=true then(g p.2).bind (again (aX t g n)) else some (.nx p.2)
theorem U3{t:VB}: ∀{n:Nat} {δ:Ev} {o:Ou},aX t g n δ=some o->aX t g (n+1) δ=some o
 | 0,_,_,h => by cases h
 | n + 1,δ,o,h => by
  dsimp only[aX] at h
  show((t δ).bind λp=>if p.1=true then(g p.2).bind (again (aX t g (n+1))) else some (.nx p.2))=some o
  cases h1:t δ with
  | none => rw [h1] at h;cases h
  |some p=>
   rw[h1] at h
   obtain⟨kk,δ1⟩:=p
   cases kk with
   | false => exact h
   |true=>
    have h:(g δ1).bind (again (aX t g n))=some o:=h
    show(g δ1).bind (again (aX t g (n+1)))=some o
    cases h2:g δ1 with
    |none=>rw[h2] at h;cases h
    |some z=>
     rw[h2] at h
     cases z with
     |nx δ2=>exact U3 (n:=n) h
     |ct δ2=>exact U3 (n:=n) h
     |bk δ2=>exact h
     |rt d δ2=>exact h
theorem SU{t:VB}{n:Nat}{o:Ou}(h:aX t g n δ=some o): ∀k,aX t g (n+k) δ=some o
 |0=>h
 |k+1=>U3 (SU h k)
theorem HH{t:VB}{n m:Nat}{o o':Ou}(h:aX t g n δ=some o)(h':aX t g m δ=some o'):o=o':=by
 have e1:=SU h m
 have e2:=SU h' n
 rw[Nat.add_comm] at e2
 rw[e1] at e2
 exact Cd e2
open Classical in
noncomputable def SO(t:VB)(g:VS):VS:=λδ=>if h: ∃o n,aX t g n δ=some o then some (Classical.choose h) else none
theorem MU{t:VB}{n:Nat}{o:Ou}(h:aX t g n δ=some o):SO t g δ=some o:=by
 have hx: ∃o n,aX t g n δ=some o:=⟨o,n,h⟩
 unfold SO
 rw[dif_pos hx]
 obtain⟨m,hm⟩:=Ll hx
 rw[HH hm h]
theorem G0{t:VB}{o:Ou}(h:SO t g δ=some o): ∃n,aX t g n δ=some o:=by
 unfold SO at h
 split at h
 ·rename_i hx
  cases h
  exact Ll hx
 ·cases h
theorem JY{body:List Stmt}{t:VB}(hp:Oo (model X.prog X.w) X.A X.env X.xe)(hc:PT X c (TB K ml pc t))(hb:PR X body (TM K ml g)):PS X (.While c body [] pos) (TM K ml (SO t g)):=(zA8 hp hc hb).imp λD σ H q0=>by
 obtain⟨B,O,δ,o,S,q,k⟩:=q0
 obtain⟨n,hn⟩:=G0 q
 refine⟨λm σ H=> ∃O δ,aS K ml B O H σ δ/\aX t g m δ=some o,⟨n,O,δ,S,hn⟩,?_⟩
 rintro m σ H ⟨O,δ,S,hm⟩
 cases m with
 | zero => cases hm
 |succ m=>
  dsimp only[aX] at hm
  cases h1:t δ with
  | none => rw [h1] at hm;cases hm
  |some p=>
   obtain⟨kk,δ1⟩:=p
   rw[h1] at hm
   refine⟨B,O,δ,kk,δ1,S,h1,λH1 R1=> ?_⟩
   cases kk with
   |false=>
    have hm:some (Ou.nx δ1)=some o:=hm
    cases hm
    exact PH (k σ H1 O R1.sta)
   |true=>
    have hm:(g δ1).bind (again (aX t g m))=some o:=hm
    cases h2:g δ1 with
    |none=>rw[h2] at hm;cases hm
    |some z=>
     rw[h2] at hm
     refine PJ ⟨λσ' H'=> ∃O δ,aS K ml B O H' σ' δ/\aX t g m δ=some o,λσ' H' w=>⟨m,Nat.lt_succ_self _,w⟩,B,O,δ1,z,R1.sta,h2,?_⟩
     cases z with
     |nx δ2=>exact λσ' H' O' S'=>⟨O',δ2,S',hm⟩
     |ct δ2=>exact λσ' H' O' S'=>⟨O',δ2,S',hm⟩
     |bk δ2=>cases hm;exact λσ' H' O' S'=>k σ' H' O' S'
     |rt d δ2=>cases hm;exact λv σ' H' O' S' r=>k v σ' H' O' S' r
def Walk(K:An)(J:It)(kps:List (V×dE))(ds:List dE):Prop:= ∀(N:Addr->Prop) (H:Hp),(∀p∈kps,bG K N H N p.1 p.2)→
 (∀(i:Nat) (d:dE),ds[i]? =some d->J.go i H/\ ∀x H',J.yld i H x H'->a8 H H'/\bG K N H' N x d)/\J.stop ds.length H
abbrev VI:=Ev->Option (List dE×Ev)
def CG(K:An)(ml:List Nat)(pu:Bool)(f:VI):TI:=λσ H R=> ∃B O δ ds δ',aS K ml B O H σ δ/\f δ=some (ds,δ')∧
 ∀J kps H',aS K ml {B with kp:=kps++B.kp} O H' σ δ'->Fr (OA O) H H'->(pu=true->a8 H H')->Walk K J kps ds->R J H'
theorem PI.imp{tg:Expr}{t u:TI}(h:PI X tg e t)(k: ∀σ H R,u σ H R->t σ H R):PI X tg e u:=λaa s σ H R I w=>h aa s σ H R I (k σ H R w)
theorem PI.or{tg:Expr}{t u:TI}(h:PI X tg e t)(h':PI X tg e u):PI X tg e (λσ H R=>t σ H R∨u σ H R):=λaa s σ H R I z=>by
 rcases z with z|z
 ·exact h aa s σ H R I z
 ·exact h' aa s σ H R I z
noncomputable def UP(f:VF):VI:=λδ=>(f δ).bind λp=>(YV p.1).map λds=>(ds,p.2)
theorem BM{a:Addr}{ds:List dE}:Walk K (Itl K a) [(.ref a,.lst ds)] ds:=by
 intro N H h
 have r:=h _ (As.mpr rfl)
 have fin: ∀xs,W8 K H a xs->cO K N H xs ds->(∀(i:Nat) (d:dE),ds[i]? =some d->(Itl K a).go i H/\ ∀x H',(Itl K a).yld i H x H'->a8 H H'/\bG K N H' N x d)/\(Itl K a).stop ds.length H:=λxs sq r=>by
  refine⟨λi d e=> ?_,xs,sq,by rw[r.length];exact Ap _⟩
  obtain⟨x,e1,r1⟩:=r.get e
  refine⟨⟨xs,x,sq,e1⟩,λy H' hy=> ?_⟩
  obtain⟨e2,e3⟩:=hy
  subst e2
  have:=e3 xs sq
  rw[e1] at this
  cases this
  exact⟨a8.refl _,r1⟩
 cases r with
 |lst q n r=>exact fin _ (W8.of q) r
 |fzl q r=>exact fin _ q.sq r
theorem BO{a:Addr}{ds:List dE}:Walk K (Itt K a) [(.ref a,.tup ds)] ds:=by
 intro N H h
 have r:=h _ (As.mpr rfl)
 cases r with
 |tup sq r=>
  refine⟨λi d e=> ?_,_,sq,by rw[r.length];exact Ap _⟩
  obtain⟨x,e1,r1⟩:=r.get e
  refine⟨⟨_,x,sq,e1⟩,λy H' hy=> ?_⟩
  obtain⟨e2,e3⟩:=hy
  subst e2
  have:=e3 _ sq
  rw[e1] at this
  cases this
  exact⟨a8.refl _,r1⟩
theorem V0{tg:Expr}(hK:X.K=K)(h:PE X e (TV K ml pu true true f)):PI X tg e (CG K ml pu (UP f)):=((zB5 (K:=K) hK h).or (zE2 (K:=K) hK h)).imp λσ H R q0=>by
 obtain⟨B,O,δ,ds,δ',S,q,k⟩:=q0
 unfold UP at q
 cases h1:f δ with
 | none => rw [h1] at q;cases q
 |some p=>
  obtain⟨x,δ1⟩:=p
  rw[h1] at q
  cases x with
  |lst ds'=>
   cases q
   refine .inl ⟨B,O,δ,_,δ1,S,h1,λv H1 R1=> ?_⟩
   obtain⟨a,xs,rfl,sq,r⟩:=R1.rep.seq rfl
   refine⟨a,rfl,?_,k _ [(.ref a,.lst ds)] H1 (R1.sta.keepV λp hp=>by rw[As.mp hp];exact R1.rep) R1.frm R1.pur BM⟩
   have r:=R1.rep
   cases r with
   |lst q _ _=>exact⟨_,W8.of q⟩
   |fzl q _=>exact⟨_,q.sq⟩
  |tup ds'=>
   cases q
   refine .inr ⟨B,O,δ,_,δ1,S,h1,λv H1 R1=> ?_⟩
   obtain⟨a,xs,rfl,sq,r⟩:=R1.rep.seq rfl
   refine⟨a,rfl,?_,k _ [(.ref a,.tup ds)] H1 (R1.sta.keepV λp hp=>by rw[As.mp hp];exact R1.rep) R1.frm R1.pur BO⟩
   have r:=R1.rep
   cases r with
   |tup q _=>exact⟨_,q⟩
  |_=>cases q
def bD(lo:Int)(n:Nat):List dE:=(Ar n).map λk:Nat=> .int (lo+k)
noncomputable def BU(f:VF):VI:=λδ=>(f δ).bind λp=>match p.1 with
 | .int j=>if -4611686018427387904<=j/\j<4611686018427387904 then some (bD 0 j.toNat,p.2) else none
 |_=>none
noncomputable def iR2(f g:VF):VI:=λδ=>(f δ).bind λp=>(g p.2).bind λq=>match p.1,q.1 with
 | .int i,.int j=>if(-4611686018427387904<=i/\i<4611686018427387904)/\ -4611686018427387904<=j/\j<4611686018427387904 then some (bD i (j - i).toNat,q.2) else none
 |_,_=>none
theorem AB{lo:Int}{n i:Nat}{d:dE}(h:(bD lo n)[i]? =some d):i<n/\d= .int (lo+i):=by
 unfold bD at h
 rw[Cr] at h
 cases h1:(Ar n)[i]? with
 |none=>rw[h1] at h;cases h
 |some k=>
  rw[h1] at h
  cases h
  have:=Ad.mp h1
  obtain⟨hl,e⟩:=this
  rw[Ho] at hl
  rw[List.getElem_range] at e
  subst e
  exact⟨hl,rfl⟩
theorem J0{lo:Int}{n:Nat}:Walk K (Itr lo n) [] (bD lo n):=by
 intro N H _
 refine⟨λi d e=> ?_,by simp[Itr,bD]⟩
 obtain⟨hl,rfl⟩:=AB e
 refine⟨hl,λx H' hy=> ?_⟩
 obtain⟨rfl,rfl⟩:=hy
 exact⟨a8.refl _,.int _⟩
theorem YM{tg:Expr}{p':Pos}(hg:Gl X "range") (hm:X.mg "range"=none) (h:PE X a (TV K ml pa ta ia fa)) (hs:Ah [a] X.env=[(false,eval a X.env)]:=by rfl) (hs1:Ah (a::[]) X.env=(false,eval a X.env)::Ah [] X.env:=by rfl):
  PI X tg (.Call (.Name "range" p') [a] [] pos) (CG K ml pa (BU fa)):=(DF hg hm (bW h ZR hs1) hs).imp λσ H R ⟨B,O,δ,ds,δ',S,q,k⟩=>by
 unfold BU at q
 cases h1:fa δ with
 | none => rw [h1] at q;cases q
 |some p=>
  obtain⟨x,δ1⟩:=p
  rw[h1] at q
  cases x with
  |int j=>
   have q:(if -4611686018427387904<=j/\j<4611686018427387904 then some (bD 0 j.toNat,δ1) else none)=some (ds,δ'):=q
   split at q
   ·rename_i hj
    cases q
    have p62:(2:Int) ^ 62=4611686018427387904:=by decide
    refine⟨B,O,δ,_,_,S,h1,λv H1 R1=>⟨j,?_,by rw[p62];exact hj.1,by rw[p62];exact hj.2,k _ [] H1 (R1.sta.keepV λ_ z=>nomatch z) R1.frm R1.pur J0⟩⟩
    have r:=R1.rep
    cases r
    rfl
   ·cases q
  |_=>cases q
theorem M4{tg:Expr}{p':Pos}(hg:Gl X "range") (hm:X.mg "range"=none) (h:PE X a (TV K ml pa ta ia fa)) (h':PE X b (TV K ml pb tb ib fb)) (hs:Ah [a,b] X.env=[(false,eval a X.env),(false,eval b X.env)]:=by rfl) (hs2:Ah [b] X.env=[(false,eval b X.env)]:=by rfl)
  (he : Ah (a :: [b]) X.env = (false,eval a X.env) :: Ah [b] X.env := by rfl) (he2 : Ah (b :: []) X.env = (false,eval b X.env) :: Ah [] X.env := by rfl) :
  PI X tg (.Call (.Name "range" p') [a,b] [] pos) (CG K ml (pa && pb) (iR2 fa fb)) := (DG hg hm (bW h (bW h' ZR he2) he) hs hs2).imp λσ H R ⟨B,O,δ,ds,δ',S,q,k⟩ => by
 unfold iR2 at q
 cases h1:fa δ with
 | none => rw [h1] at q;cases q
 |some p=>
  obtain⟨x,δ1⟩:=p
  rw[h1] at q
  cases h2:fb δ1 with
  | none => simp [h2] at q
  |some p2=>
   obtain⟨y,δ2⟩:=p2
   simp only[Ak,h2] at q
   cases x with
   |int i=>
    cases y with
    |int j=>
     have q:(if(-4611686018427387904<=i/\i<4611686018427387904)/\ -4611686018427387904<=j/\j<4611686018427387904 then some (bD i (j - i).toNat,δ2) else none)=some (ds,δ'):=q
     split at q
     ·rename_i hj
      cases q
      have p62:(2:Int) ^ 62=4611686018427387904:=by decide
      refine⟨B,O,δ,_,_,S,h1,λv H1 R1=>⟨B,O,δ1,_,_,R1.sta,h2,λv2 H2 R2=>⟨i,j,?_,by rw[p62];exact⟨hj.1.1,hj.1.2,hj.2.1,hj.2.2⟩,k _ [] H2 (R2.sta.keepV λ_ z=>nomatch z) (R1.frm.trans R2.frm) (λz=>by
       obtain⟨z1,z2⟩:=(Af _ _).mp z
       exact(R1.pur z1).trans (R2.pur z2)) J0⟩⟩⟩
      have r1:=R1.rep
      have r2:=R2.rep
      cases r1
      cases r2
      rfl
     ·cases q
    |_=>cases q
   |_=>cases q
noncomputable def XN(gg:VG)(s:VS):List dE->VS
 |[]=>λδ=>some (.nx δ)
 |d::r=>λδ=>(gg d δ).bind λδ1=>(s δ1).bind (again (XN gg s r))
def OJ(fi:VI)(gg:VG)(s:VS):VS:=λδ=>(fi δ).bind λp=>XN gg s p.1 p.2
theorem U0{tg iter:Expr}{body:List Stmt}{fi:VI}{gg:VG}(hp:Oo (model X.prog X.w) X.A X.env X.xe)(hc:X.calm=true)(hi:PI X tg iter (CG K ml pu fi))(hg:PG X tg (BR K ml gg))(hb:PR X body (TM K ml g))
  (hs : ∀ x,foldedSetIterable iter X.env x = pure x := by intro _;rfl) : PS X (.For tg iter body [] pos) (TM K ml (OJ fi gg g)) := (zFT hp hc hi hg hb hs).imp λD σ H ⟨B,O,δ,o,S,q,k⟩ => by
 unfold OJ at q
 cases h1:fi δ with
 | none => rw [h1] at q;cases q
 |some p=>
  obtain⟨ds,δ1⟩:=p
  rw[h1] at q
  have q:XN gg g ds δ1=some o:=q
  refine⟨B,O,δ,ds,δ1,S,h1,λJ kps H1 S1 _ _ wk=> ?_⟩
  refine⟨λi m σ H=>m=ds.length - i/\i<=ds.length/\ ∃O δ,aS K ml {B with kp:=kps++B.kp} O H σ δ/\XN gg g (ds.drop i) δ=some o,⟨ds.length,rfl,Dc _,O,δ1,S1,q⟩,?_⟩
  rintro i m σ H ⟨rfl,hi,O,δ,S,hf⟩
  have w:=wk (Nn B O) H λp hp=>S.kep p (Bp _ hp)
  by_cases hlt:i<ds.length
  ·obtain ⟨go,yl⟩ := w.1 i ds[i] (by simp [hlt])
   rw[Cv hlt] at hf
   refine .inr ⟨go,λσ' H'=> ∃O δ,aS K ml {B with kp:=kps++B.kp} O H' σ' δ/\XN gg g (ds.drop (i+1)) δ=some o,λσ' H' w'=>⟨ds.length - (i+1),by lia,rfl,hlt,w'⟩,λx H' hy=> ?_⟩
   obtain⟨sm,rx⟩:=yl x H' hy
   have hf:((gg ds[i] δ).bind λδ1=>(g δ1).bind (again (XN gg g (ds.drop (i+1)))))=some o:=hf
   cases h2:gg ds[i] δ with
   | none => rw [h2] at hf;cases hf
   |some δ2=>
    rw[h2] at hf
    have hf:(g δ2).bind (again (XN gg g (ds.drop (i+1))))=some o:=hf
    refine⟨_,O,δ,ds[i],δ2,S.same sm,rx,h2,λσ2 O2 S2 _=> ?_⟩
    cases h3:g δ2 with
    |none=>rw[h3] at hf;cases hf
    |some z=>
     rw[h3] at hf
     refine⟨_,O2,δ2,z,S2,h3,?_⟩
     cases z with
     |nx δ3=>exact λσ' H' O' S'=>⟨O',δ3,S',hf⟩
     |ct δ3=>exact λσ' H' O' S'=>⟨O',δ3,S',hf⟩
     |bk δ3=>cases hf;exact λσ' H' O' S'=>k σ' H' O' S'.unkeep
     |rt d δ3=>cases hf;exact λv σ' H' O' S' r=>k v σ' H' O' S'.unkeep r
  ·have e : i = ds.length := by lia
   subst e
   rw[Eo] at hf
   cases hf
   exact .inl ⟨w.2,k σ H O S.unkeep⟩
end
section
variable{X:Cx}{K:An}{ml:List Nat}{e a b c:Expr}{es:List Expr}{pa ta ia pb tb ib pc tc ic pu bt bi ps bs:Bool}{fa fb fc f:VF}{B B':Bs}{O:Nat->Option Addr}{H H1 H':Hp}{σ:St}{δ δ':Ev}{v:V}{d:dE}{p:Addr}{pos:Pos}{st:Stmt}{rest:List Stmt}{g g':VS}
theorem aS.call{P:Addr->Prop}(S:aS K ml B O H σ δ)(hl:δ'.length=δ.length)(h: ∀i:Nat,(δ'[i]? =δ[i]? /\ ∀a,O i=some a-> ¬P a)∨ ∃a d',O i=some a/\δ'[i]? =some (Sl.ow d')/\QC K (Nn B O) H' a d')
  (f:Fr P H H') (hP: ∀a,P a->OA O a):aS K ml B O H' σ δ' where
 len:=by rw[hl,S.len]
 va := λi d e => by
  rcases h i with⟨e1,_⟩|⟨a,d',_,e1,_⟩
  ·rw[e1] at e
   obtain⟨v,e2,r⟩:=S.va i d e
   exact⟨v,e2,r.fr f (λa z=> .inr (hP a z)) λa z=> .inr (hP a z)⟩
  ·rw[e1] at e
   cases e
 ow := λi d e => by
  rcases h i with⟨e1,n⟩|⟨a,d',e2,e1,w⟩
  ·rw[e1] at e
   obtain⟨a,e2,e3,w⟩:=S.ow i d e
   exact⟨a,e2,e3,w.fr f (λa z=> .inr (hP a z)) (n a e2)⟩
  ·rw[e1] at e
   cases e
   obtain⟨d0,q0⟩:=S.dom i a e2
   obtain⟨a',e3,e4,_⟩:=S.ow i d0 q0
   rw[e2] at e3
   cases e3
   exact⟨a,e2,e4,w⟩
 dom:=λi a e=>by
  rcases h i with⟨e1,n⟩|⟨a,d',e2,e1,w⟩
  ·obtain⟨d0,q0⟩:=S.dom i a e
   exact⟨d0,e1.trans q0⟩
  ·exact⟨d',e1⟩
 inj:=S.inj
 old:=S.old
 zin:=λa h'=>by
  obtain⟨o,q⟩:=S.zin a h'
  exact⟨o,f a o q λz=>by
   obtain⟨i,e⟩:=hP a z
   exact absurd h' (S.old i a e).1⟩
 frm:=λb o q n=>by
  have h1:=S.frm b o q n
  refine f b o h1 λz=> ?_
  obtain⟨i,e⟩:=hP b z
  rcases(S.old i b e).2 with w|w
  ·exact n w
  ·rw[q] at w;cases w
 par:=S.par
 pin:=λa h'=>by
  obtain⟨o,q⟩:=S.pin a h'
  by_cases z:P a
  ·obtain⟨i,e⟩:=hP a z
   rcases h i with⟨_,n⟩|⟨a',d',e2,e1,w⟩
   ·exact absurd z (n a e)
   ·rw[e] at e2
    cases e2
    obtain⟨o,q,_⟩:=w.soft
    exact⟨o,q⟩
  ·exact⟨o,f a o q λy=>absurd y z⟩
 kep:=λp hp=>(S.kep p hp).fr f (λa z=> .inr (hP a z)) λa z=> .inr (hP a z)
abbrev b9:=List dE->Option (dE×List dE)
def U6(ml:List Nat)(vs:List V):Addr->Prop:=λa=> ∃i∈ml,vs[i]? =some (.ref a)
def Zp(Z:Addr->Prop)(ml:List Nat)(vs:List V):Addr->Prop:=λa=>Z a∨U6 ml vs a
structure zEE(K:An)(ml:List Nat)(Z:Addr->Prop)(H:Hp)(vs:List V)(ds:List dE):Prop where
 len:vs.length=ds.length
 mem: ∀i∈ml,i<ds.length
 va: ∀(i:Nat) (d:dE),i∉ml->ds[i]? =some d-> ∃v,vs[i]? =some v/\bG K (Zp Z ml vs) H (Zp Z ml vs) v d
 ow: ∀(i:Nat) (d:dE),i∈ml->ds[i]? =some d-> ∃a,vs[i]? =some (.ref a)/\QC K (Zp Z ml vs) H a d/\¬Z a
 inj: ∀(i j:Nat) (a:Addr),i∈ml->j∈ml->vs[i]? =some (.ref a)->vs[j]? =some (.ref a)->i=j
 zin: ∀a,Z a-> ∃o,H a=some o
def spV(K:An)(ml:List Nat)(n:Nat)(F:b9):Sp:=λvs H Q _=> ∃(Z:Addr->Prop) (ds:List dE) (r:dE) (os:List dE),ds.length=n/\zEE K ml Z H vs ds/\F ds=some (r,os)∧
 ∀v H',Fr (U6 ml vs) H H'->(∀(k i:Nat) (a:Addr) (o:dE),ml[k]? =some i->vs[i]? =some (.ref a)->os[k]? =some o->QC K (Zp Z ml vs) H' a o)->bG K (Zp Z ml vs) H' (Zp Z ml vs) v r->Q v H'
def cR(ml:List Nat)(n:Nat)(ds:List dE):Ev:=ds.mapIdx (λi d=>if i∈ml then Sl.ow d else Sl.va d)++Be (n - ds.length) Sl.no
noncomputable def UV(ml:List Nat)(δ:Ev):Option (List dE):=ml.mapM λ(i:Nat)=>match(δ[i]? :Option Sl) with
 |some (Sl.ow d)=>some d
 |_=>none
noncomputable def bB(n:Nat)(ml:List Nat)(g:VS):b9:=λds=>(g (cR ml n ds)).bind λo=>match o with
 | .rt d δ=>(UV ml δ).map λos=>(d,os)
 | .nx δ=>(UV ml δ).map λos=>(.non,os)
 |_=>none
theorem IV: ∀{ml:List Nat} {δ:Ev} {os:List dE},UV ml δ=some os-> ∀(k i:Nat) (o:dE),ml[k]? =some i->os[k]? =some o->δ[i]? =some (.ow o)
 | [],_,_,h,k,i,o,e1,e2 => by simp at e1
 | j :: ml,δ,os,h,k,i,o,e1,e2 => by
  unfold UV at h
  rw[Pq] at h
  split at h
  ·rename_i d hd
   cases h2:(ml.mapM λ(i:Nat)=>match(δ[i]? :Option Sl) with
    |some (Sl.ow d)=>some d
    |_=>none:Option (List dE)) with
   | none => rw [h2] at h;cases h
   |some os2=>
    rw[h2] at h
    cases h
    cases k with
    |zero=>
     cases e1
     cases e2
     exact hd
    |succ k=>exact IV (ml:=ml) h2 k i o (by simpa using e1) (by simpa using e2)
  ·cases h
theorem DS{N:List Str}{Z:Addr->Prop}{vs:List V}{ds:List dE}(A:zEE K ml Z H vs ds)(hn:ds.length<=N.length):
  ∃mu:Nat->Option Addr,(∀i a,mu i=some a↔i∈ml/\vs[i]? =some (.ref a))/\aS K ml ⟨Z,U6 ml vs,H,mu,[]⟩ mu H (start N vs) (cR ml N.length ds):=by
 classical
 let mu : Nat -> Option Addr := λi => if i ∈ ml then (match vs[i]? with
  | some (.ref a) => some a
  | _ => none) else none
 have hmu: ∀i a,mu i=some a↔i∈ml/\vs[i]? =some (.ref a):=λi a=>by
  show(if i∈ml then(match vs[i]? with
   | some (.ref a) => some a
   | _ => none) else none) = some a ↔ _
  by_cases hi:i∈ml
  ·rw[if_pos hi]
   constructor
   ·intro h
    split at h
    ·rename_i b hb
     cases h
     exact⟨hi,hb⟩
    ·cases h
   ·rintro ⟨_,h⟩
    rw[h]
  ·rw[if_neg hi]
   exact⟨(λh=>nomatch h),λh=>absurd h.1 hi⟩
 have hN: ∀a,Nn ⟨Z,U6 ml vs,H,mu,[]⟩ mu a->Zp Z ml vs a:=λa h=>by
  rcases h with h|⟨i,h⟩
  ·exact .inl h
  ·exact .inr ⟨i,(hmu i a).mp h⟩
 have fm: ∀(i:Nat) (s:Sl),(cR ml N.length ds)[i]? =some s->(∃d,ds[i]? =some d/\s=if i∈ml then .ow d else .va d)∨s= .no:=λi s h=>by
  unfold cR at h
  by_cases hi:i<ds.length
  ·rw [Ae (by simpa using hi),Lr] at h
   cases q:ds[i]? with
   |none=>rw[q] at h;cases h
   |some d=>rw[q] at h;cases h;exact .inl ⟨d,rfl,rfl⟩
  ·rw [Bb (by simpa using hi),Cs] at h
   split at h
   ·cases h;exact .inr rfl
   ·cases h
 have hst: ∀(i:Nat) (v:V),vs[i]? =some v->(start N vs)[i]? =some (some v):=λi v h=>by
  unfold start
  have hi:i<vs.length:=(Ad.mp h).1
  rw[Ae (by simpa using hi),Cr,h]
  rfl
 refine⟨mu,hmu,?_,λi d q=> ?_,λi d q=> ?_,λi a q=> ?_,λi j a q1 q2=> ?_,λi a q=> ?_,A.zin,Fr.refl _ _,⟨λi a q=>((hmu i a).mp q).1,λi _=>rfl⟩,λa q=> ?_,λp hp=>nomatch hp⟩
 ·unfold start cR
  have:=A.len
  simp
  lia
 ·rcases fm i _ q with⟨e,h1,h2⟩|h
  ·by_cases hi:i∈ml
   ·rw[if_pos hi] at h2;cases h2
   ·rw[if_neg hi] at h2
    cases h2
    obtain⟨v,e1,r⟩:=A.va i d hi h1
    exact⟨v,hst i v e1,r.mono hN hN⟩
  ·cases h
 ·rcases fm i _ q with⟨e,h1,h2⟩|h
  ·by_cases hi:i∈ml
   ·rw[if_pos hi] at h2
    cases h2
    obtain⟨a,e1,w,_⟩:=A.ow i d hi h1
    exact⟨a,(hmu i a).mpr ⟨hi,e1⟩,hst i _ e1,w.mono hN⟩
   ·rw[if_neg hi] at h2;cases h2
  ·cases h
 ·obtain⟨hi,e1⟩:=(hmu i a).mp q
  have hl:=A.mem i hi
  refine⟨ds[i],?_⟩
  unfold cR
  rw[Ae (by simpa using hl),Lr]
  simp[hl,hi]
 ·exact A.inj i j a ((hmu i a).mp q1).1 ((hmu j a).mp q2).1 ((hmu i a).mp q1).2 ((hmu j a).mp q2).2
 ·obtain⟨hi,e1⟩:=(hmu i a).mp q
  refine⟨λz=> ?_,.inl ⟨i,hi,e1⟩⟩
  obtain⟨a',e2,_,n⟩:=A.ow i (ds[i]'(A.mem i hi)) hi (by simp[A.mem i hi])
  rw[e1] at e2
  cases e2
  exact n z
 ·obtain⟨i,hi,e1⟩:=q
  obtain⟨a',e2,w,n⟩:=A.ow i (ds[i]'(A.mem i hi)) hi (by simp[A.mem i hi])
  rw[e1] at e2
  cases e2
  obtain⟨o,q,_⟩:=w.soft
  exact⟨o,q⟩
theorem zEB{N ps:List Str}{vs:List V}{Q:VK}{E:XK}(hps:ps.length<=N.length)(h:spV K ml ps.length (bB N.length ml g) vs H Q E):TM K ml g {nx:=λ_ H'=>Q .non H',rt:=Q} (start N vs) H:=by
 obtain⟨Z,ds,r,os,hn,AV,hF,k⟩:=h
 obtain⟨mu,hmu,S0⟩:=DS (N:=N) AV (by rw[hn];exact hps)
 unfold bB at hF
 cases h1:g (cR ml N.length ds) with
 | none => rw [h1] at hF;cases hF
 |some o=>
  rw[h1] at hF
  refine⟨_,mu,_,o,S0,h1,?_⟩
  have fin: ∀(δ':Ev) (v:V) (σ':St) (H':Hp) (O':Nat->Option Addr),UV ml δ'=some os->aS K ml ⟨Z,U6 ml vs,H,mu,[]⟩ O' H' σ' δ'->bG K (rz ⟨Z,U6 ml vs,H,mu,[]⟩) H' (rz ⟨Z,U6 ml vs,H,mu,[]⟩) v r->Q v H':=λδ' v σ' H' O' ho S' hr'=>by
   have hz: ∀a,Zp Z ml vs a->rz ⟨Z,U6 ml vs,H,mu,[]⟩ a:=λa h=>by
    rcases h with h|⟨i,hi,e⟩
    ·exact .inl h
    ·exact .inr ⟨i,(hmu i a).mpr ⟨hi,e⟩⟩
   refine k v H' S'.frm (λkk i a o e1 e2 e3=> ?_) (hr'.mono hz hz)
   have hd:=IV ho kk i o e1 e3
   obtain⟨a',e4,_,w⟩:=S'.ow i o hd
   have hi:i∈ml:=Eb e1
   have:=(S'.par.2 i hi).trans ((hmu i a).mpr ⟨hi,e2⟩)
   rw[this] at e4
   cases e4
   refine w.mono λb hb=> ?_
   rcases hb with hb|⟨j,hj,e5⟩
   ·exact .inl hb
   ·exact .inr ⟨j,(S'.par.2 j hj).trans ((hmu j b).mpr ⟨hj,e5⟩)⟩
  cases o with
  |rt d δ'=>
   have hF:(UV ml δ').map (λos=>(d,os))=some (r,os):=hF
   cases h2:UV ml δ' with
   |none=>rw[h2] at hF;cases hF
   |some os'=>
    rw[h2] at hF
    cases hF
    exact λv σ' H' O' S' hr'=>fin δ' v σ' H' O' h2 S' hr'
  |nx δ'=>
   have hF:(UV ml δ').map (λos=>(dE.non,os))=some (r,os):=hF
   cases h2:UV ml δ' with
   |none=>rw[h2] at hF;cases hF
   |some os'=>
    rw[h2] at hF
    cases hF
    exact λσ' H' O' S'=>fin δ' .non σ' H' O' h2 S' .non
  |bk δ'=>cases hF
  |ct δ'=>cases hF
theorem YI.okV{P:Bn}{w:World}{mg:Str->Option Value}{base:Heap}{x qual:Str}{st:Stmt}{f:Addr}{fd:Et}{N ps:List Str}{k:Nat}(F:YI K x qual st f fd)(S:cS N ps (c5 st))(hps:ps.length<=N.length)
  (ca: ∀(cdv:Value) (A:Cy) (outer:List Env) (s:Ag) (H:Hp) (E:XK),YJ k (A.deeper (Jv qual (c5 st) s.heap.objs.size f cdv))→
   PR (KO CX0 P w K mg base N qual (c5 st) f cdv A outer s H E).nox (aA st) (TM K ml g)):bJ P w K mg base CX0 (k+1) f fd ps (spV K ml ps.length (bB N.length ml g)):=by
 refine F.ok S (λvs H Q E h=> ?_) (λcdv A outer s H vs Q E hr h=>⟨_,ca cdv A outer s H E hr,zEB hps h⟩)
 obtain⟨Z,ds,r,os,hn,AV,_⟩:=h
 rw[AV.len,hn]
inductive AV where
 |d (d:dE)|o (j:Nat)
inductive U5(K:An)(N:Addr->Prop)(H:Hp)(σ:St):List V->List AV->Prop
 |nil:U5 K N H σ [] []
 |d {v:V} {vs:List V} {d:dE} {as:List AV}:bG K N H N v d->U5 K N H σ vs as->U5 K N H σ (v::vs) (.d d::as)
 |o {v:V} {vs:List V} {j:Nat} {as:List AV}:σ[j]? =some (some v)->U5 K N H σ vs as->U5 K N H σ (v::vs) (.o j::as)
abbrev NH:=Ev->Option (List AV×Ev)
structure ResG(K:An)(ml:List Nat)(B:Bs)(O:Nat->Option Addr)(H:Hp)(σ:St)(pu:Bool)(H':Hp)(δ':Ev)(vs:List V)(as:List AV):Prop where
 sta:aS K ml B O H' σ δ'
 frm:Fr (OA O) H H'
 pur:pu=true->a8 H H'
 rep:U5 K (Nn B O) H' σ vs as
def TAG(K:An)(ml:List Nat)(pu:Bool)(f:NH):TA:=λσ H Q=> ∃B O δ as δ',aS K ml B O H σ δ/\f δ=some (as,δ')/\ ∀vs H',ResG K ml B O H σ pu H' δ' vs as->Q vs H'
def cG:NH:=λδ=>some ([],δ)
noncomputable def aE(f:VF)(fs:NH):NH:=λδ=>(f δ).bind λp=>(fs p.2).map λq=>(.d p.1::q.1,q.2)
noncomputable def slot(δ:Ev)(j:Nat):Option dE:=match δ[j]? with
 |some (.va d)=>some d
 |some (.ow d)=>some d
 |_=>none
noncomputable def aO(j:Nat)(fs:NH):NH:=λδ=>(slot δ j).bind λ_=>(fs δ).map λq=>(.o j::q.1,q.2)
theorem cY:PA X [] (TAG K ml true cG):=ZR.imp λσ H Q q0=>by
 obtain⟨B,O,δ,d,δ',S,q,k⟩:=q0
 cases q
 exact k [] H ⟨S,Fr.refl _ _,λ_=>a8.refl _,.nil⟩
theorem c6{fs:NH}(ha:PE X a (TV K ml pa true true fa))(hr:PA X es (TAG K ml ps fs))(hs:Ah (a::es) X.env=(false,eval a X.env)::Ah es X.env:=by rfl):PA X (a::es) (TAG K ml (pa && ps) (aE fa fs)):=(bW ha hr hs).imp λσ H Q q0=>by
 obtain⟨B,O,δ,as,δ2,S,q,k⟩:=q0
 unfold aE at q
 cases h1:fa δ with
 | none => rw [h1] at q;cases q
 |some p=>
  obtain⟨x,δ1⟩:=p
  rw[h1] at q
  have q:((fs δ1).map λq=>(AV.d x::q.1,q.2))=some (as,δ2):=q
  cases h2:fs δ1 with
  |none=>rw[h2] at q;cases q
  |some p2=>
   rw[h2] at q
   cases q
   refine⟨B,O,δ,x,δ1,S,h1,λv1 H1 R1=>⟨B,O,δ1,_,_,R1.sta,h2,λvs H2 R2=>k _ H2 ⟨R2.sta,R1.frm.trans R2.frm,λz=> ?_,.d (R1.rep.fr R2.frm (λa z=> .inr z) λa z=> .inr z) R2.rep⟩⟩⟩
   obtain⟨z1,z2⟩:=(Af _ _).mp z
   exact(R1.pur z1).trans (R2.pur z2)
theorem MV{j:Nat}{d:dE}(h:slot δ j=some d):δ[j]? =some (.va d)∨δ[j]? =some (.ow d):=by
 unfold slot at h
 split at h
 ·cases h;exact .inl (by assumption)
 ·cases h;exact .inr (by assumption)
 ·cases h
theorem aS.slot(S:aS K ml B O H σ δ){j:Nat}{d:dE}(h:slot δ j=some d): ∃v,σ[j]? =some (some v):=by
 rcases MV h with h|h
 ·obtain⟨v,e,_⟩:=S.va j d h
  exact⟨v,e⟩
 ·obtain⟨a,_,e,_⟩:=S.ow j d h
  exact⟨_,e⟩
theorem bM{fs:NH}{j:Nat}(ha:PE X a (PN j))(hr:PA X es (TAG K ml ps fs))(hs:Ah (a::es) X.env=(false,eval a X.env)::Ah es X.env:=by rfl):PA X (a::es) (TAG K ml ps (aO j fs)):=(bW ha hr hs).imp λσ H Q q0=>by
 obtain⟨B,O,δ,as,δ2,S,q,k⟩:=q0
 unfold aO at q
 cases h1:slot δ j with
 | none => rw [h1] at q;cases q
 |some d=>
  rw[h1] at q
  have q:((fs δ).map λq=>(AV.o j::q.1,q.2))=some (as,δ2):=q
  cases h2:fs δ with
  |none=>rw[h2] at q;cases q
  |some p2=>
   rw[h2] at q
   cases q
   obtain⟨v,e⟩:=S.slot h1
   exact⟨v,e,B,O,δ,_,_,S,h2,λvs H2 R2=>k _ H2 ⟨R2.sta,R2.frm,R2.pur,.o e R2.rep⟩⟩
theorem U5.length: ∀{N:Addr->Prop} {vs:List V} {as:List AV},U5 K N H σ vs as->vs.length=as.length
 |_,_,_,.nil=>rfl
 |_,_,_,.d _ t=>congrArg (· +1) (U5.length t)
 |_,_,_,.o _ t=>congrArg (· +1) (U5.length t)
theorem U5.getD: ∀{N:Addr->Prop} {vs:List V} {as:List AV} {i:Nat} {d:dE},U5 K N H σ vs as->as[i]? =some (.d d)-> ∃v,vs[i]? =some v/\bG K N H N v d
 |_,_,_,_,_,.nil,e=>by simp at e
 |_,_,_,0,_,.d h _,e=>by simp at e;subst e;exact⟨_,rfl,h⟩
 |_,_,_,0,_,.o h _,e=>by simp at e
 |_,_,_,i+1,_,.d _ t,e=>by
  obtain⟨u,h1,h2⟩:=U5.getD (i:=i) t (by simpa using e)
  exact⟨u,by simpa using h1,h2⟩
 |_,_,_,i+1,_,.o _ t,e=>by
  obtain⟨u,h1,h2⟩:=U5.getD (i:=i) t (by simpa using e)
  exact⟨u,by simpa using h1,h2⟩
theorem U5.getO: ∀{N:Addr->Prop} {vs:List V} {as:List AV} {i j:Nat},U5 K N H σ vs as->as[i]? =some (.o j)-> ∃v,vs[i]? =some v/\σ[j]? =some (some v)
 |_,_,_,_,_,.nil,e=>by simp at e
 |_,_,_,0,_,.d h _,e=>by simp at e
 |_,_,_,0,_,.o h _,e=>by simp at e;subst e;exact⟨_,rfl,h⟩
 |_,_,_,i+1,_,.d _ t,e=>by
  obtain⟨u,h1,h2⟩:=U5.getO (i:=i) t (by simpa using e)
  exact⟨u,by simpa using h1,h2⟩
 |_,_,_,i+1,_,.o _ t,e=>by
  obtain⟨u,h1,h2⟩:=U5.getO (i:=i) t (by simpa using e)
  exact⟨u,by simpa using h1,h2⟩
def argD(δ:Ev):AV->Option dE
 | .d d=>some d
 | .o j=>slot δ j
noncomputable def WX(δ:Ev):List AV->Option (List dE)
 |[]=>some []
 |a::as=>(argD δ a).bind λd=>(WX δ as).map λds=>d::ds
theorem LU: ∀{as:List AV} {ds:List dE},WX δ as=some ds->as.length=ds.length/\ ∀(i:Nat) (d:dE),ds[i]? =some d-> ∃a,as[i]? =some a/\argD δ a=some d
 | [],ds,h => by cases h;exact ⟨rfl,λi d e => by simp at e⟩
 | a :: as,ds,h => by
  unfold WX at h
  cases h1:argD δ a with
  | none => rw [h1] at h;cases h
  |some d=>
   rw[h1] at h
   cases h2:WX δ as with
   | none => simp [h2] at h
   |some ds'=>
    simp only[Ak,h2] at h
    cases h
    obtain⟨l,g⟩:=LU h2
    refine⟨by simp[l],λi e he=> ?_⟩
    cases i with
    |zero=>cases he;exact⟨a,rfl,h1⟩
    |succ i=>
     obtain⟨b,e1,e2⟩:=g i e (by simpa using he)
     exact⟨b,by simpa using e1,e2⟩
noncomputable def U8:List AV->List Nat
 |[]=>[]
 | .d _::as=>U8 as
 | .o j::as=>j::U8 as
theorem QO: ∀{as:List AV} {i j:Nat},as[i]? =some (.o j)->j∈U8 as
 |[],_,_,e=>by simp at e
 | .d _::as,0,j,e=>by simp at e
 | .o k::as,0,j,e=>by simp at e;subst e;exact Ba
 | .d _::as,i+1,j,e=>QO (as:=as) (i:=i) (by simpa using e)
 | .o k::as,i+1,j,e=>Ao _ (QO (as:=as) (i:=i) (by simpa using e))
theorem EJ: ∀{as:List AV} {j:Nat},j∈U8 as-> ∃i:Nat,as[i]? =some (AV.o j)
 | [],_,h => nomatch h
 | .d _ :: as,j,h => by
  obtain⟨i,e⟩:=EJ (as:=as) h
  exact⟨i+1,by simpa using e⟩
 | .o k :: as,j,h => by
  rcases Aj.mp h with e|e
  ·exact ⟨0,by rw [e];rfl⟩
  ·obtain⟨i,e⟩:=EJ (as:=as) e
   exact⟨i+1,by simpa using e⟩
theorem K4: ∀{as:List AV} {i k j:Nat},(U8 as).Nodup->as[i]? =some (.o j)->as[k]? =some (.o j)->i=k
 |[],_,_,_,_,e,_=>by simp at e
 | .d _::as,0,_,j,_,e,_=>by simp at e
 | .d _::as,_+1,0,j,_,_,e=>by simp at e
 | .d _::as,i+1,k+1,j,n,e1,e2=>congrArg (· +1) (K4 (as:=as) n (by simpa using e1) (by simpa using e2))
 | .o x::as,0,0,j,_,_,_=>rfl
 | .o x::as,0,k+1,j,n,e1,e2=>by
  simp at e1
  subst e1
  have h:as[k]? =some (.o x):=by simpa using e2
  exact absurd (QO h) (Ct.mp n).1
 | .o x::as,i+1,0,j,n,e1,e2=>by
  simp at e2
  subst e2
  have h:as[i]? =some (.o x):=by simpa using e1
  exact absurd (QO h) (Ct.mp n).1
 | .o x::as,i+1,k+1,j,n,e1,e2=>congrArg (· +1) (K4 (as:=as) (Ct.mp n).2 (by simpa using e1) (by simpa using e2))
noncomputable def EQ(δ:Ev)(as:List AV)(i:Nat):Bool:=match as[i]? with
 |some (.o j)=>match δ[j]? with
  |some (.ow _)=>true
  |_=>false
 |_=>false
noncomputable def WV(mF:List Nat):List AV->Nat->Bool
 |[],_=>true
 | .d _::as,i=>WV mF as (i+1)
 | .o _::as,i=>decide (i∈mF) && WV mF as (i+1)
theorem TQ{mF:List Nat}: ∀{as:List AV} {k i j:Nat},WV mF as k=true->as[i]? =some (.o j)->k+i∈mF
 |[],_,_,_,_,e=>by simp at e
 | .d _::as,k,0,j,h,e=>by simp at e
 | .o _::as,k,0,j,h,e=>by
  simp only[WV,Af,decide_eq_true_eq] at h
  exact h.1
 | .d _::as,k,i+1,j,h,e=>by
  have:=TQ (as:=as) (k:=k+1) (i:=i) (j:=j) h (by simpa using e)
  rwa[show k+(i+1)=k+1+i by lia]
 | .o _::as,k,i+1,j,h,e=>by
  simp only[WV,Af] at h
  have:=TQ (as:=as) (k:=k+1) (i:=i) (j:=j) h.2 (by simpa using e)
  rwa[show k+(i+1)=k+1+i by lia]
def UQ:dE->Bool
 | .lst ds=>VA ds
 | .dct _ ds=>VA ds
 |_=>false
theorem QC.kids{N N':Addr->Prop}{a:Addr}(w:QC K N H a d)(h:UQ d=true):QC K N' H a d:=by
 cases w with
 |lst q r=>exact .lst q (r.hard h)
 |dct q r=>exact .dct q (r.hard h)
noncomputable def WS(as:List AV):List Nat->List dE->Ev->Ev
 |i::is,o::os,δ=>match as[i]? with
  |some (.o j)=>WS as is os (δ.set j (.ow o))
  |_=>WS as is os δ
 |_,_,δ=>δ
theorem RM{as:List AV}: ∀{is:List Nat} {os:List dE} {δ:Ev},(WS as is os δ).length=δ.length
 |[],_,_=>rfl
 |_::_,[],_=>rfl
 |i::is,o::os,δ=>by
  unfold WS
  split
  ·rw[RM,Cj]
  ·rw[RM]
theorem OI{as:List AV}: ∀{is:List Nat} {os:List dE} {δ:Ev} (j:Nat),is.length=os.length->j<δ.length→
  (∃(k i:Nat) (o:dE),is[k]? =some i/\os[k]? =some o/\as[i]? =some (AV.o j)/\(WS as is os δ)[j]? =some (Sl.ow o))∨((∀i∈is,as[i]? ≠some (AV.o j))/\(WS as is os δ)[j]? =δ[j]?)
 | [],[],δ,j,_,_ => .inr ⟨(λi h => nomatch h),rfl⟩
 | i :: is,o :: os,δ,j,hl,hj => by
  unfold WS
  split
  ·rename_i j0 e0
   rcases OI (is:=is) (os:=os) (δ:=δ.set j0 (.ow o)) j (by simpa using hl) (by rw[Cj];exact hj) with⟨k,i',o',h1,h2,h3,h4⟩|⟨h1,h2⟩
   ·exact .inl ⟨k + 1,i',o',by simpa using h1,by simpa using h2,h3,h4⟩
   ·by_cases hjj:j=j0
    ·subst hjj
     rw[Cz hj] at h2
     exact .inl ⟨0,i,o,rfl,rfl,e0,h2⟩
    ·rw[By (Dk hjj)] at h2
     refine .inr ⟨λi' hi'=> ?_,h2⟩
     rcases Aj.mp hi' with z|z
     ·rw[z,e0]
      intro w
      cases w
      exact hjj rfl
     ·exact h1 i' z
  ·rename_i hn
   rcases OI (is:=is) (os:=os) (δ:=δ) j (by simpa using hl) hj with⟨k,i',o',h1,h2,h3,h4⟩|⟨h1,h2⟩
   ·exact .inl ⟨k + 1,i',o',by simpa using h1,by simpa using h2,h3,h4⟩
   ·refine .inr ⟨λi' hi' => ?_,h2⟩
    rcases Aj.mp hi' with z|z
    ·rw[z]
     exact λw=>hn j w
    ·exact h1 i' z
def VN(mF:List Nat)(as:List AV)(δ:Ev):Bool:=mF.all (EQ δ as) && decide (U8 as).Nodup
noncomputable def WF(mF:List Nat)(as:List AV)(r:dE)(os:List dE):Bool:=(WV mF as 0 || r.hard) && (WV mF as 0 || os.all UQ) && decide (mF.length=os.length)
noncomputable def cV(n:Nat)(mF:List Nat)(F:b9)(fs:NH):VF:=λδ=>(fs δ).bind λp=>(WX p.2 p.1).bind λds=>if ds.length=n/\VN mF p.1 p.2=true then(F ds).bind λq=>if WF mF p.1 q.1 q.2=true then some (q.1,WS p.1 mF q.2 p.2) else none else none
theorem PB{n:Nat}{mF:List Nat}{F:b9}{fs:NH}{Q:VK}(h:TV K ml (ps && mF.isEmpty) true true (cV n mF F fs) σ H Q):AZ (spV K mF n F) [] E0 (TAG K ml ps fs) σ H Q:=by
 obtain⟨B,O,δ,d,δ2,S,q,k⟩:=h
 unfold cV at q
 cases h1:fs δ with
 | none => rw [h1] at q;cases q
 |some p=>
  obtain⟨as,δ1⟩:=p
  rw[h1] at q
  have q : ((WX δ1 as).bind λds => if ds.length = n /\ VN mF as δ1 = true then (F ds).bind λq => if WF mF as q.1 q.2 = true then some (q.1,WS as mF q.2 δ1) else none else none) = some (d,δ2) := q
  cases h2:WX δ1 as with
  | none => rw [h2] at q;cases q
  |some ds=>
   rw[h2] at q
   have q : (if ds.length = n /\ VN mF as δ1 = true then (F ds).bind λq => if WF mF as q.1 q.2 = true then some (q.1,WS as mF q.2 δ1) else none else none) = some (d,δ2) := q
   split at q
   ·rename_i hc
    cases h3:F ds with
    | none => rw [h3] at q;cases q
    |some z=>
     obtain⟨r,os⟩:=z
     rw[h3] at q
     have q:(if WF mF as r os=true then some (r,WS as mF os δ1) else none)=some (d,δ2):=q
     split at q
     ·rename_i hb
      cases q
      obtain⟨hn,hc⟩:=hc
      simp only[VN,Af,decide_eq_true_eq,Hw] at hc
      simp only[WF,Af,decide_eq_true_eq] at hb
      obtain⟨hmu,hnd⟩:=hc
      obtain⟨⟨qk,qr⟩,ai⟩:=hb
      refine⟨B,O,δ,as,δ1,S,h1,λvs H1 R=> ?_⟩
      show spV K mF n F (vs++[]) H1 Q E0
      rw[Dn]
      obtain⟨hal,hag⟩:=LU h2
      have hm: ∀i∈mF,∃j a x,as[i]? =some (.o j)/\δ1[j]? =some (.ow x)/\O j=some a/\vs[i]? =some (.ref a)/\QC K (Nn B O) H1 a x:=λi hi=>by
       have:=hmu i hi
       unfold EQ at this
       split at this
       ·rename_i j ej
        split at this
        ·rename_i x ex
         obtain⟨a,e1,e2,w⟩:=R.sta.ow j x ex
         obtain⟨v,e3,e4⟩:=R.rep.getO ej
         rw[e2] at e4
         cases e4
         exact⟨j,a,x,ej,ex,e1,e3,w⟩
        ·cases this
       ·cases this
      have hP: ∀a,U6 mF vs a-> ∃i j,i∈mF/\as[i]? =some (.o j)/\O j=some a:=λa q0=>by
       obtain⟨i,hi,e⟩:=q0
       obtain⟨j,a',x,e1,_,e2,e3,_⟩:=hm i hi
       rw[e] at e3
       cases e3
       exact⟨i,j,hi,e1,e2⟩
      have hPO: ∀a,U6 mF vs a->OA O a:=λa h=>by
       obtain⟨i,j,_,_,e⟩:=hP a h
       exact⟨j,e⟩
      have hZp: ∀a,Zp (λa=>Nn B O a/\ ∀j∈U8 as,O j≠some a) mF vs a->Nn B O a:=λa h=>by
       rcases h with h|h
       ·exact h.1
       ·exact .inr (hPO a h)
      refine⟨λa=>Nn B O a/\ ∀j∈U8 as,O j≠some a,ds,_,os,hn,⟨by rw[<- hal,R.rep.length],λi hi=> ?_,λi x hi e=> ?_,λi x hi e=> ?_,λi j a hi hj e1 e2=> ?_,λa h=>R.sta.nin h.1⟩,h3,λv H2 f2 w2 r2=> ?_⟩
      ·obtain⟨j,a,x,e1,_⟩:=hm i hi
       rw[<- hal]
       exact(Ad.mp e1).1
      ·obtain⟨a,e1,e2⟩:=hag i x e
       cases a with
       |d y=>
        cases e2
        obtain⟨v,e3,r⟩:=R.rep.getD e1
        exact⟨v,e3,r.mono hZp hZp⟩
       |o j=>
        obtain⟨v,e3,e4⟩:=R.rep.getO e1
        refine⟨v,e3,?_⟩
        rcases MV e2 with e5|e5
        ·obtain⟨v',e6,r⟩:=R.sta.va j x e5
         rw[e4] at e6
         cases e6
         exact r.mono hZp hZp
        ·obtain⟨a,e7,e6,w⟩:=R.sta.ow j x e5
         rw[e4] at e6
         cases e6
         refine(w.mono hZp).rep λz=> ?_
         rcases z with z|z
         ·exact z.2 j (QO e1) e7
         ·obtain⟨i',j',hi',e8,e9⟩:=hP a z
          have:j=j':=R.sta.inj j j' a e7 e9
          subst this
          have:=K4 hnd e1 e8
          subst this
          exact hi hi'
      ·obtain⟨a,e1,e2⟩:=hag i x e
       obtain⟨j,b,y,e3,e4,e5,e6,w⟩:=hm i hi
       rw[e3] at e1
       cases e1
       have e7 : slot δ1 j = some y := by unfold slot;rw [e4]
       have e2:slot δ1 j=some x:=e2
       rw[e7] at e2
       cases e2
       exact⟨b,e6,w.mono hZp,λz=>z.2 j (QO e3) e5⟩
      ·obtain⟨j1,b1,_,e3,_,e4,e5,_⟩:=hm i hi
       obtain⟨j2,b2,_,e6,_,e7,e8,_⟩:=hm j hj
       rw[e1] at e5
       cases e5
       rw[e2] at e8
       cases e8
       have:j1=j2:=R.sta.inj j1 j2 a e4 e7
       subst this
       exact K4 hnd e3 e6
      ·have S2:aS K ml B O H2 σ (WS as mF os δ1):=by
        refine R.sta.call RM (λj=> ?_) f2 hPO
        by_cases hj:j<δ1.length
        ·rcases OI (as:=as) (is:=mF) (os:=os) (δ:=δ1) j ai hj with⟨kk,i,o,e1,e2,e3,e4⟩|⟨e1,e2⟩
         ·obtain⟨j',a,x,e5,_,e6,e7,_⟩:=hm i (Eb e1)
          rw[e3] at e5
          cases e5
          have w:=w2 kk i a o e1 e7 e2
          refine .inr ⟨a,o,e6,e4,?_⟩
          rcases(He _ _).mp qr with z|z
          ·refine w.mono λb hb => ?_
           by_cases hjs: ∃j'∈U8 as,O j'=some b
           ·obtain⟨j',hj',e8⟩:=hjs
            obtain⟨i',e9⟩:=EJ hj'
            have hi':=TQ z e9
            rw[Jm] at hi'
            obtain⟨j'',a'',_,e10,_,e11,e12,_⟩:=hm i' hi'
            rw[e9] at e10
            cases e10
            rw[e8] at e11
            cases e11
            exact .inr ⟨i',hi',e12⟩
           ·exact .inl ⟨hb,λj' hj' e=>hjs ⟨j',hj',e⟩⟩
          ·exact w.kids (Hw.mp z o (Eb e2))
         ·refine .inl ⟨e2,λa ea hPa => ?_⟩
          obtain⟨i,j',hi,e3,e4⟩:=hP a hPa
          have:j=j':=R.sta.inj j j' a ea e4
          subst this
          exact e1 i hi e3
        ·refine .inl ⟨?_,λa ea => ?_⟩
         ·rw [Bw (by rw [RM];lia),Bw (by lia)]
         ·obtain⟨x,ex⟩:=R.sta.dom j a ea
          exact absurd (Ad.mp ex).1 hj
       refine k v H2 ⟨S2,R.frm.trans (f2.mono hPO),λz=> ?_,?_⟩
       ·obtain⟨z1,z2⟩:=(Af _ _).mp z
        refine(R.pur z1).trans λb o e=>f2 b o e λw=> ?_
        obtain⟨i,hi,_⟩:=w
        rw[Nw.mp z2] at hi
        cases hi
       ·rcases(He _ _).mp qk with z|z
        ·have hN : ∀ a,Nn B O a -> Zp (λa => Nn B O a /\ ∀ j ∈ U8 as,O j ≠ some a) mF vs a := λb hb => by
          by_cases hjs: ∃j'∈U8 as,O j'=some b
          ·obtain⟨j',hj',e8⟩:=hjs
           obtain⟨i',e9⟩:=EJ hj'
           have hi':=TQ z e9
           rw[Jm] at hi'
           obtain⟨j'',a'',_,e10,_,e11,e12,_⟩:=hm i' hi'
           rw[e9] at e10
           cases e10
           rw[e8] at e11
           cases e11
           exact .inr ⟨i',hi',e12⟩
          ·exact .inl ⟨hb,λj' hj' e=>hjs ⟨j',hj',e⟩⟩
         exact r2.mono hN hN
        ·exact r2.hard z
     ·cases q
   ·cases q
theorem zC2{x:Str}{kk j n:Nat}{qs:List Str}{mF:List Nat}{F:b9}{ff:Addr}{p':Pos}{fs:NH}(hK:X.K=K)(D:Def X.prog X.w K X.mg X.base x kk qs (spV K mF n F) ff)(hr:YJ j X.A)(hk:kk<=j)(hg:Gl X x)(ha:PA X (e::es) (TAG K ml ps fs))(hdb:(x==("__debug__":Str))=false:=by decide)
  (he:Ah (e::es) X.env=(false,eval e X.env)::Ah es X.env:=by rfl) (hpl:(Ez pos (Ah es X.env)).any (·.1)=false:=by rfl):
  PE X (.Call (.Name x p') (e::es) [] pos) (TV K ml (ps && mF.isEmpty) true true (cV n mF F fs)):=by
 subst hK
 exact(IZ D hr hk hg ha hdb he hpl).imp λ_ _ _ h=>PB h
end
section
variable{X:Cx}{K:An}{ml:List Nat}{e a b c:Expr}{es:List Expr}{pi pt pe pu bt bi ps bs:Bool}{f:VF}{B B':Bs}{O:Nat->Option Addr}{H H0 H1 H':Hp}{σ:St}{δ δ':Ev}{v:V}{d:dE}{p:Addr}{pos:Pos}{ix:List Nat}{nl:Nat}
def bX(ix:List Nat)(δ:Ev):Ev:=ix.map λi=>(δ[i]?).getD .no
def P1(nl:Nat):Ev:=Be nl Sl.no
noncomputable def aF(n nl:Nat)(gg:VG)(tb:VB)(fe:VF):List dE->List dE->Ev->Option (List dE×Ev)
 |[],acc,δ=>some (acc,δ)
 |d::r,acc,δ=>(gg d (δ++P1 nl)).bind λδ1=>(tb δ1).bind λp=>if p.1=true then(fe p.2).bind λq=>if acc.length<16777216 then aF n nl gg tb fe r (acc++[q.1]) (q.2.take n) else none else aF n nl gg tb fe r acc (p.2.take n)
noncomputable def ZH:List Nat->Ev->Ev->Ev
 |i::is,s::ss,δ=>match s with
  | .ow d=>ZH is ss (δ.set i (.ow d))
  |_=>ZH is ss δ
 |_,_,δ=>δ
noncomputable def ZZ(ix:List Nat)(nl:Nat)(fi:VI)(gg:VG)(tb:VB)(fe:VF):VF:=λδ=>(fi δ).bind λp=>(aF ix.length nl gg tb fe p.1 [] (bX ix p.2)).map λq=>(.lst q.1,ZH ix q.2 p.2)
def WY:VB:=λδ=>some (true,δ)
theorem X2: ∀{ix:List Nat} {ss δ:Ev},(ZH ix ss δ).length=δ.length
 |[],_,_=>rfl
 |_::_,[],_=>rfl
 |i::is,s::ss,δ=>by
  cases s<;>simp only[ZH]<;>rw[X2]<;>try rw[Cj]
theorem W5: ∀{ix:List Nat} {ss δ:Ev} (i:Nat),i<δ.length->ix.length=ss.length→
  (∃(j:Nat) (d:dE),ix[j]? =some i/\ss[j]? =some (Sl.ow d)/\(ZH ix ss δ)[i]? =some (Sl.ow d))∨((∀(j:Nat) (d:dE),ix[j]? =some i->ss[j]? ≠some (Sl.ow d))/\(ZH ix ss δ)[i]? =δ[i]?)
 | [],ss,δ,i,hi,hl => .inr ⟨(λj d h => by simp at h),rfl⟩
 | k :: is,[],δ,i,hi,hl => by cases hl
 | k :: is,s :: ss,δ,i,hi,hl => by
  have hl2:is.length=ss.length:=by simpa using hl
  cases s with
  |ow d=>
   simp only[ZH]
   rcases W5 (ix:=is) (ss:=ss) (δ:=δ.set k (.ow d)) i (by rw[Cj];exact hi) hl2 with⟨j,d',h1,h2,h3⟩|⟨h1,h2⟩
   ·exact .inl ⟨j + 1,d',by simpa using h1,by simpa using h2,h3⟩
   ·by_cases hk:i=k
    ·subst hk
     rw[Cz hi] at h2
     exact .inl ⟨0,d,rfl,rfl,h2⟩
    ·rw[By (Dk hk)] at h2
     refine .inr ⟨λj d' e=> ?_,h2⟩
     cases j with
     |zero=>cases e;exact absurd rfl hk
     |succ j=>simpa using h1 j d' (by simpa using e)
  |va d=>
   simp only[ZH]
   rcases W5 (ix:=is) (ss:=ss) (δ:=δ) i hi hl2 with⟨j,d',h1,h2,h3⟩|⟨h1,h2⟩
   ·exact .inl ⟨j + 1,d',by simpa using h1,by simpa using h2,h3⟩
   ·refine .inr ⟨λj d' e => ?_,h2⟩
    cases j with
    |zero=>simp
    |succ j=>simpa using h1 j d' (by simpa using e)
  |no=>
   simp only[ZH]
   rcases W5 (ix:=is) (ss:=ss) (δ:=δ) i hi hl2 with⟨j,d',h1,h2,h3⟩|⟨h1,h2⟩
   ·exact .inl ⟨j + 1,d',by simpa using h1,by simpa using h2,h3⟩
   ·refine .inr ⟨λj d' e => ?_,h2⟩
    cases j with
    |zero=>simp
    |succ j=>simpa using h1 j d' (by simpa using e)
def Oc(ix:List Nat)(O:Nat->Option Addr):Nat->Option Addr:=λj=>(ix[j]?).bind O
def Bc(ix:List Nat)(B:Bs)(O:Nat->Option Addr)(H0:Hp)(D:Addr)(kp:List (V×dE)):Bs:=
 ⟨λa=>(B.Z a∨a=D)∨ ∃i,O i=some a/\i∉ix,OA (Oc ix O),H0,Oc ix O,kp⟩
theorem OB{D:Addr}{kp:List (V×dE)}: ∀a,Nn (Bc ix B O H0 D kp) (Oc ix O) a->Nn B O a∨a=D:=λa h=>by
 rcases h with((h|h)|⟨i,h,_⟩)|⟨j,h⟩
 ·exact .inl (.inl h)
 ·exact .inr h
 ·exact .inl (.inr ⟨i,h⟩)
 ·unfold Oc at h
  cases q:ix[j]? with
  |none=>rw[q] at h;cases h
  |some i=>rw[q] at h;exact .inl (.inr ⟨i,h⟩)
theorem VV{D:Addr}{kp:List (V×dE)}: ∀a,Nn (B.add D) O a->Nn (Bc ix B O H0 D kp) (Oc ix O) a:=λa h=>by
 rcases h with h|⟨i,h⟩
 ·exact .inl (.inl h)
 ·by_cases hi:i∈ix
  ·obtain⟨j,hj⟩:=Hv.mp hi
   exact .inr ⟨j,by unfold Oc;rw[hj];exact h⟩
  ·exact .inl (.inr ⟨i,h,hi⟩)
theorem aS.withKp{kp:List (V×dE)}(S:aS K ml B O H σ δ)(h: ∀p∈kp,bG K (Nn B O) H (Nn B O) p.1 p.2):aS K ml {B with kp:=kp} O H σ δ:=
 ⟨S.len,S.va,S.ow,S.dom,S.inj,S.old,S.zin,S.frm,S.par,S.pin,h⟩
theorem aS.writeZ{D:Addr}{o:HO}{acc:List V}(S:aS K ml B O H σ δ)(hD:B.Z D)(hl:H D=some (.lst acc))(h0:B.H0 D=none):aS K ml B O (bA H D o) σ δ:=by
 have hf:Fr (λb=>b=D) H (bA H D o):=λb u q n=>by
  by_cases hb:b=D
  ·subst hb
   rw[hl] at q
   cases q
   exact absurd (n rfl) λz=>z
  ·rw[bQ hb]
   exact q
 have hN: ∀b,b=D->Nn B O b:=λb z=> .inl (z▸hD)
 have hin: ∀b,(∃u,H b=some u)-> ∃u,bA H D o b=some u:=λb q0=>by
  obtain⟨u,q⟩:=q0
  by_cases hb:b=D
  ·exact⟨o,by rw[hb];exact cH⟩
  ·exact⟨u,by rw[bQ hb];exact q⟩
 refine⟨S.len,λi d q=> ?_,λi d q=> ?_,S.dom,S.inj,S.old,λb h=>hin b (S.zin b h),λb u q n=> ?_,S.par,λb h=>hin b (S.pin b h),λp hp=>(S.kep p hp).fr hf hN hN⟩
 ·obtain⟨v,e,r⟩:=S.va i d q
  exact⟨v,e,r.fr hf hN hN⟩
 ·obtain⟨a,e,e2,w⟩:=S.ow i d q
  exact⟨a,e,e2,w.fr hf hN λz=>(S.old i a e).1 (z▸hD)⟩
 ·have hb : b ≠ D := λz => by rw [z,h0] at q;cases q
  rw[bQ hb]
  exact S.frm b u q n
theorem L0{j:Nat}{s:Sl}(h:(bX ix δ++P1 nl)[j]? =some s):(∃i,ix[j]? =some i/\s=(δ[i]?).getD .no)∨s= .no:=by
 unfold bX P1 at h
 by_cases hj:j<ix.length
 ·rw [Ae (by simpa using hj),Cr] at h
  cases q:ix[j]? with
  |none=>rw[q] at h;cases h
  |some i=>rw[q] at h;cases h;exact .inl ⟨i,rfl,rfl⟩
 ·rw [Bb (by simpa using hj),Cs] at h
  split at h
  ·cases h;exact .inr rfl
  ·cases h
theorem HR{i j:Nat}{v:V}(hi:ix[j]? =some i)(h:σ[i]? =some (some v)):(bC ix σ++Be nl none)[j]? =some (some v):=by
 have hj:j<ix.length:=(Ad.mp hi).1
 unfold bC
 rw[Ae (by simpa using hj),Cr,hi]
 show some ((σ[i]?).join)=_
 rw[h]
 rfl
theorem aS.inner{D:Addr}(S:aS K ml B O H0 σ δ)(hD:H0 D=none)(hnd:ix.Nodup){kps:List (V×dE)}(hk: ∀p∈kps,bG K (Nn B O) H0 (Nn B O) p.1 p.2):
  aS K (Ar ix.length) (Bc ix B O H0 D kps) (Oc ix O) (bA H0 D (.lst [])) (bC ix σ++Be nl none) (bX ix δ++P1 nl) where
 len:=by simp[bC,bX,P1]
 va := λj d e => by
  rcases L0 e with⟨i,hi,q⟩|q
  ·have q:δ[i]? =some (.va d):=by
    cases w:δ[i]? with
    |none=>rw[w] at q;cases q
    |some s=>rw[w] at q;rw[show s= .va d from q.symm]
   obtain⟨v,e1,r⟩:=S.va i d q
   exact⟨v,HR hi e1,(r.away hD _ _ OB OB).same (cZ hD)⟩
  ·cases q
 ow := λj d e => by
  rcases L0 e with⟨i,hi,q⟩|q
  ·have q:δ[i]? =some (.ow d):=by
    cases w:δ[i]? with
    |none=>rw[w] at q;cases q
    |some s=>rw[w] at q;rw[show s= .ow d from q.symm]
   obtain⟨a,e1,e2,w⟩:=S.ow i d q
   refine⟨a,by unfold Oc;rw[hi];exact e1,HR hi e2,?_⟩
   cases w with
   |lst q' r=>exact .lst (cZ hD _ _ q') ((r.away hD _ _ OB).same (cZ hD))
   |dct q' r=>exact .dct (cZ hD _ _ q') ((r.away hD _ _ OB).same (cZ hD))
  ·cases q
 dom:=λj a e=>by
  unfold Oc at e
  cases hi:ix[j]? with
  | none => rw [hi] at e;cases e
  |some i=>
   rw[hi] at e
   obtain⟨d,q⟩:=S.dom i a e
   refine⟨d,?_⟩
   have hj:j<ix.length:=(Ad.mp hi).1
   unfold bX
   rw[Ae (by simpa using hj),Cr,hi]
   show some ((δ[i]?).getD .no)=_
   rw[q]
   rfl
 inj:=λj k a e1 e2=>by
  unfold Oc at e1 e2
  cases hi:ix[j]? with
  | none => rw [hi] at e1;cases e1
  |some i=>
   cases hk:ix[k]? with
   |none=>rw[hk] at e2;cases e2
   |some i'=>
    rw[hi] at e1
    rw[hk] at e2
    have:i=i':=S.inj i i' a e1 e2
    subst this
    obtain⟨l1,q1⟩:=Ad.mp hi
    obtain⟨l2,q2⟩:=Ad.mp hk
    exact(Nr hnd).mp (q1.trans q2.symm)
 old:=λj a e=>by
  have e':=e
  unfold Oc at e'
  cases hi:ix[j]? with
  | none => rw [hi] at e';cases e'
  |some i=>
   rw[hi] at e'
   refine⟨λz=> ?_,.inl ⟨j,e⟩⟩
   rcases z with(z|z)|⟨i',z,n⟩
   ·exact(S.old i a e').1 z
   ·obtain⟨o,q⟩:=S.nin (.inr ⟨i,e'⟩)
    rw[z,hD] at q
    cases q
   ·have:i=i':=S.inj i i' a e' z
    subst this
    exact n (Eb hi)
 zin:=λa h=>by
  rcases h with(h|h)|⟨i,h,_⟩
  ·obtain⟨o,q⟩:=S.zin a h
   exact⟨o,cZ hD _ _ q⟩
  ·exact ⟨_,by rw [h];exact cH⟩
  ·obtain⟨o,q⟩:=S.nin (.inr ⟨i,h⟩)
   exact⟨o,cZ hD _ _ q⟩
 frm:=(cZ hD).fr
 par:=⟨λj a e=>by
  have e:(ix[j]?).bind O=some a:=e
  cases hi:ix[j]? with
  |none=>rw[hi] at e;cases e
  |some i=>exact Bt.mpr (Ad.mp hi).1,λj _=>rfl⟩
 pin:=λa q0=>by
  obtain⟨j,e⟩:=q0
  unfold Oc at e
  cases hi:ix[j]? with
  |none=>rw[hi] at e;cases e
  |some i=>
   rw[hi] at e
   obtain⟨o,q⟩:=S.nin (.inr ⟨i,e⟩)
   exact⟨o,cZ hD _ _ q⟩
 kep:=λp hp=>((hk p hp).away hD _ _ OB OB).same (cZ hD)
theorem aS.turn{O':Nat->Option Addr}{σ':St}{n:Nat}{m:St}(S:aS K (Ar n) B O' H σ' δ)(hmu: ∀j,n<=j->B.mu j=none)(hm:m.length=n)(hσ:σ'.take n=m)(hn:n<=δ.length):aS K (Ar n) B B.mu H (m++Be nl none) (δ.take n++P1 nl):=by
 have hO: ∀j,j<n->O' j=B.mu j:=λj hj=>S.par.2 j (Bt.mpr hj)
 have hle: ∀j a,B.mu j=some a->O' j=some a:=λj a e=>by rw[hO j (Bt.mp (S.par.1 j a e))];exact e
 have hN: ∀a,Nn B B.mu a->Nn B O' a:=λa h=>by
  rcases h with h|⟨j,h⟩
  ·exact .inl h
  ·exact .inr ⟨j,hle j a h⟩
 have hg: ∀(j:Nat) (s:Sl),(δ.take n++P1 nl)[j]? =some s->(j<n/\δ[j]? =some s)∨s= .no:=λj s h=>by
  have hl:(δ.take n).length=n:=by rw[Ci];lia
  by_cases hj:j<n
  ·rw [Ae (by rw [hl];exact hj),Cf hj] at h
   exact .inl ⟨hj,h⟩
  ·unfold P1 at h
   rw[Bb (by rw[hl];lia),Cs] at h
   split at h
   ·cases h;exact .inr rfl
   ·cases h
 have hs: ∀(j:Nat) (v:V),j<n->σ'[j]? =some (some v)->(m++Be nl none)[j]? =some (some v):=λj v hj e=>by
  rw[Ae (by rw[hm];exact hj),<- hσ,Cf hj]
  exact e
 refine⟨?_,λj d e=> ?_,λj d e=> ?_,λj a e=> ?_,λj k a e1 e2=>S.inj j k a (hle j a e1) (hle k a e2),λj a e=>S.old j a (hle j a e),S.zin,S.frm,⟨S.par.1,λj _=>rfl⟩,S.pin,λp hp=>(S.kep p hp).mono hN hN⟩
 ·simp[hm,P1,Ci]
  lia
 ·rcases hg j _ e with⟨hj,e⟩|e
  ·obtain⟨v,e1,r⟩:=S.va j d e
   exact⟨v,hs j v hj e1,r.mono hN hN⟩
  ·cases e
 ·rcases hg j _ e with⟨hj,e⟩|e
  ·obtain⟨a,e1,e2,w⟩:=S.ow j d e
   exact⟨a,(hO j hj)▸e1,hs j _ hj e2,w.mono hN⟩
  ·cases e
 ·have hj:=Bt.mp (S.par.1 j a e)
  obtain⟨d,q⟩:=S.dom j a (hle j a e)
  refine⟨d,?_⟩
  rw[Ae (by rw[Ci];lia),Cf hj]
  exact q
theorem ZI(ix:List Nat)(σ:St):(bC ix σ).length=ix.length:=by simp[bC]
theorem QY{σ':St}(hl:ix.length<=σ'.length)(h: ∀i∈Ar ix.length,σ'[i]? =(bC ix σ++Be nl none)[i]?):σ'.take ix.length=bC ix σ:=by
 refine Jy λj=> ?_
 by_cases hj:j<ix.length
 ·rw[Cf hj,h j (Bt.mpr hj),Ae (by rw[ZI];exact hj)]
 ·rw[Bw (by rw[Ci];lia),Bw (by rw[ZI];lia)]
theorem FM{fi:VI}{gg:VG}{tb:VB}{fe:VF}(hnd:ix.Nodup){Q:VK}(h:TN K ml (pi && pt && pe) (ZZ ix nl fi gg tb fe) σ H Q):
  FL ix nl (CG K ml pi fi) (BR K (Ar ix.length) gg) (TB K (Ar ix.length) pt tb) (TV K (Ar ix.length) pe true true fe) σ H Q:=by
 obtain⟨B,O,δ,d,δ2,S,q,k⟩:=h
 unfold ZZ at q
 cases h1:fi δ with
 | none => rw [h1] at q;cases q
 |some p=>
  obtain⟨ds,δ1⟩:=p
  rw[h1] at q
  have q : ((aF ix.length nl gg tb fe ds [] (bX ix δ1)).map λq => (dE.lst q.1,ZH ix q.2 δ1)) = some (d,δ2) := q
  cases h2:aF ix.length nl gg tb fe ds [] (bX ix δ1) with
  | none => rw [h2] at q;cases q
  |some z=>
   obtain⟨res,δf⟩:=z
   rw[h2] at q
   cases q
   refine⟨B,O,δ,ds,δ1,S,h1,λJ kps H0 S0 f0 p0 wk D hD=> ?_⟩
   have hDO : ∀ j,Oc ix O j ≠ some D := λj e => by
    unfold Oc at e
    cases hi:ix[j]? with
    | none => rw [hi] at e;cases e
    |some i=>
     rw[hi] at e
     obtain⟨o,q⟩:=S0.nin (.inr ⟨i,e⟩)
     rw[hD] at q
     cases q
   have di : ∀ kp j,ix.length <= j -> (Bc ix B O H0 D kp).mu j = none := λkp j hj => by
    show(ix[j]?).bind O=none
    rw[Bw hj]
    rfl
   refine⟨λi m acc H1=>m=ds.length - i/\i<=ds.length/\ ∃(ah:List dE) (δc:Ev),δc.length=ix.length/\acc.length=ah.length∧
     aS K (Ar ix.length) (Bc ix B O H0 D (kps++acc.zip ah)) (Oc ix O) H1 (bC ix σ++Be nl none) (δc++P1 nl)/\H1 D=some (.lst acc)/\((pt && pe)=true->a8 H0 H1)∧
     aF ix.length nl gg tb fe (ds.drop i) ah δc=some (res,δf),
    ⟨ds.length,rfl,Dc _,[],bX ix δ1,by simp [bX],rfl,by
     rw[Jz,Dn]
     exact S0.unkeep.inner hD hnd λp hp=>S0.kep p (Bp _ hp),cH,λ_=>cZ hD,h2⟩,?_⟩
   rintro i m acc H1 ⟨rfl,hi,ah,δc,hlc,au,S1,hD1,cg,hc⟩
   have w := wk (Nn (Bc ix B O H0 D (kps ++ acc.zip ah)) (Oc ix O)) H1 λp hp => S1.kep p (Bp _ hp)
   by_cases hlt:i<ds.length
   ·obtain ⟨go,yl⟩ := w.1 i ds[i] (by simp [hlt])
    rw[Cv hlt] at hc
    simp only[aF] at hc
    cases g1:gg ds[i] (δc++P1 nl) with
    | none => rw [g1] at hc;cases hc
    |some δ3=>
     rw[g1] at hc
     simp only[Ak] at hc
     cases g2:tb δ3 with
     | none => rw [g2] at hc;cases hc
     |some z=>
      obtain⟨kk,δ4⟩:=z
      rw[g2] at hc
      simp only[Ak] at hc
      refine .inr ⟨go,λag H'=> ∃(ah:List dE) (δc:Ev),δc.length=ix.length/\ag.length=ah.length∧
       aS K (Ar ix.length) (Bc ix B O H0 D (kps++ag.zip ah)) (Oc ix O) H' (bC ix σ++Be nl none) (δc++P1 nl)/\H' D=some (.lst ag)/\((pt && pe)=true->a8 H0 H')∧
       aF ix.length nl gg tb fe (ds.drop (i + 1)) ah δc = some (res,δf),λag H' w' => ⟨ds.length - (i + 1),by lia,rfl,hlt,w'⟩,λx H2 hy => ?_⟩
      obtain⟨sm,rx⟩:=yl x H2 hy
      refine⟨_,_,_,ds[i],δ3,S1.same sm,rx,g1,λσ3 O3 S3 m3=> ?_⟩
      have ln3:ix.length<=σ3.length:=by
       by_cases hz:ix.length=0
       ·lia
       ·have hj : ix.length - 1 < ix.length := by lia
        have:=m3 (ix.length - 1) (Bt.mpr hj)
        have hs:(bC ix σ++Be nl none)[ix.length - 1]? ≠none:=by
         rw [Ae (by rw [ZI];exact hj)]
         simp[bC,hj]
        rw[<- this] at hs
        have oa:ix.length - 1<σ3.length:=Ko λz=>hs (Gj.mpr z)
        lia
      have hσ3:=QY ln3 m3
      refine⟨hσ3,_,_,δ3,kk,δ4,S3,g2,λH4 R4=> ?_⟩
      have hD4 : H4 D = some (.lst acc) := R4.frm _ _ (sm _ _ hD1) λz => by
       obtain⟨j,e⟩:=z
       have:=(R4.sta.old j D e).1
       exact absurd (.inl (.inr rfl)) this
      have ln4 : ix.length <= δ4.length := by rw [<- R4.sta.len];exact ln3
      cases kk with
      |false=>
       rw[if_neg Dd] at hc
       refine PH ⟨ah,δ4.take ix.length,by rw[Ci];lia,au,R4.sta.turn (di _) (ZI ix σ) hσ3 ln4,hD4,λz=> ?_,hc⟩
       exact((cg z).trans sm).trans (R4.pur ((Af _ _).mp z).1)
      |true=>
       rw[if_pos rfl] at hc
       cases g3:fe δ4 with
       | none => rw [g3] at hc;cases hc
       |some z=>
        obtain⟨dv,δ5⟩:=z
        rw[g3] at hc
        simp only[Ak] at hc
        split at hc
        ·rename_i hz
         refine PJ ⟨_,_,δ4,dv,δ5,R4.sta,g3,λv H5 R5=> ?_⟩
         have hD5:H5 D=some (.lst acc):=R5.frm _ _ hD4 λz=>by
          obtain⟨j,e⟩:=z
          have:=(R5.sta.old j D e).1
          exact absurd (.inl (.inr rfl)) this
         have ln5:ix.length<=δ5.length:=by rw[<- R5.sta.len];exact ln3
         have S6:=R5.sta.turn (nl:=nl) (di _) (ZI ix σ) hσ3 ln5
         have hv:bG K (Nn (Bc ix B O H0 D (kps++acc.zip ah)) (Oc ix O)) H5 (Nn (Bc ix B O H0 D (kps++acc.zip ah)) (Oc ix O)) v dv:=by
          have hN: ∀a,Nn (Bc ix B O H0 D (kps++acc.zip ah)) (Oc ix O) a->av (Bc ix B O H0 D (kps++acc.zip ah)) O3 true a:=λa h=>by
           rcases h with h|⟨j,h⟩
           ·exact .inl h
           ·refine .inr ⟨j,?_⟩
            have hj:j∈Ar ix.length:=R5.sta.par.1 j a h
            rw[R5.sta.par.2 j hj]
            exact h
          exact R5.rep.mono hN hN
         have S7:=S6.withKp (kp:=kps++(acc++[v]).zip (ah++[dv])) λp hp=>by
          rw[Lm au,<- Ax] at hp
          rcases Bi.mp hp with z|z
          ·exact S6.kep p z
          ·rw[As.mp (show p∈[(v,dv)] from z)]
           exact hv
         refine⟨hD5,by rw[au,Db];exact hz,ah++[dv],δ5.take ix.length,by rw[Ci];lia,by simp[au],?_,cH,λz=> ?_,hc⟩
         ·exact S7.writeZ (.inl (.inr rfl)) hD5 hD
         ·intro b o e
          have hb:b≠D:=λz=>by rw[z,hD] at e;cases e
          rw[bQ hb]
          obtain⟨z1,z2⟩:=(Af _ _).mp z
          exact(((cg z).trans sm).trans ((R4.pur z1).trans (R5.pur z2))) b o e
        ·cases hc
   ·have e : i = ds.length := by lia
    subst e
    rw[Eo] at hc
    cases hc
    refine .inl ⟨w.2,k D H1 ?_⟩
    have fP:Fr (OA (Oc ix O)) H0 H1:=S1.frm
    have hPO: ∀a,OA (Oc ix O) a->OA O a:=λa q0=>by
     obtain⟨j,e⟩:=q0
     unfold Oc at e
     cases hi:ix[j]? with
     | none => rw [hi] at e;cases e
     | some i => rw [hi] at e;exact ⟨i,e⟩
    have SL:=S0.unkeep.laid (o:= .lst acc) hD
    have fL:Fr (OA (Oc ix O)) (bA H0 D (.lst acc)) H1:=λb o e n=>by
     by_cases hb:b=D
     ·subst hb
      rw[cH] at e
      cases e
      exact hD1
     ·rw[bQ hb] at e
      exact fP b o e n
    refine⟨SL.call (X2) (λi=> ?_) fL hPO,f0.trans (fP.mono hPO),λz=> ?_,.lst hD1 (VY au λp hp=>(S1.kep p (At _ hp)).mono VV VV),S0.unkeep.new hD,S0.fresh hD⟩
    ·by_cases dk:i<δ1.length
     ·rcases W5 (ix:=ix) (ss:=δf) (δ:=δ1) i dk hlc.symm with⟨j,x,e1,e2,e3⟩|⟨e1,e2⟩
      ·have e4:(δf++P1 nl)[j]? =some (.ow x):=by
        rw[Ae (Ad.mp e2).1]
        exact e2
       obtain⟨a,e5,_,w⟩:=S1.ow j x e4
       refine .inr ⟨a,x,?_,e3,w.mono VV⟩
       unfold Oc at e5
       rw[e1] at e5
       exact e5
      ·refine .inl ⟨e2,λa ea ⟨j,ej⟩ => ?_⟩
       obtain⟨x,ex⟩:=S1.dom j a ej
       unfold Oc at ej
       cases hi:ix[j]? with
       |none=>rw[hi] at ej;cases ej
       |some i'=>
        rw[hi] at ej
        have:i=i':=S0.inj i i' a ea ej
        subst this
        have hj:j<δf.length:=by rw[hlc];exact(Ad.mp hi).1
        rw[Ae hj] at ex
        exact e1 j x hi ex
     ·refine .inl ⟨?_,λa ea => ?_⟩
      ·rw [Bw (by rw [X2];lia),Bw (by lia)]
      ·obtain⟨x,ex⟩:=S0.dom i a ea
       exact absurd (Ad.mp ex).1 dk
    ·simp only[Af] at z
     exact(p0 z.1.1).trans (cg (by simp[z.1.2,z.2]))
theorem zEP{Q:Bool->Hp->Prop}(h:TB K ml true WY σ H Q):tYes σ H Q:=by
 obtain⟨B,O,δ,k,δ',S,q,w⟩:=h
 cases q
 exact w H (CD.refl S)
theorem SQ{Y:Cx}{t:VB}(h:PT Y c (TB K ml pt t)):PTs Y [c] (TB K ml pt t):=zCF h
theorem XS{Y:Cx}:PTs Y [] (TB K ml true WY):=λaa s σ H Q I hw=>zCG aa s σ H Q I (zEP hw)
theorem A9{Q:VK}{o:Bool}(h:TX K ml (if o then xO f else xV f) σ H Q):TN K ml pu f σ H Q:=by
 obtain⟨B,O,δ,s,δ',S,q,k⟩:=h
 have e: ∃d,f δ=some (d,δ')/\s=if o then .ow d else .va d:=by
  cases o with
  |true=>
   have q:(f δ).map (λp=>(Sl.ow p.1,p.2))=some (s,δ'):=q
   cases h1:f δ with
   |none=>rw[h1] at q;cases q
   |some p=>rw[h1] at q;cases q;exact⟨p.1,rfl,rfl⟩
  |false=>
   have q:(f δ).map (λp=>(Sl.va p.1,p.2))=some (s,δ'):=q
   cases h1:f δ with
   |none=>rw[h1] at q;cases q
   |some p=>rw[h1] at q;cases q;exact⟨p.1,rfl,rfl⟩
 obtain⟨d,h1,hs⟩:=e
 refine⟨B,O,δ,d,δ',S,h1,λp H' R=> ?_⟩
 cases o with
 |true=>
  cases hs
  have w:=R.own
  cases w with
  |lst q1 r=>exact k _ H' _ (R.sta.keepV (UD r)) (.ol q1 r.length R.nz R.h0) R.frm
  |dct q1 r=>exact k _ H' _ (R.sta.keepV (UD r)) (.od q1 (by simpa using r.length) R.nz R.h0) R.frm
 |false=>
  cases hs
  exact k _ H' _ (R.sta.unadd.keepV (ps:=[(.ref p,d)]) λz hz=>by
   rw[As.mp hz]
   exact(R.own.mono SJ).rep R.nz) .va R.frm
theorem HB{i:Nat}{x:VX}{te:TE}(hte: ∀σ H Q,TX K ml x σ H Q->te σ H Q)(hm:i∉ml){D:FT}(h:TM K ml (aC i x) D σ H):AY te (IB i) D σ H:=by
 obtain⟨B,O,δ,o,S,q,k⟩:=h
 unfold aC at q
 cases h1:x δ with
 | none => rw [h1] at q;cases q
 |some p=>
  obtain⟨s,δ1⟩:=p
  rw[h1] at q
  have q:(if i<δ1.length then some (Ou.nx (δ1.set i s)) else none)=some o:=q
  split at q
  ·rename_i hl
   cases q
   refine hte _ _ _ ⟨B,O,δ,s,δ1,S,h1,λv H' B' S' h' f'=> ?_⟩
   obtain⟨O'',S''⟩:=h'.bind S' hm hl
   exact k _ _ _ S''
  ·cases q
end
abbrev cM(P:Bn)(w:World)(K:An)(mg:Str->Option Value)(base:Heap)(x:Str)(k:Nat)(ps:List Str)(mF:List Nat)(F:b9)(f:Addr):Prop:=Def P w K mg base x k ps (spV K mF ps.length F) f
section
variable{X:Cx}{K:An}{ml:List Nat}{e a b c:Expr}{es:List Expr}{pa ta ia pb tb ib pc tc ic pu bt bi ps bs:Bool}{fa fb fc f:VF}{B B':Bs}{O:Nat->Option Addr}{H H0 H1 H':Hp}{σ:St}{δ δ':Ev}{v:V}{d:dE}{p:Addr}{pos:Pos}
theorem a6{x:Str}(hg:Gl X x)(h: ∃u v,X.mg x=some u/\bZ v u/\ ∀N H M,bG K N H M v d)(hd:(x==("__debug__":Str))=false:=by decide):PE X (.Name x pos) (TV K ml true true true (fC d)):=by
 obtain⟨u,v,h1,h2,h3⟩:=h
 exact D0 (zCQ hg h1 h2 hd) h3
def zDT(K:An):R2:=λx y H Q=> ∃a b xs ys,x= .ref a/\y= .ref b/\WC K H a xs/\WC K H b ys/\xs.length+ys.length<=sizeLine∧
 (xs=[]->Q (.ref b) H)/\(xs≠[]->ys=[]->Q (.ref a) H)/\(xs≠[]->ys≠[]-> ∀p,H p=none->Q (.ref p) (bA H p (.tup (xs++ys))))
theorem zCV:WT X (Fs .Add) (zDT X.K):=by
 intro aa s σ H x y v u Q I rx ry h
 obtain⟨a,b,xs,ys,rfl,rfl,ha,hb,hz,q0,q1,q2⟩:=h
 cases rx
 cases ry
 obtain⟨its,r1,p1,_⟩:=I.tuple ha
 obtain⟨g7,r2,p2,_⟩:=I.tuple hb
 by_cases hx:xs=[]
 ·subst hx
  have e0:its=[]:=r1.nil_iff.mpr rfl
  subst e0
  obtain⟨⟨cls,dd,data,sl⟩,ho,hc,n,hd⟩:=id p1
  obtain⟨⟨ou,dd2,data2,sl2⟩,ho2,hc2,n2,hd2⟩:=id p2
  simp only at hc hd hc2 hd2
  subst hc hd hc2 hd2
  exact Ld ⟨_,ho,rfl⟩ ⟨_,ho2,rfl⟩ Kn Ml Hi Gz (Gq _ _)
   (tuple_addW0 a b _ g7.toArray n n2 dd dd2 sl sl2 (by simp)) ⟨ho,ho2,⟨.ref b,H,I,rfl,q0 rfl⟩⟩
 ·refine HT.zDC p1 p2 (λz => hx (r1.nil_iff.mp z)) (λz => ⟨.ref a,H,I,rfl,q1 hx (r2.nil_iff.mp z)⟩) (λz => ?_) (by rw [<- r1.length,<- r2.length];exact hz)
  refine⟨.ref s.heap.objs.size,_,I.laid (t':=s.toks) (o:= .tup (xs++ys)) (λb ob q=>Ac _ q) (Ap _) ?_,rfl,q2 hx (λw=>z (r2.nil_iff.mpr w)) _ (I.hok.fresh (Ap _))⟩
  exact⟨by rw[Bv];exact hz,_,r1.append r2,Ju _ _⟩
def zDS(K:An):R2:=λx y H Q=> ∃l b xs zs,x= .ref l/\y= .ref b/\W8 K H l xs/\W8 K H b zs/\xs.length+zs.length<=sizeLine/\ ∀p,H p=none->Q (.ref p) (bA H p (.lst (xs++zs)))
theorem zCU:WT X (Fs .Add) (zDS X.K):=by
 intro aa s σ H x y v u Q I rx ry h
 obtain⟨l,b,xs,zs,rfl,rfl,hH,hB,hz,q⟩:=h
 cases rx
 cases ry
 obtain⟨its,r,p1,_⟩:=I.list hH
 obtain⟨g7,r2,p2,_⟩:=I.list hB
 obtain⟨⟨cls,dd,data,sl⟩,n,ho,hc,_,hd⟩:=id p1
 obtain⟨⟨ou,dd2,data2,sl2⟩,n2,ho2,hc2,_,hd2⟩:=id p2
 simp only at hc hd hc2 hd2
 subst hc hd hc2 hd2
 have ea:its.toArray++g7.toArray=(its++g7).toArray:=by simp
 have hl:=r.length
 have hl2:=r2.length
 refine Ld ⟨_,ho,rfl⟩ ⟨_,ho2,rfl⟩ noFill_list_add seq_list_add PySem.F.slot_list_add PySem.F.entry_list_add (PySem.F.args_list_add_2 _ _) (list_addW l b its.toArray g7.toArray n n2 dd dd2 sl sl2 (by rw[Aq,Aq,<- hl,<- hl2];exact hz)) ⟨ho,ho2,?_⟩
 rw[ea]
 exact⟨.ref _,_,I.lnew (t':=s.toks) (r.append r2) (by rw[Bv];lia),rfl,q _ I.fresh⟩
def zDR(K:An):R2:=λx y H Q=>((GW (λi j=> .int (i+j)) x y H Q∨zDT K x y H Q)∨zDS K x y H Q)∨ ∃i j,x= .str i/\y= .str j/\i.length+j.length<=sizeLine/\Q (.str (i++j)) H
theorem YE(h:X.K=K):WT X (Fs .Add) (zDR K):=by subst h;exact((zGB.or zCV).or zCU).or GN
noncomputable def ZV:dE->dE->Option dE
 | .int i,.int j=>some (.int (i+j))
 | .tup ds,.tup es=>if ds.length+es.length<=16777216 then some (.tup (ds++es)) else none
 | .lst ds,.lst es=>if ds.length+es.length<=16777216 then some (.lst (ds++es)) else none
 | .str x,.str y=>if x.length+y.length<=16777216 then some (.str (x++y)) else none
 |_,_=>none
theorem bG.tupE{N M:Addr->Prop}{ds:List dE}(h:bG K N H M v (.tup ds)): ∃a xs,v= .ref a/\WC K H a xs/\cO K N H xs ds:=by
 cases h with
 |tup q r=>exact⟨_,_,rfl,q,r⟩
theorem bG.lstE{N M:Addr->Prop}{ds:List dE}(h:bG K N H M v (.lst ds)): ∃a xs,v= .ref a/\W8 K H a xs/\cO K N H xs ds:=by
 cases h with
 |lst q n r=>exact⟨_,_,rfl,W8.of q,r⟩
 |fzl q r=>exact⟨_,_,rfl,q.sq,r⟩
theorem ZK:OpC K (zDR K) ZV:=by
 intro H N M M' x y d e c Q hx hy h k
 cases d with
 |int i=>
  cases e with
  |int j=>
   cases h
   cases hx
   cases hy
   exact .inl (.inl (.inl ⟨_,_,rfl,rfl,k _ _ (a8.refl _) λ_ _=> .int _⟩))
  | _ => cases h
 |str i=>
  cases e with
  |str j=>
   simp only[ZV] at h
   split at h
   ·cases h
    cases hx
    cases hy
    exact .inr ⟨_,_,rfl,rfl,by rw[Db];assumption,k _ _ (a8.refl _) λ_ _=> .str _⟩
   ·cases h
  | _ => cases h
 |tup ds=>
  cases e with
  |tup es=>
   simp only[ZV] at h
   split at h
   ·rename_i hz
    cases h
    obtain⟨a,xs,rfl,q1,r1⟩:=hx.tupE
    obtain⟨b,ys,rfl,q2,r2⟩:=hy.tupE
    refine .inl (.inl (.inr ⟨a,b,xs,ys,rfl,rfl,q1,q2,by rw[r1.length,r2.length,Db];exact hz,λz=> ?_,λz1 z2=> ?_,λz1 z2 p hp=> ?_⟩))
    ·subst z
     have:ds=[]:=Fl.mp r1.length.symm
     subst this
     exact k _ _ (a8.refl _) λM hM=> .tup q2 r2
    ·subst z2
     have:es=[]:=Fl.mp r2.length.symm
     subst this
     rw[Dn] at k
     exact k _ _ (a8.refl _) λM hM=> .tup q1 r1
    ·exact k _ _ (cZ hp) λM hM => .tup (WC.of cH) ((r1.append r2).same (cZ hp))
   ·cases h
  | _ => cases h
 |lst ds=>
  cases e with
  |lst es=>
   simp only[ZV] at h
   split at h
   ·rename_i hz
    cases h
    obtain⟨a,xs,rfl,q1,r1⟩:=hx.lstE
    obtain⟨b,ys,rfl,q2,r2⟩:=hy.lstE
    exact .inl (.inr ⟨a,b,xs,ys,rfl,rfl,q1,q2,by rw[r1.length,r2.length,Db];exact hz,λp hp=>k _ _ (cZ hp) λM hM=> .lst cH (λz=>by
     obtain⟨o,q⟩:=hM _ z
     rw[hp] at q
     cases q) ((r1.append r2).same (cZ hp))⟩)
   ·cases h
  |_=>cases h
 |_=>cases h
def zA1:An->R2:=λ_=>rI B0 λi j=> .int (i*j)
theorem N7(h:X.K=K):WT X (Fs .Mult) (zA1 K):=zG9
abbrev QS:=oMul
theorem Q7:OpC K (zA1 K) QS:=by
 intro H N M M' x y d e c Q hx hy h k
 exact zJ5 H N N M M' x y d e c Q hx hy h λv hv=>k v H (a8.refl _) λM _=>hv _ _ _
noncomputable def WJ:dE->Option aR
 | .int i=>some (.inl i)
 | .str x=>some (.inr x)
 |_=>none
theorem bG.key{N M:Addr->Prop}{k:aR}(h:bG K N H M v d)(e:WJ d=some k):v=kV k:=by
 cases h<;>first
  |(cases e;rfl)
  |cases e
noncomputable def bO(ks:List aR)(ds:List dE)(k:aR):Option dE:=match ks,ds with
 |k'::ks,d::ds=>if k'=k then some d else bO ks ds k
 |_,_=>none
theorem RF{N:Addr->Prop}{k:aR}: ∀{kvs:List (aR×V)} {ds:List dE},cO K N H (kvs.map Eg) ds→
  (∃v d,TF kvs k=some v/\bO (kvs.map Dj) ds k=some d/\bG K N H N v d)∨(TF kvs k=none/\bO (kvs.map Dj) ds k=none)
 | [],_,.nil => .inr ⟨rfl,rfl⟩
 | (k',v) :: kvs,_,.cons h t => by
  by_cases hk:k'=k
  ·refine .inl ⟨v,_,RQ (p:=(k',v)) hk,?_,h⟩
   simp[bO,hk]
  ·rcases RF (k:=k) t with⟨v',d',h1,h2,h3⟩|⟨h1,h2⟩
   ·exact .inl ⟨v',d',(UZ (p:=(k',v)) hk).trans h1,by simpa[bO,hk] using h2,h3⟩
   ·exact .inr ⟨(UZ (p:=(k',v)) hk).trans h1,by simpa[bO,hk] using h2⟩
theorem zKB(hu:X.A.units+1<cLine):B5 X (λx y H Q=> ∃a v,x= .ref a/\P6 H a y (some v)/\Q v H):=by
 intro value slice aa s σ H x y v u Q I rx ry h hs
 obtain⟨a,w,rfl,g,q⟩:=h
 cases rx
 exact Qi (HX I g) PySem.F.slot_dict_getitem.lookup (CO hu I g ry λw' s3 I3 rw'=>⟨w,H,I3,rw',q⟩) hs
def rIxA(K:An):R2:=λx y H Q=>(rIx K x y H Q∨ ∃a v,x= .ref a/\P6 H a y (some v)/\Q v H)∨ ∃a k D v,x= .ref a/\y= .str k/\KTab K a D/\Fg k D=some v/\Q v H
theorem kIxA(h:X.K=K)(hu:X.A.units+1<cLine):B5 X (rIxA K):=by subst h;exact(zI1.or (zKB hu)).or zD6
noncomputable def cJ:dE->dE->Option dE
 | .tup ds,.int i=>WQ ds i
 | .lst ds,.int i=>WQ ds i
 | .dct ks ds,e=>(WJ e).bind (bO ks ds)
 | .str z,.int i=>if z.length<=16777216 then(WQ z.cps.toList i).map λc=> .str ⟨#[c]⟩ else none
 |_,_=>none
theorem QH{N:Addr->Prop}{k:Str}: ∀{D:List (Str×V)} {ds:List dE},cO K N H (D.map Eg) ds→
  (∃ v d,Fg k D = some v /\ bO (D.map λp => .inr p.1) ds (.inr k) = some d /\ bG K N H N v d) ∨ (Fg k D = none /\ bO (D.map λp => .inr p.1) ds (.inr k) = none)
 | [],_,.nil => .inr ⟨rfl,rfl⟩
 | (k',v) :: D,_,.cons h t => by
  by_cases hk:k'=k
  ·subst hk
   exact .inl ⟨v,_,by simp[Fg],by simp[bO],h⟩
  ·have hk2 : ¬ k = k' := λz => hk z.symm
   rcases QH (k:=k) t with⟨v',d',h1,h2,h3⟩|⟨h1,h2⟩
   ·exact .inl ⟨v',d',by simpa[Fg,hk,hk2] using h1,by simpa[bO,hk] using h2,h3⟩
   ·exact .inr ⟨by simpa[Fg,hk,hk2] using h1,by simpa[bO,hk] using h2⟩
theorem IJ{i:Int}: ∀{D:List (Str×V)} {ds:List dE},bO (D.map λp=> .inr p.1) ds (.inl i)=none
 |[],_=>by simp[bO]
 |_::_,[]=>by simp[bO]
 |p::D,d::ds=>by simpa[bO] using IJ (D:=D) (ds:=ds)
theorem zKE:OpI K (rIxA K) cJ:=by
 intro H N N' M M' x y d e c Q hx hy h k
 have seq : ∀ ds i,YV d = some ds -> e = .int i -> WQ ds i = some c -> rIxA K x y H Q := λds i h1 h2 h3 => by
  subst h2
  cases hy
  obtain⟨a,xs,rfl,sq,r⟩:=hx.seq h1
  obtain⟨v,hv,rv⟩:=zDI r h3
  rcases sq with sq|sq
  ·exact .inl (.inl (.inl ⟨a,xs,i,v,rfl,rfl,sq,hv,k v rv⟩))
  ·exact .inl (.inl (.inr (.inl ⟨a,xs,i,v,rfl,rfl,sq,hv,k v rv⟩)))
 cases d with
 |tup ds=>
  cases e with
  | int i => exact seq ds i rfl rfl h
  | _ => cases h
 |lst ds=>
  cases e with
  | int i => exact seq ds i rfl rfl h
  | _ => cases h
 |str z=>
  cases e with
  |int i=>
   simp only[cJ] at h
   split at h
   ·cases hc:WQ z.cps.toList i with
    | none => rw [hc] at h;cases h
    |some ch=>
     rw[hc] at h
     cases h
     cases hx
     cases hy
     exact .inl (.inl (.inr (.inr ⟨z,i,ch,rfl,rfl,by rw[Db];assumption,hc,k _ (.str _)⟩)))
   ·cases h
  | _ => cases h
 |dct ks ds=>
  simp only[cJ] at h
  cases hk:WJ e with
  | none => rw [hk] at h;cases h
  |some kk=>
   rw[hk] at h
   have h:bO ks ds kk=some c:=h
   have ey:=hy.key hk
   subst ey
   cases hx with
   |dct q n r=>
    rcases RF (k:=kk) r with⟨v,d',h1,h2,h3⟩|⟨h1,h2⟩
    ·rw[h] at h2
     cases h2
     exact .inl (.inr ⟨_,v,rfl,h1▸P6.k q,k v h3⟩)
    ·rw[h] at h2;cases h2
   |ktb T r=>
    cases kk with
    | inl i => rw [IJ] at h;cases h
    |inr x=>
     rcases QH (k:=x) r with⟨v,d',h1,h2,h3⟩|⟨h1,h2⟩
     ·rw[h] at h2
      cases h2
      exact .inr ⟨_,x,_,v,rfl,rfl,T,h1,k v h3⟩
     ·rw[h] at h2;cases h2
 |_=>cases h
noncomputable def XO(δ:Ev)(i:Nat):Option (List aR×List dE):=match δ[i]? with
 |some (.ow (.dct ks ds))=>some (ks,ds)
 |_=>none
theorem T7{i:Nat}{ks:List aR}{ds:List dE}(h:XO δ i=some (ks,ds)):δ[i]? =some (.ow (.dct ks ds)):=by
 unfold XO at h
 split at h
 ·cases h;assumption
 ·cases h
noncomputable def KR(i:Nat)(fk fx:VF):VF:=λδ=>(XO δ i).bind λ_=>(fk δ).bind λp=>(fx p.2).bind λq=>(WJ p.1).bind λk=>(XO q.2 i).map λz=>((bO z.1 z.2 k).getD q.1,q.2)
theorem BF{i:Nat}{fk fx:VF}{aq af:Pos}(hu:X.A.units+1<cLine)(ho:PE X a (PN i))(hk:PE X b (TV K ml pa ta ia fk))(hx:PE X c (TV K ml pb true true fx))(m:M2 X a "get" aq b c af):
  PE X (.Call (.Attribute a "get" aq) [b,c] [] af) (TV K ml (pa && pb) true true (KR i fk fx)) := (zAH hu ho hk hx m).imp λσ H Q ⟨B,O,δ,d,δ3,S,q,k⟩ => by
 unfold KR at q
 cases h0:XO δ i with
 | none => rw [h0] at q;cases q
 |some z0=>
  obtain⟨ks0,ds0⟩:=z0
  rw[h0] at q
  cases h1:fk δ with
  | none => simp [h1] at q
  |some p1=>
   obtain⟨y,δ1⟩:=p1
   simp only[Ak,h1] at q
   cases h2:fx δ1 with
   | none => simp [h2] at q
   |some p2=>
    obtain⟨z,δ2⟩:=p2
    simp only[Ak,h2] at q
    cases h3:WJ y with
    | none => simp [h3] at q
    |some kk=>
     simp only[Ak,h3] at q
     cases h4:XO δ2 i with
     | none => simp [h4] at q
     |some zz=>
      obtain⟨ks,ds⟩:=zz
      simp only[h4] at q
      cases q
      obtain⟨l,e1,e2,w⟩:=S.ow i _ (T7 h0)
      refine⟨.ref l,e2,l,rfl,?_,B,O,δ,y,δ1,S,h1,λv1 H1 R1=>⟨B,O,δ1,z,_,R1.sta,h2,λv2 H2 R2=> ?_⟩⟩
      ·generalize hw:dE.dct ks0 ds0=dd at w
       cases w with
       |lst _ _=>cases hw
       |dct q _=>exact .inl ⟨_,.inl q⟩
      ·have ey:=R1.rep.key h3
       subst ey
       obtain⟨l',e3,_,w2⟩:=R2.sta.ow i _ (T7 h4)
       rw[e1] at e3
       cases e3
       have fin: ∀o,bG K (Nn B O) H2 (Nn B O) (o:V) ((bO ks ds kk).getD z)->Q o H2:=λo ho=>k o H2 ⟨R2.sta,R1.frm.trans R2.frm,λz=>by
        obtain⟨z1,z2⟩:=(Af _ _).mp z
        exact(R1.pur z1).trans (R2.pur z2),ho⟩
       generalize hw:dE.dct ks ds=dd at w2
       cases w2 with
       |lst _ _=>cases hw
       |dct q r=>
        cases hw
        refine⟨_,P6.k q,fin _ ?_⟩
        rcases RF (k:=kk) r with⟨v,d',g1,g2,g3⟩|⟨g1,g2⟩
        ·rw[g1,g2];exact g3
        ·rw[g1,g2];exact R2.rep
noncomputable def YF:List aR->List dE->aR->dE->List aR×List dE
 |k'::ks,d::ds,k,v=>if k'=k then(k'::ks,v::ds) else let r:=YF ks ds k v;(k'::r.1,d::r.2)
 |_,_,k,v=>([k],[v])
noncomputable def JK(i:Nat)(fk fv:VF):VS:=λδ=>(fv δ).bind λp=>(XO p.2 i).bind λ_=>(fk p.2).bind λq=>(WJ q.1).bind λk=>(XO q.2 i).bind λz=>if z.1.length<16777216/\z.1.Nodup then some (.nx (q.2.set i (.ow (let r:=YF z.1 z.2 k p.1;.dct r.1 r.2)))) else none
theorem MO{N:Addr->Prop}{k:aR}{v:V}(h:bG K N H N v d): ∀{kvs:List (aR×V)} {ds:List dE},(kvs.map Dj).Nodup->cO K N H (kvs.map Eg) ds→
  (XQ kvs k v).map Dj=(YF (kvs.map Dj) ds k d).1/\cO K N H ((XQ kvs k v).map Eg) (YF (kvs.map Dj) ds k d).2
 | [],_,_,.nil => ⟨rfl,.cons h .nil⟩
 | (k',u) :: kvs,_,nd,.cons hu t => by
  obtain⟨n1,n2⟩:=Ct.mp nd
  by_cases hk:k'=k
  ·subst hk
   have e:XQ ((k',u)::kvs) k' v=(k',v)::kvs:=by
    unfold XQ
    rw[if_pos (by simp)]
    simp only[Az,if_true]
    congr 1
    refine(Go λp hp=> ?_).trans (List.map_id _)
    have:p.1≠k':=λz=>n1 (Bx.mpr ⟨p,hp,z⟩)
    simp[this]
   rw[e]
   exact⟨by simp[YF],by simpa[YF] using cO.cons h t⟩
  ·obtain⟨h1,h2⟩:=MO (k:=k) h n2 t
   have e:XQ ((k',u)::kvs) k v=(k',u)::XQ kvs k v:=by
    unfold XQ
    simp only[Hb,hk,decide_false,Qj]
    split
    ·simp[hk]
    ·rfl
   rw[e]
   exact⟨by simpa[YF,hk] using h1,by simpa[YF,hk] using cO.cons hu h2⟩
theorem LF{N:Addr->Prop}{l:Addr}{o:HO}{xs:List V}{ds:List dE}{kvs:List (aR×V)}(ho:H l=some (.dK kvs))(hN:N l)(h:cO K N H xs ds):cO K N (bA H l o) xs ds:=
 h.fr (P:=λb=>b=l) (λb u q n=>by
  by_cases hb:b=l
  ·subst hb
   rw[ho] at q
   cases q
   exact absurd (n rfl) λz=>z
  ·rw[bQ hb]
   exact q) λa z=>z▸hN
theorem FP{i:Nat}{fk fv:VF}{bh:Pos}(hu:X.A.units+1<cLine)(ho:PE X a (PN i))(hk:PE X b (TV K ml pa ta ia fk))(hv:PE X c (TV K ml pb true true fv))(hs:Fu c (some (.Subscript a b bh)) pos.line X.env=pure false):
  PS X (.Assign [.Subscript a b bh] c pos) (TM K ml (JK i fk fv)) := (zCJ hu ho hk hv hs).imp λD σ H ⟨B,O,δ,o,S,q,k⟩ => by
 unfold JK at q
 cases h1:fv δ with
 | none => rw [h1] at q;cases q
 |some p1=>
  obtain⟨z,δ1⟩:=p1
  rw[h1] at q
  have q : ((XO δ1 i).bind λ_ => (fk δ1).bind λq => (WJ q.1).bind λk => (XO q.2 i).bind λz_1 => if z_1.1.length < 16777216 /\ z_1.1.Nodup then some (Ou.nx (q.2.set i (.ow (let r := YF z_1.1 z_1.2 k z;.dct r.1 r.2)))) else none) = some o := q
  cases h0:XO δ1 i with
  | none => rw [h0] at q;cases q
  |some z0=>
  obtain⟨ks0,ds0⟩:=z0
  rw[h0] at q
  cases h2:fk δ1 with
  | none => simp [h2] at q
  |some p2=>
   obtain⟨y,δ2⟩:=p2
   simp only[Ak,h2] at q
   cases h3:WJ y with
   | none => simp [h3] at q
   |some kk=>
    simp only[Ak,h3] at q
    cases h4:XO δ2 i with
    | none => simp [h4] at q
    |some zz=>
     obtain⟨ks,ds⟩:=zz
     simp only[h4,Ak] at q
     split at q
     ·rename_i hz
      cases q
      refine⟨B,O,δ,z,δ1,S,h1,λv1 H1 R1=> ?_⟩
      obtain⟨l,e1,e2,_⟩:=R1.sta.ow i _ (T7 h0)
      refine⟨.ref l,e2,B,O,δ1,y,δ2,R1.sta,h2,λv2 H2 R2=> ?_⟩
      have ey:=R2.rep.key h3
      subst ey
      obtain⟨l',e3,_,w2⟩:=R2.sta.ow i _ (T7 h4)
      rw[e1] at e3
      cases e3
      generalize hw:dE.dct ks ds=dd at w2
      cases w2 with
      |lst _ _=>cases hw
      |dct qd r=>
       cases hw
       have rv:=R1.rep.fr R2.frm (λa z=> .inr z) λa z=> .inr z
       obtain⟨g1,g2⟩:=MO (k:=kk) rv hz.2 r
       refine⟨l,_,rfl,DPut.k qd (by rw[Db];simpa using hz.1),k σ _ O (R2.sta.wrote e1 (λz=>z) ?_)⟩
       have w:QC K (Nn B O) (bA H2 l (.dK (XQ _ kk v1))) l (.dct ((XQ _ kk v1).map Dj) _):= .dct cH (LF qd (.inr ⟨i,e1⟩) g2)
       rw[g1] at w
       exact w
     ·cases q
end
section
variable{X:Cx}{K:An}{ml:List Nat}{e a b c:Expr}{es:List Expr}{pa ta ia pb tb ib pc tc ic pu bt bi ps bs:Bool}{fa fb fc f:VF}{B B':Bs}{O:Nat->Option Addr}{H H0 H1 H':Hp}{σ:St}{δ δ':Ev}{v:V}{d:dE}{p:Addr}{pos:Pos}
def zIP(i j k:Nat)(ta:TA):TS:=λD σ H=>ta σ H λvs H1=> ∃v w u,vs=[v,w,u]/\D.nx (((σ.set i (some v)).set j (some w)).set k (some u)) H1
theorem zCI{i j k:Nat}{x y z:Str}{a b c:Expr}{ta:TA}{px py pz pt:Pos}{kt k2 pt2}(hc:X.calm=true)(hN:X.N.Nodup)(hi:X.N[i]? =some x)(hj:X.N[j]? =some y)(hk:X.N[k]? =some z)(hij:i≠j)(hik:i≠k)(hjk:j≠k)
  (hx:X.env.scope.names.lookup x=some .local) (hy:X.env.scope.names.lookup y=some .local) (hz:X.env.scope.names.lookup z=some .local) (ha:PA X [a,b,c] ta)
  (hw:Fb [.Tuple [.Name x px,.Name y py,.Name z pz] kt pt] (.Tuple [a,b,c] k2 pt2) X.env=pure (some [x,y,z]))
  (hs : Fa [.Tuple [.Name x px,.Name y py,.Name z pz] kt pt] (.Tuple [a,b,c] k2 pt2) pos.line X.env = pure false := by rfl) :
  PS X (.Assign [.Tuple [.Name x px,.Name y py,.Name z pz] kt pt] (.Tuple [a,b,c] k2 pt2) pos) (zIP i j k ta):=by
 intro aa s σ H D I h
 rw[exec_Assign_arm]
 refine Aa (Dq ?_)
 rw[hs]
 refine Aa (Ai ?_)
 rw [if_neg (by decide)]
 refine Aa (Tuple_ (ZG (ha _ aa s σ H _ I h) λus s1 ⟨vs,H1,I1,r1,q1⟩=> ?_))
 obtain⟨v,w,u,e1,q1⟩:=q1
 subst e1
 obtain⟨u1,u2,u3,rfl,rv,rw',ru⟩: ∃u1 u2 u3,us=[u1,u2,u3]/\bZ v u1/\bZ w u2/\bZ u u3:=by
  cases r1 with
  |cons p q=>
   cases q with
   |cons p' q'=>
    cases q' with
    |cons p'' q''=>
     cases q''
     exact⟨_,_,_,rfl,p,p',p''⟩
 refine Cu ?_ (by show 3<=sizeLine;decide)
 have I2:cN X aa σ H1 {s1 with heap:=s1.heap.push {cls:= .type "tuple",data:= .seq [u1,u2,u3].toArray}}:=I1.kept (t':=s1.toks) λb o e=>Ac _ e
 rw[hw]
 refine Aa (Ai ?_)
 show wpAny (model X.prog X.w) X.A (do rule "assign.swapped-stores";let items<- Im (.ref s1.heap.objs.size) 3 none;assignInOrder [λv=>Ib X.env z v,λv=>Ib X.env y v,λv=>Ib X.env x v] items.reverse;pure Flow.next) _ _ _
 refine Aa (Gc (Aa (My (items:= #[u1,u2,u3]) (I.ok.hd hc) (Ju s1.heap _) λh' hx'=> ?_)))
 have I3:=I2.kept (h':=h') (t':=s1.toks) λb o e=>hx' b o (Bf (Am e)) e
 show wpAny _ _ (assignInOrder [λv=>Ib X.env z v,λv=>Ib X.env y v,λv=>Ib X.env x v] [u3,u2,u1]>>=λ_=>pure Flow.next) _ _ _
 refine Aa (Dx (Hs (YG I3 hN hk (.inl hz) ru (λs2 I4=> ?_) (.inr hz))))
 refine Dx (Hs (YG I4 hN hj (.inl hy) rw' (λs3 I5=> ?_) (.inr hy)))
 refine Dx (Hs (YG I5 hN hi (.inl hx) rv (λs4 I6=>Hl (Ai ?_)) (.inr hx)))
 rw[Ef _ _ (Dk hij),Ef _ _ (Dk hik),Ef _ _ (Dk hjk)] at I6
 exact⟨_,H1,I6,q1⟩
noncomputable def OK(i j k:Nat)(x y z:VX):VS:=λδ=>(x δ).bind λp=>(y p.2).bind λq=>(z q.2).bind λr=>if i<r.2.length/\j<r.2.length/\k<r.2.length then some (.nx (((r.2.set k r.1).set j q.1).set i p.1)) else none
theorem MS{i j k:Nat}{x y z:VX}{o:Ou}(h:OK i j k x y z δ=some o): ∃s1 δ1 s2 δ2 s3 δ3,x δ=some (s1,δ1)/\y δ1=some (s2,δ2)/\z δ2=some (s3,δ3)/\(i<δ3.length/\j<δ3.length/\k<δ3.length)/\o= .nx (((δ3.set k s3).set j s2).set i s1):=by
 unfold OK at h
 cases h1:x δ with
 | none => rw [h1] at h;cases h
 |some p=>
  rw[h1] at h
  cases h2:y p.2 with
  | none => simp [h2] at h
  |some q=>
   simp only[Ak,h2] at h
   cases h3:z q.2 with
   | none => simp [h3] at h
   |some r=>
    simp only[Ak,h3] at h
    split at h
    ·cases h
     exact⟨p.1,p.2,q.1,q.2,r.1,r.2,rfl,h2,h3,by assumption,rfl⟩
    ·cases h
theorem zBZ{i j k:Nat}{x y z:Str}{fx fy fz:VX}{px py pz pt:Pos}{kt k2 pt2}(hc:X.calm=true)(hN:X.N.Nodup)(hi:X.N[i]? =some x)(hj:X.N[j]? =some y)(hk:X.N[k]? =some z)(hij:i≠j)(hik:i≠k)(hjk:j≠k)
  (hx:X.env.scope.names.lookup x=some .local) (hy:X.env.scope.names.lookup y=some .local) (hz:X.env.scope.names.lookup z=some .local) (ha:PE X a (TX K ml fx)) (hb:PE X b (TX K ml fy)) (hcc:PE X c (TX K ml fz))
  (hw:Fb [.Tuple [.Name x px,.Name y py,.Name z pz] kt pt] (.Tuple [a,b,c] k2 pt2) X.env=pure (some [x,y,z])) (hmi:i∉ml:=by decide) (hmj:j∉ml:=by decide) (hmk:k∉ml:=by decide)
  (hs:Fa [.Tuple [.Name x px,.Name y py,.Name z pz] kt pt] (.Tuple [a,b,c] k2 pt2) pos.line X.env=pure false:=by rfl)
  (he:Ah (a::[b,c]) X.env=(false,eval a X.env)::Ah [b,c] X.env:=by rfl) (he2:Ah (b::[c]) X.env=(false,eval b X.env)::Ah [c] X.env:=by rfl) (he3:Ah (c::[]) X.env=(false,eval c X.env)::Ah [] X.env:=by rfl):
  PS X (.Assign [.Tuple [.Name x px,.Name y py,.Name z pz] kt pt] (.Tuple [a,b,c] k2 pt2) pos) (TM K ml (OK i j k fx fy fz)):=(zCI hc hN hi hj hk hij hik hjk hx hy hz (bW ha (bW hb (bW hcc ZR he3) he2) he) hw hs).imp λD σ H ⟨B,O,δ,o,S,q,k⟩=>by
 obtain⟨s1,δ1,s2,δ2,s3,δ3,h1,h2,h3,hl,rfl⟩:=MS q
 refine⟨B,O,δ,s1,δ1,S,h1,λv H1 B1 S1 w1 f1=>⟨B1,O,δ1,s2,δ2,S1,h2,λv2 H2 B2 S2 w2 f2=>⟨B2,O,δ2,s3,δ3,S2,h3,λv3 H3 B3 S3 w3 f3=>⟨v,v2,v3,rfl,?_⟩⟩⟩⟩
 obtain⟨O4,S4⟩:=w3.bind S3 hmk hl.2.2
 obtain⟨O5,S5⟩:=(w2.fr f3).bind S4 hmj (by rw[Cj];exact hl.2.1)
 obtain⟨O6,S6⟩:=((w1.fr f2).fr f3).bind S5 hmi (by rw[Cj,Cj];exact hl.1)
 rw[Ef _ _ (Dk hij),Ef _ _ (Dk hik),Ef _ _ (Dk hjk)] at S6
 exact k _ _ _ S6
theorem zBX{i j k:Nat}{x y z:Str}{fx fy fz:VX}{px py pz pt:Pos}{kt k2 pt2}(hK:X.K=K)(hc:X.calm=true)(hN:X.N.Nodup)(hi:X.N[i]? =some x)(hj:X.N[j]? =some y)(hk:X.N[k]? =some z)(hij:i≠j)(hik:i≠k)(hjk:j≠k)
  (hx:B6 X.env.scope x) (hy:B6 X.env.scope y) (hz:B6 X.env.scope z) (ha:PE X a (TX K ml fx)) (hb:PE X b (TX K ml fy)) (hcc:PE X c (TX K ml fz))
  (hmi:i∉ml:=by decide) (hmj:j∉ml:=by decide) (hmk:k∉ml:=by decide)
  (hs:Fa [.Tuple [.Name x px,.Name y py,.Name z pz] kt pt] (.Tuple [a,b,c] k2 pt2) pos.line X.env=pure false:=by rfl)
  (hw:Fb [.Tuple [.Name x px,.Name y py,.Name z pz] kt pt] (.Tuple [a,b,c] k2 pt2) X.env=pure none:=by rfl)
  (hn:(assignEach [.Name x px,.Name y py,.Name z pz] X.env).length=3:=by rfl) (hst:(assignEach [.Name x px,.Name y py,.Name z pz] X.env).findIdx? (·.1)=none:=by rfl)
  (g1:(assignEach [.Name x px,.Name y py,.Name z pz] X.env).map (·.2)=assign (.Name x px) X.env::(assignEach [.Name y py,.Name z pz] X.env).map (·.2):=by rfl)
  (g2:(assignEach [.Name y py,.Name z pz] X.env).map (·.2)=assign (.Name y py) X.env::(assignEach [.Name z pz] X.env).map (·.2):=by rfl)
  (g3:(assignEach [.Name z pz] X.env).map (·.2)=assign (.Name z pz) X.env::(assignEach [] X.env).map (·.2):=by rfl)
  (fx':X.fn x=true∨X.env.scope.names.lookup x=some .local:=by first|exact .inl rfl|exact .inr rfl|assumption) (fy':X.fn y=true∨X.env.scope.names.lookup y=some .local:=by first|exact .inl rfl|exact .inr rfl|assumption) (fz':X.fn z=true∨X.env.scope.names.lookup z=some .local:=by first|exact .inl rfl|exact .inr rfl|assumption)
  (h1:(assignEach [.Tuple [.Name x px,.Name y py,.Name z pz] kt pt] X.env).map (·.2)=[assign (.Tuple [.Name x px,.Name y py,.Name z pz] kt pt) X.env]:=by rfl)
  (he:Ah (a::[b,c]) X.env=(false,eval a X.env)::Ah [b,c] X.env:=by rfl) (he2:Ah (b::[c]) X.env=(false,eval b X.env)::Ah [c] X.env:=by rfl) (he3:Ah (c::[]) X.env=(false,eval c X.env)::Ah [] X.env:=by rfl):
  PS X (.Assign [.Tuple [.Name x px,.Name y py,.Name z pz] kt pt] (.Tuple [a,b,c] k2 pt2) pos) (TM K ml (OK i j k fx fy fz)):=
 (LC (zAC (bW ha (bW hb (bW hcc ZR he3) he2) he)) (zE3 (K := K) hK hc (RK (O9 hN hi hx fx') (RK (O9 hN hj hy fy') (RK (O9 hN hk hz fz') EW g3) g2) g1) hn hst) hs hw h1).imp λD σ H q0 => by
  obtain⟨B,O,δ,o,S,q,k⟩:=q0
  obtain⟨s1,δ1,s2,δ2,s3,δ3,h1,h2,h3,hl,rfl⟩:=MS q
  refine⟨B,O,δ,s1,δ1,S,h1,λv H1 B1 S1 w1 f1=>⟨B1,O,δ1,s2,δ2,S1,h2,λv2 H2 B2 S2 w2 f2=>⟨B2,O,δ2,s3,δ3,S2,h3,λv3 H3 B3 S3 w3 f3=>⟨(by show 3<=sizeLine;decide),λp hp=>⟨p,_,rfl,WC.of cH,rfl,v,_,rfl,v2,_,rfl,v3,_,rfl,rfl,?_⟩⟩⟩⟩⟩
  have f4:Fr (OA O) H3 (bA H3 p (.tup [v,v2,v3])):=(cZ hp).fr
  obtain⟨O4,S4⟩:=(w3.fr f4).bind (S3.same (cZ hp)) hmk hl.2.2
  obtain⟨O5,S5⟩:=((w2.fr f3).fr f4).bind S4 hmj (by rw[Cj];exact hl.2.1)
  obtain⟨O6,S6⟩:=(((w1.fr f2).fr f3).fr f4).bind S5 hmi (by rw[Cj,Cj];exact hl.1)
  rw[Ef _ _ (Dk hij),Ef _ _ (Dk hik),Ef _ _ (Dk hjk)] at S6
  exact k _ _ _ S6
noncomputable def FI(i:Nat)(fi fv:VF):VS:=λδ=>(fv δ).bind λp=>(XE p.2 i).bind λ_=>(fi p.2).bind λq=>(XE q.2 i).bind λds=>match q.1 with
 | .int k=>(ME ds.length k).map λj=> .nx (q.2.set i (.ow (.lst (ds.set j p.1))))
 |_=>none
theorem zEG{i:Nat}{fi fv:VF}{bh:Pos}(hK:X.K=K)(ho:PE X a (PN i))(hi:PE X b (TV K ml pa ta ia fi))(hv:PE X c (TV K ml pb true true fv))
  (ha: ∀v,assign (.Subscript a b bh) X.env v=(do
   let ov<- Kz [v] (eval a X.env)
   let iv<- Kz [v,ov] (eval b X.env)
   Ky bh
   Kz [v,ov,iv] (setItem ov iv v)
   release [v,ov,iv] []):=by intro _;rfl)
  (hs : Fa [.Subscript a b bh] c pos.line X.env = pure false := by rfl) (hw : Fb [.Subscript a b bh] c X.env = pure none := by rfl)
  (h1 : (assignEach [.Subscript a b bh] X.env).map (·.2) = [assign (.Subscript a b bh) X.env] := by rfl) : PS X (.Assign [.Subscript a b bh] c pos) (TM K ml (FI i fi fv)) :=
 (LC hv (zFY ho hi AR ha) hs hw h1).imp λD σ H q0 => by
  obtain⟨B,O,δ,o,S,q,k⟩:=q0
  unfold FI at q
  cases h1:fv δ with
  | none => rw [h1] at q;cases q
  |some p1=>
   obtain⟨z,δ1⟩:=p1
   rw[h1] at q
   cases h0:XE δ1 i with
   | none => simp [h0] at q
   |some ds0=>
    simp only[Ak,h0] at q
    cases h2:fi δ1 with
    | none => simp [h2] at q
    |some p2=>
     obtain⟨y,δ2⟩:=p2
     simp only[Ak,h2] at q
     cases h4:XE δ2 i with
     | none => simp [h4] at q
     |some ds=>
      simp only[h4,Ak] at q
      cases y with
      |int kk=>
       have q:((ME ds.length kk).map λj=>Ou.nx (δ2.set i (.ow (.lst (ds.set j z)))))=some o:=q
       cases h5:ME ds.length kk with
       | none => rw [h5] at q;cases q
       |some j=>
        rw[h5] at q
        cases q
        refine⟨B,O,δ,z,δ1,S,h1,λv1 H1 R1=> ?_⟩
        obtain⟨l,e1,e2,_⟩:=R1.sta.ow i _ (T8 h0)
        refine⟨.ref l,e2,B,O,δ1,_,δ2,R1.sta,h2,λv2 H2 R2=> ?_⟩
        have ey:v2= .int kk:=by
         have r:=R2.rep
         cases r
         rfl
        subst ey
        obtain⟨l',e3,_,w2⟩:=R2.sta.ow i _ (T8 h4)
        rw[e1] at e3
        cases e3
        cases w2 with
        |lst hl r=>
         have rv:=R1.rep.fr R2.frm (λa z=> .inr z) λa z=> .inr z
         refine⟨l,_,kk,j,rfl,rfl,hl,by rw[r.length];exact h5,k σ _ O (R2.sta.wrote e1 (λz=>z) (.lst cH (P4 (ys:=[]) hl (.inr ⟨i,e1⟩) (r.set rv j))))⟩
      |_=>cases q
end
section
variable{prog:Bn}{w:World}{A:Cy}{E:Value->Ag->Prop}{s:Ag}
theorem SW{it t:Addr}{i:Nat}{items:Array Value}{x:Value}{Q:Value->Ag->Prop}(hit:s.heap.IsTupleIter it t i)(ht:s.heap.IsTuple t items)(hx:items[i]? =some x)
  (hQ: ∀h',h'.IsTupleIter it t (i+1)->Ey it s.heap h'->Q x {s with heap:=h'}):wpAny (model prog w) A (Cc (.ref it)) Q E s:=by
 obtain⟨oi,g1,c1,d1⟩:=id hit
 obtain⟨ot,g2,_,nt,d2⟩:=ht
 unfold Cc
 refine Aa (Di (name:=Bh "__next__") hit.typeIs Ew (Ec Ew hit.typeIs Iy ?_ (Ic _)))
 show wpAny _ _ (field (Bq it) 0>>=_) _ _ s
 refine Aa (Dz g1 d1 (x:= .ref t) rfl ?_)
 show wpAny _ _ (if(Bq t== .none)=true then _ else _) _ _ s
 rw[if_neg (show¬(Bq t==Value.none)=true from Dd)]
 show wpAny _ _ (field (Bq it) 1>>=_) _ _ s
 refine Aa (Dz g1 d1 (x:= .int i 0) rfl ?_)
 show wpAny _ _ (seqItems? (Bq t)>>=_) _ _ s
 refine Aa (Ep g2 d2 ?_)
 simp only[hx,Ge]
 refine Aa (wpAny_setField g1 d1 (by simp) (Ai ⟨x,rfl,Ai (hQ _ ⟨_,Le _ g1 (Obj.isFreed_of_fields (Mo d1 _)),(Obj.cls_mapFields ..).trans c1,?_⟩ (Me ..))⟩))
 rw[Mo d1]
 simp[rawInt]
theorem RG{it t:Addr}{i:Nat}{items:Array Value}{Q:Value->Ag->Prop}(hh:A.handled=none)(hit:s.heap.IsTupleIter it t i)(ht:s.heap.IsTuple t items)(hx:items[i]? =none)
  (hE: ∀h' e,Ix it s.heap h'->(∃o,h'.get? e=some o/\o.cls= .type "StopIteration")->E (.ref e) {s with heap:=h'}):wpAny (model prog w) A (Cc (.ref it)) Q E s:=by
 obtain⟨oi,g1,c1,d1⟩:=id hit
 obtain⟨ot,g2,_,nt,d2⟩:=ht
 unfold Cc
 refine Aa (Di (name:=Bh "__next__") hit.typeIs Ew (Ec Ew hit.typeIs Iy ?_ (Ic _)))
 show wpAny _ _ (field (Bq it) 0>>=_) _ _ s
 refine Aa (Dz g1 d1 (x:= .ref t) rfl ?_)
 show wpAny _ _ (if(Bq t== .none)=true then _ else _) _ _ s
 rw[if_neg (show¬(Bq t==Value.none)=true from Dd)]
 show wpAny _ _ (field (Bq it) 1>>=_) _ _ s
 refine Aa (Dz g1 d1 (x:= .int i 0) rfl ?_)
 show wpAny _ _ (seqItems? (Bq t)>>=_) _ _ s
 refine Aa (Ep g2 d2 ?_)
 simp only[hx,Ge]
 refine Aa (Gc (Aa (wpAny_setField g1 d1 (by simp) ?_)))
 show wpAny _ _ (newExc (Jt "StopIteration") []>>=_) _ _ _
 refine Aa ?_
 unfold newExc newTuple
 refine Aa (Cu ?_ (by size_fits))
 refine Aa (m:=firstArgMember _ _) (wpAny_of_eq (a:=Value.none) (by first|rfl|(unfold firstArgMember;rfl)) (Cu ?_ (by size_fits)))
 unfold raiseNew
 refine Aa (wpAny_handled ?_)
 first|rw[hh]|rw[show A.in1.handled=none from hh]
 refine Aa (Ai (wpAny_throw (hE _ _ (((Me ..).extBut.push _).push _) ⟨_,Au _ rfl,rfl⟩)))
end
theorem CS{prog:Bn}{w:World}{A:Cy}(hh:A.handled=none)(it t:Addr)(hne:t≠it)(items:Array Value):
  Draws prog w A it [it,t] items.size (λi v=>items[i]? =some v) (λi h=>h.IsTupleIter it t i/\h.IsTuple t items) where
 live:=λ_ _ st=>let ⟨o,ho,_⟩:=st.1;⟨o,ho⟩
 frame:=λ_ _ _ st hk=>⟨st.1.at λo e=>hk it (by simp) o e,by obtain⟨o,ho,r⟩:=st.2;exact⟨o,hk t (by simp) o ho,r⟩⟩
 item:=λi s Q E hi st hQ=>SW st.1 st.2 (x:=items[i]) (by simp[hi]) λh' a b=>hQ _ h' s.toks (by simp[hi]) ⟨a,st.2.extBut b.extBut hne⟩ b
 done:=λs Q E st hE=>RG hh st.1 st.2 (by simp) hE
section
variable{X:Cx}{aa:List (Addr×Obj)}{σ:St}{H:Hp}{s:Ag}{h':Heap}
theorem cN.turnedL{t':Nat}{fp:List Addr}(I:cN X aa σ H s)(k: ∀b o,b∉fp->s.heap.get? b=some o->h'.get? b=some o)(there: ∀b∈fp,∃o,h'.get? b=some o)(hf: ∀b∈fp,QB X aa H b):cN X aa σ H {s with heap:=h',toks:=t'}:=by
 have nit: ∀b u,H b=some u->b∉fp:=λb u e z=>by rw[(hf b z).1] at e;cases e
 have hL:X.env.locals∉fp:=λz=>(hf _ z).2.1 rfl
 refine I.step (g':=s.gens) (d':=s.drawn) (ch:=fp) (λb hb=> ?_) (λb o _ _ hc e _=>k b o hc e) (λb o _ _ hc e _=>⟨o.slots,k b o hc e⟩) (λ_ _ _ _ n=>n)
  (λb o hc e=>⟨o,k b o hc e⟩) (λ_ _ e=>e) (λ_ _ _ e=>e) (λb ps e=>⟨#[],by rw[e];simp⟩) (λm hm=> ?_) (λb u e=> ?_) I.bare
 ·obtain⟨_,f1,f2,f3,f4,f5⟩:=hf b hb
  exact⟨f3,f1,f4,f5⟩
 ·obtain⟨o,es,ep,ho,r⟩:=hm
  exact⟨o,es,ep,k _ o hL ho,r⟩
 ·refine (I.hok b u e).stay (λc v hc q => k c v ?_ q) (λ_ q => q) λ_ _ q => q
  rcases hc with z|z
  ·rw[z];exact nit b u e
  ·exact nit c _ z
end
section
variable{X:Cx}{aa:List (Addr×Obj)}{σ:St}{H:Hp}{s:Ag}{h':Heap}
theorem cN.turnedL'{t':Nat}{fp:List Addr}(I:cN X aa σ H s)(k: ∀b o,b∉fp->s.heap.get? b=some o->h'.get? b=some o)(hf: ∀b∈fp,QB X aa H b):cN X aa σ H {s with heap:=h',toks:=t'}:=by
 have nit: ∀b u,H b=some u->b∉fp:=λb u e z=>by rw[(hf b z).1] at e;cases e
 have hL:X.env.locals∉fp:=λz=>(hf _ z).2.1 rfl
 refine I.step (g':=s.gens) (d':=s.drawn) (ch:=fp) (λb hb=> ?_) (λb o _ _ hc e _=>k b o hc e) (λb o _ _ hc e _=>⟨o.slots,k b o hc e⟩) (λ_ _ _ _ n=>n)
  (λb o hc e=>⟨o,k b o hc e⟩) (λ_ _ e=>e) (λ_ _ _ e=>e) (λb ps e=>⟨#[],by rw[e];simp⟩) (λm hm=> ?_) (λb u e=> ?_) I.bare
 ·obtain⟨_,f1,f2,f3,f4,f5⟩:=hf b hb
  exact⟨f3,f1,f4,f5⟩
 ·obtain⟨o,es,ep,ho,r⟩:=hm
  exact⟨o,es,ep,k _ o hL ho,r⟩
 ·refine (I.hok b u e).stay (λc v hc q => k c v ?_ q) (λ_ q => q) λ_ _ q => q
  rcases hc with z|z
  ·rw[z];exact nit b u e
  ·exact nit c _ z
end
def LS(K:An)(tup:Bool)(H:Hp)(a:Addr)(xs:List V):Prop:=if tup=true then WC K H a xs else W8 K H a xs
def Q2(tup:Bool)(h:Heap)(a:Addr)(items:Array Value):Prop:=if tup=true then h.IsTuple a items else h.IsList a items
def U4(tup:Bool)(h:Heap)(it a:Addr)(i:Nat):Prop:=if tup=true then h.IsTupleIter it a i else h.IsListIter it a i
theorem zBI{prog:Bn}{w:World}{A:Cy}(hh:A.handled=none)(tup:Bool)(it t:Addr)(hne:t≠it)(items:Array Value):
  Draws prog w A it [it,t] items.size (λi v=>items[i]? =some v) (λi h=>U4 tup h it t i/\Q2 tup h t items):=by
 cases tup with
 |true=>exact CS hh it t hne items
 |false=>exact Draws.list hh it t hne items
theorem Q2.lt{tup:Bool}{h:Heap}{a:Addr}{items:Array Value}(s:Q2 tup h a items):a<h.objs.size:=by
 cases tup with
 |true=>obtain⟨o,e,_⟩:=s;exact Am e
 |false=>obtain⟨o,e,_⟩:=s;exact Am e
theorem cN.srcA{X:Cx}{aa:List (Addr×Obj)}{σ:St}{H:Hp}{s:Ag}{a:Addr}{xs:List V}{tup:Bool}(I:cN X aa σ H s)(h:LS X.K tup H a xs): ∃its:List Value,bT xs its/\Q2 tup s.heap a its.toArray/\xs.length<=sizeLine:=by
 cases tup with
 |true=>
  obtain⟨its,r,p,z⟩:=I.tuple h
  exact⟨its,r,p,z⟩
 |false=>
  obtain⟨its,r,p,z⟩:=I.list h
  exact⟨its,r,p.isList,z⟩
theorem cN.sq_inj{X:Cx}{aa:List (Addr×Obj)}{σ:St}{H:Hp}{s:Ag}{a:Addr}{xs ys:List V}{tup:Bool}(I:cN X aa σ H s)(h:LS X.K tup H a xs)(h':LS X.K tup H a ys):xs=ys:=by
 cases tup with
 |true=>exact I.tuple_inj h h'
 |false=>exact I.list_inj h h'
theorem U4.at{tup:Bool}{h h':Heap}{it a:Addr}{i:Nat}(st:U4 tup h it a i)(k: ∀o,h.get? it=some o->h'.get? it=some o):U4 tup h' it a i:=by
 cases tup with
 |true=>exact Heap.IsTupleIter.at st k
 |false=>exact Heap.IsListIter.at st k
theorem U4.obj{tup:Bool}{h:Heap}{it a:Addr}{i:Nat}(st:U4 tup h it a i): ∃o,h.get? it=some o/\ ∀v,o.data≠ .cell v:=by
 cases tup with
 |true=>
  obtain⟨o,e,c,d⟩:=st
  exact⟨o,e,λv z=>by rw[d] at z;cases z⟩
 |false=>
  obtain⟨o,e,c,d⟩:=st
  exact⟨o,e,λv z=>by rw[d] at z;cases z⟩
def Ite(K:An)(tup:Bool)(a:Addr):It:=
 ⟨λi H=> ∃xs x,LS K tup H a xs/\xs[i]? =some x,λi H v H'=> ∃p x,(∀xs,LS K tup H a xs->xs[i]? =some x)/\H p=none/\H'=bA H p (.tup [.int i,x])/\v= .ref p,λi H=> ∃xs,LS K tup H a xs/\xs.length=i⟩
theorem DV{P:Bn}{w:World}{K:An}{es:List Expr}{k:Nat}{pos:Pos}(tup:Bool)(a e it:Addr)(hei:e≠it)(hae:a≠e)(hai:a≠it):
  HL P w K (.Tuple es k pos) (Ite K tup a) [e,it] e (λi h => (∃ old,IsEnum h e it i old) /\ U4 tup h it a i) where
 mem := by simp
 obj := λi h st b hb => by
  obtain⟨⟨old,he⟩,hi⟩:=st
  rcases Aj.mp hb with z|z
  ·subst z
   exact⟨_,he,λv z=>by cases z⟩
  ·have:=As.mp z
   subst this
   exact hi.obj
 keep:=λi h h' st kk=>by
  obtain⟨⟨old,he⟩,hi⟩:=st
  exact⟨⟨old,kk e (by simp) _ he⟩,hi.at λo q=>kk it (by simp) o q⟩
 item:=by
  intro X hP hw hK hc i aa s σ H E I hf st hg
  subst hP hw hK
  obtain⟨⟨old,he⟩,hi⟩:=st
  obtain⟨xs,x,hq,hx⟩:=hg
  obtain⟨its,rv,src,hz⟩:=I.srcA hq
  have hlt:i<its.toArray.size:=by
   have:=(Ad.mp hx).1
   have:=rv.length
   simp only[Aq]
   lia
  have hh:X.A.in1.handled=none:=I.ok.hd hc
  refine wpAny_pyNext_enum_itemD (zBI hh tup it a hai its.toArray) he ⟨hi,src⟩ hlt hei (by simp[hei,Dk hae]) λu h1 tk hu ho st1 ht hsz hk=>⟨_,rfl,?_⟩
  refine wpAny_letOwnedTupleGo_enum (s:={s with heap:=h1,toks:=tk+1}) ho λh2 he2 sb2=> ?_
  have sb2:Ey e h1 h2:=sb2
  obtain⟨u',hu',ru⟩:=rv.get hx
  have hu:its.toArray[i]? =some u:=hu
  rw[List.getElem?_toArray,hu'] at hu
  have hu:=Cd hu
  subst hu
  have kk: ∀b o,b∉[e,it]->s.heap.get? b=some o->h2.get? b=some o:=λb o hb q=>by
   have h1b:b≠e:=λz=>hb (by simp[z])
   have h2b:b≠it:=λz=>hb (by simp[z])
   exact(sb2.2 b h1b).trans (hk b o h1b h2b q)
  have dz:h2.get? s.heap.objs.size=some {cls:= .type "tuple",data:= .seq #[.int i tk,u']}:=(sb2.2 _ (Fv (Am he))).trans ht
  have bm:H s.heap.objs.size=none:=I.hok.fresh (Ap _)
  have dj: ∀b∈[e,it],b<s.heap.objs.size:=λb hb=>by
   rcases Aj.mp hb with z|z
   ·rw[z];exact Am he
   ·rw[As.mp z]
    obtain⟨o,q,_⟩:=hi.obj
    exact Am q
  have I0:cN X aa σ (bA H s.heap.objs.size (.tup [.int i,x])) {s with heap:=s.heap.push {cls:= .type "tuple",data:= .seq #[.int i tk,u']},toks:=tk}:=
   I.laid (λb o q=>Ac _ q) (Ap _) ⟨by show 2<=sizeLine;decide,[.int i tk,u'],.cons ⟨tk,rfl⟩ (.cons ru .nil),Ju _ _⟩
  have I1:cN X aa σ (bA H s.heap.objs.size (.tup [.int i,x])) {s with heap:=h2,toks:=tk+1}:=by
   refine cN.turnedL (s:={s with heap:=s.heap.push {cls:= .type "tuple",data:= .seq #[.int i tk,u']},toks:=tk}) (h':=h2) (t':=tk+1) (fp:=[e,it]) I0 (λb o hb q=> ?_) (λb hb=> ?_) λb hb=>⟨by rw[bQ (Bf (dj b hb))];exact(hf b hb).1,(hf b hb).2⟩
   ·by_cases hbn:b=s.heap.objs.size
    ·subst hbn
     have q:(s.heap.push {cls:= .type "tuple",data:= .seq #[.int i tk,u']}).get? s.heap.objs.size=some o:=q
     rw[Au _ rfl] at q
     cases q
     exact dz
    ·exact kk b o hb ((Hq _ _ _ hbn).symm.trans q)
   ·rcases Aj.mp hb with z|z
    ·rw[z];exact⟨_,he2⟩
    ·rw[As.mp z]
     obtain⟨o,q,_⟩:=st1.1.obj
     exact⟨o,(sb2.2 it (Dk hei)).trans q⟩
  refine⟨.ref s.heap.objs.size,bA H s.heap.objs.size (.tup [.int i,x]),?_,rfl,⟨_,x,λys hy=>by rw[I.sq_inj hy hq];exact hx,bm,rfl,rfl⟩,⟨⟨_,by simpa using he2⟩,st1.1.at λo q=>(sb2.2 it (Dk hei)).trans q⟩,λb hb=> ?_⟩
  ·exact I1
  ·rw[bQ (Bf (dj b hb))]
   exact(hf b hb).1
 done:=by
  intro X hP hw hK hc i aa s σ H E I hf st hg
  subst hP hw hK
  obtain⟨⟨old,he⟩,hi⟩:=st
  obtain⟨xs,hq,hx⟩:=hg
  obtain⟨its,rv,src,hz⟩:=I.srcA hq
  have hh:X.A.in1.handled=none:=I.ok.hd hc
  have hn:its.toArray.size=i:=by rw[Aq,<- rv.length];exact hx
  refine wpAny_pyNext_enum_endD (zBI hh tup it a hai its.toArray) he ⟨by rw[hn];exact hi,src⟩ λh1 xb=>⟨rfl,?_⟩
  obtain⟨f0,f1,f2,f3,f4,f5⟩:=hf it (by simp)
  exact I.turned (t':=s.toks) (λb o hb q=>xb b o hb q) f0 f1 f3 f4 f5
 self:=λ_ i _ _ _ st h=>Nd st.1.choose_spec h
theorem CT(a:Addr)(items:Array Value)(n:Nat)(dd:Option Addr)(sl:Array (Option Value)):
  Meets (Mf.«enumerate.__new__» ⟨[.type "enumerate",.ref a],[]⟩) (λ_ R s=>s.heap.get? a=some {cls:= .type "tuple",dict:=dd,data:= .seq items n,slots:=sl}∧
   R (.ok (.ret (.ref (s.heap.push {cls:= .type "tuple_iterator",data:= .fields #[.ref a,.int 0 0]}).objs.size)))
    {s with heap:=(s.heap.push {cls:= .type "tuple_iterator",data:= .fields #[.ref a,.int 0 0]}).push {cls:= .type "enumerate",data:= .fields #[.none,.bool false,.ref s.heap.objs.size,rawInt 0,.none,.none]}}):=by
 refine .of_wp λprog w A R s h=> ?_
 obtain⟨hp,g,d,tk,os⟩:=s
 obtain⟨ha,h⟩:=h
 have hs:=sub_enumerate
 have hT:Heap.IsTuple (Pa ⟨hp,g,d,tk,os⟩) a items:=⟨_,ha,rfl,n,rfl⟩
 wp_walk using Gr ha
 refine wpAny_stack_any λst=>Ai ?_
 split
 ·rename_i c _ _ _ _ _
  cases (c==Jt "enumerate")<;>(wp_walk using Gr ha,Gv hT;exact⟨_,rfl,h⟩)
 ·wp_walk using Gr ha,Gv hT
  exact⟨_,rfl,h⟩
theorem F3{prog:Bn}{w:World}{A:Cy}{E:Value->Ag->Prop}{s:Ag}{a:Addr}{items:Array Value}{tup:Bool}{Q:Value->Ag->Prop}(hs:Q2 tup s.heap a items)
  (h: ∀h',IsEnum h' (s.heap.objs.size+1) s.heap.objs.size 0 .none->U4 tup h' s.heap.objs.size a 0->(∀b o,s.heap.get? b=some o->h'.get? b=some o)->Q (.ref (s.heap.objs.size+1)) {s with heap:=h'}):
  wpAny (model prog w) A (call (.type "enumerate") [.ref a]) Q E s:=by
 cases tup with
 |false=>exact call_enumerate_list hs λh' a1 a2 _ a4=>h h' a1 a2 a4
 |true=>
  obtain⟨⟨cc,dd,dt,sl⟩,g1,hc,n,hd⟩:=hs
  replace hc:cc= .type "tuple":=hc
  replace hd:dt= .seq items n:=hd
  subst hc hd
  have hz:(s.heap.push {cls:= .type "tuple_iterator",data:= .fields #[.ref a,.int 0 0]}).objs.size=s.heap.objs.size+1:=Cw ..
  refine callType_new F.called_enumerate (by decide) (F.typeCall_enumerate_1 _) (F.newCall_enumerate_1 _) (λobj=>F.args_object_init_2 obj _) F.entry_enumerate_new (CT a items n dd sl) ⟨g1,?_⟩
  show _/\_
  rw[hz]
  have he:=Au (s.heap.push {cls:= .type "tuple_iterator",data:= .fields #[.ref a,.int 0 0]}) (o:={cls:= .type "enumerate",data:= .fields #[.none,.bool false,.ref s.heap.objs.size,rawInt 0,.none,.none]}) rfl
  rw[hz] at he
  exact⟨⟨_,he,rfl⟩,h _ he ⟨_,Ac _ (Au _ rfl),rfl,rfl⟩ λb o x=>Ac _ (Ac _ x)⟩
theorem KC:Bg "enumerate"=some (.type "enumerate"):=by decide+kernel
theorem zIA:Bg "zip"=some (.type "zip"):=by decide+kernel
section
variable{X:Cx}{K:An}{ml:List Nat}{l:Expr}{pu:Bool}{f:VF}{p pos dh:Pos}{es:List Expr}{tk:Nat}{δ:Ev}
def iEnu(K:An)(tl:TE):TI:=λσ H R=>tl σ H λx H1=> ∃a tup,x= .ref a/\(∃xs,LS K tup H1 a xs)/\R (Ite K tup a) H1
theorem zCO{tl:TE}(hg:Gl X "enumerate") (hm:X.mg "enumerate"=none) (hl:PE X l tl) (he:Ah (l::[]) X.env=(false,eval l X.env)::Ah [] X.env:=by rfl):
  PI X (.Tuple es tk dh) (.Call (.Name "enumerate" p) [l] [] pos) (iEnu X.K tl):=by
 intro aa s σ H R I h
 refine Fc (SF I hg hm KC ?_ (by decide) (by decide))
 refine Dy (ZG (bW hl ZR he pos aa s σ H (λvs H1=>match vs with
  | [x] => ∃ a tup,x = .ref a /\ (∃ xs,LS X.K tup H1 a xs) /\ R (Ite X.K tup a) H1
  | _ => False) I h) λus s1 ⟨vs,H1,I1,r1,q1⟩ => ?_) he (by rfl)
 match vs,r1,q1 with
 |[x],r1,q1=>
  obtain⟨a,tup,rfl,⟨xs,hq⟩,hR⟩:=q1
  obtain⟨u,rfl,ru⟩:=SX r1
  cases ru
  obtain⟨its,rv,src,_⟩:=I1.srcA hq
  refine F3 src λh' he' hi' kp=> ?_
  have I2:cN X aa σ H1 {s1 with heap:=h'}:=I1.kept (t':=s1.toks) kp
  have hn: ∀b,s1.heap.objs.size<=b->H1 b=none:=λb hb=>I1.hok.fresh hb
  refine Nd he' ⟨s1.heap.objs.size+1,[s1.heap.objs.size+1,s1.heap.objs.size],_,Ite X.K tup a,H1,rfl,I2,DV tup a (s1.heap.objs.size+1) s1.heap.objs.size (Nat.succ_ne_self _) (λz=> ?_) (λz=> ?_),⟨⟨_,he'⟩,hi'⟩,λb hb=> ?_,hR⟩
  ·have:=src.lt
   rw[z] at this
   exact absurd this (Nat.not_lt_of_le (Fm _))
  ·have:=src.lt
   rw[z] at this
   exact absurd this (Ca _)
  ·have hb':s1.heap.objs.size<=b:=by
    rcases Aj.mp hb with z|z
    ·rw[z];exact Fm _
    ·rw[As.mp z];exact Ap _
   exact I1.fpOk hb' (hn b hb')
theorem zHQ(h:X.K=K){tl:TE}(hg:Gl X "enumerate") (hm:X.mg "enumerate"=none) (hl:PE X l tl) (he:Ah (l::[]) X.env=(false,eval l X.env)::Ah [] X.env:=by rfl):
  PI X (.Tuple es tk dh) (.Call (.Name "enumerate" p) [l] [] pos) (iEnu K tl):=by subst h;exact zCO hg hm hl he
noncomputable def YW:Nat->List dE->List dE
 |_,[]=>[]
 |i,d::ds=> .tup [.int i,d]::YW (i+1) ds
noncomputable def PX(f:VF):VI:=λδ=>(f δ).bind λp=>(YV p.1).map λds=>(YW 0 ds,p.2)
theorem NQ: ∀{ds:List dE} {n i:Nat} {d:dE},(YW n ds)[i]? =some d-> ∃x,ds[i]? =some x/\d= .tup [.int (n+i:Nat),x]
 |[],_,_,_,h=>by simp[YW] at h
 |x::ds,n,0,d,h=>by simp[YW] at h;exact⟨x,rfl,h.symm⟩
 |x::ds,n,i+1,d,h=>by
  have h:(YW (n+1) ds)[i]? =some d:=by simpa[YW] using h
  obtain⟨y,h1,h2⟩:=NQ h
  exact⟨y,by simpa using h1,by rw[h2,show n+1+i=n+(i+1) by lia]⟩
theorem NR: ∀(ds:List dE) (n:Nat),(YW n ds).length=ds.length
 |[],_=>rfl
 |_::ds,n=>congrArg (· +1) (NR ds (n+1))
theorem M5{a:Addr}{tup:Bool}{ds:List dE}:Walk K (Ite K tup a) [(.ref a,if tup=true then .tup ds else .lst ds)] (YW 0 ds):=by
 intro N H h
 have r:=h _ (As.mpr rfl)
 have fin: ∀xs,LS K tup H a xs->cO K N H xs ds->(∀(i:Nat) (d:dE),(YW 0 ds)[i]? =some d->(Ite K tup a).go i H/\ ∀x H',(Ite K tup a).yld i H x H'->a8 H H'/\bG K N H' N x d)/\(Ite K tup a).stop (YW 0 ds).length H:=λxs sq r=>by
  refine⟨λi d e=> ?_,xs,sq,by rw[r.length,NR]⟩
  obtain⟨z,e1,rfl⟩:=NQ e
  obtain⟨x,e2,r1⟩:=r.get e1
  refine⟨⟨xs,x,sq,e2⟩,λy H' hy=> ?_⟩
  obtain⟨p,x',e3,hp,rfl,rfl⟩:=hy
  have:=e3 xs sq
  rw[e2] at this
  cases this
  refine⟨cZ hp,.tup (WC.of cH) (.cons ?_ (.cons (r1.same (cZ hp)) .nil))⟩
  rw[Jm]
  exact .int _
 cases tup with
 |true=>
  have r:bG K N H N (.ref a) (.tup ds):=r
  cases r with
  |tup sq r=>exact fin _ sq r
 |false=>
  have r:bG K N H N (.ref a) (.lst ds):=r
  cases r with
  |lst q n r=>exact fin _ (W8.of q) r
  |fzl q r=>exact fin _ q.sq r
theorem PC(hK:X.K=K)(hg:Gl X "enumerate") (hm:X.mg "enumerate"=none) (h:PE X l (TV K ml pu true true f)) (he:Ah (l::[]) X.env=(false,eval l X.env)::Ah [] X.env:=by rfl):
  PI X (.Tuple es tk dh) (.Call (.Name "enumerate" p) [l] [] pos) (CG K ml pu (PX f)):=(zHQ (K:=K) hK hg hm h he).imp λσ H R ⟨B,O,δ,ds,δ',S,q,k⟩=>by
 unfold PX at q
 cases h1:f δ with
 | none => rw [h1] at q;cases q
 |some p=>
  obtain⟨x,δ1⟩:=p
  rw[h1] at q
  refine⟨B,O,δ,x,δ1,S,h1,λv H1 R1=> ?_⟩
  cases x with
  |lst ds'=>
   cases q
   obtain⟨a,xs,rfl,sq,r⟩:=R1.rep.lstE
   exact⟨a,false,rfl,⟨xs,sq⟩,k _ [(.ref a,.lst ds')] H1 (R1.sta.keepV λp hp=>by rw[As.mp hp];exact R1.rep) R1.frm R1.pur (M5 (tup:=false))⟩
  |tup ds'=>
   cases q
   obtain⟨a,xs,rfl,sq,r⟩:=R1.rep.tupE
   exact⟨a,true,rfl,⟨xs,sq⟩,k _ [(.ref a,.tup ds')] H1 (R1.sta.keepV λp hp=>by rw[As.mp hp];exact R1.rep) R1.frm R1.pur (M5 (tup:=true))⟩
  |_=>cases q
end
section
variable{prog:Bn}{w:World}{A:Cy}{E:Value->Ag->Prop}{s:Ag}
theorem U4.ext{tup:Bool}{h h':Heap}{it a b:Addr}{i:Nat}(x:U4 tup h it a i)(hs:Ix b h h')(hne:it≠b):U4 tup h' it a i:=x.at λo e=>hs _ _ hne e
theorem Q2.ext{tup:Bool}{h h':Heap}{a b:Addr}{xs:Array Value}(x:Q2 tup h a xs)(hs:Ix b h h')(hne:a≠b):Q2 tup h' a xs:=by
 cases tup with
 |true=>obtain⟨o,e,r⟩:=x;exact⟨o,hs _ _ hne e,r⟩
 |false=>obtain⟨o,e,r⟩:=x;exact⟨o,hs _ _ hne e,r⟩
theorem SI{tup:Bool}{it a:Addr}{i:Nat}{xs:Array Value}{x:Value}{Q:Value->Ag->Prop}(hi:U4 tup s.heap it a i)(hs:Q2 tup s.heap a xs)(hx:xs[i]? =some x)
  (hQ: ∀h',U4 tup h' it a (i+1)->Ey it s.heap h'->Q x {s with heap:=h'}):wpAny (model prog w) A (Cc (.ref it)) Q E s:=by
 cases tup with
 |true=>exact SW hi hs hx hQ
 |false=>exact wpAny_nextOf_list_item hi hs hx hQ
theorem MI{tup:Bool}{it a:Addr}{i:Nat}{xs:Array Value}{Q:Value->Ag->Prop}(hh:A.handled=none)(hi:U4 tup s.heap it a i)(hs:Q2 tup s.heap a xs)(hx:xs[i]? =none)
  (hE: ∀h' e,Ix it s.heap h'->(∃o,h'.get? e=some o/\o.cls= .type "StopIteration")->E (.ref e) {s with heap:=h'}):wpAny (model prog w) A (Cc (.ref it)) Q E s:=by
 cases tup with
 |true=>exact RG hh hi hs hx hE
 |false=>exact wpAny_nextOf_list_end hh hi hs hx hE
structure ZSt(t1 t2:Bool)(h:Heap)(z p q i1 i2 a b:Addr)(k:Nat)(f0:Value):Prop where
 zip:IsZip h z p q f0
 its:IsPair h p (.ref i1) (.ref i2)
 res: ∃u v,IsPair h q u v
 one:U4 t1 h i1 a k
 two:U4 t2 h i2 b k
theorem D3{t1 t2:Bool}{z p q i1 i2 a b:Addr}{k:Nat}{xs ys:Array Value}{x y:Value}{Q:Value->Ag->Prop}(D:Lq z p q i1 i2 a b)(S:ZSt t1 t2 s.heap z p q i1 i2 a b k .none)
  (s1:Q2 t1 s.heap a xs) (s2:Q2 t2 s.heap b ys) (hx:xs[k]? =some x) (hy:ys[k]? =some y)
  (hQ: ∀h',ZSt t1 t2 h' z p q i1 i2 a b (k+1) (rawInt s.heap.objs.size)->IsPair h' s.heap.objs.size x y->h'.objs.size=s.heap.objs.size+1→
   (∀c o,c≠z->c≠q->c≠i1->c≠i2->s.heap.get? c=some o->h'.get? c=some o)->Q (.ref s.heap.objs.size) {s with heap:=h'}):
  wpAny (model prog w) A (Mf.«zip.__next__» ⟨[.ref z],[]⟩) (λfin s'=> ∃v,fin= .done (.ret v)/\Q v s') E s:=by
 obtain⟨gz,gi,⟨u,v,gr⟩,g1,g2⟩:=S
 show wpAny _ _ (field (Bq z) 2>>=_) _ _ _
 refine Aa (Dz gz rfl (x:= .bool false) rfl ?_)
 show wpAny _ _ (field (Bq z) 3>>=_) _ _ _
 refine Aa (Dz gz rfl (x:= .ref p) rfl (Aa (Ep gi rfl ?_)))
 show wpAny _ _ (Dr (Bq z)>>=_) _ _ _
 refine Aa ?_
 (unfold Dr)
 refine Aa (Dz gz rfl (x:= .none) rfl (Ai ?_))
 simp only[if_true]
 refine Aa (Gc (Aa (Dz gz rfl (x:= .ref q) rfl (Aa (Fe gz (by simp) λha za ba=>Aa ?_)))))
 have za:IsZip ha z p q .ellipsis:=za
 simp only[Pb,Nx,Lz,Ir]
 refine Aa (Aa (Kk ?_))
 show wpAny _ _ (Cc (Bq i1)>>=_) _ _ _
 refine Aa (SI (g1.ext ba.extBut D.i1z) (s1.ext ba.extBut D.l1z) hx λhb n1 bb=>Ai ?_)
 have rb:IsPair hb q u v:=bb.extBut _ _ D.TOi1 (ba.extBut _ _ D.TOz gr)
 refine Aa (Ep rb rfl (Aa (Hz rb λhc rc bc=>Aa (Pc (Ai ?_)))))
 have rc:IsPair hc q x v:=rc
 refine Aa (Aa (Kk ?_))
 show wpAny _ _ (Cc (Bq i2)>>=_) _ _ _
 refine Aa (SI (((g2.ext ba.extBut D.i2z).ext bb.extBut D.i12.symm).ext bc.extBut D.TOi2.symm) (((s2.ext ba.extBut D.l2z).ext bb.extBut D.l2i1).ext bc.extBut D.l2TO) hy λhd n2 bd=>Ai ?_)
 have rd:IsPair hd q x v:=bd.extBut _ _ D.TOi2 rc
 refine Aa (Ep rd rfl (Aa (Hz rd λhe re be=>Aa (Pc (Ai (Ai ?_))))))
 have re:IsPair he q x y:=re
 refine Aa (Ep re rfl (Aa (wpAny_newTuple ?_)))
 have size:he.objs.size=s.heap.objs.size:=by rw[be.1,bd.1,bc.1,bb.1,ba.1]
 have ze:IsZip he z p q .ellipsis:=be.extBut _ _ D.TOz.symm (bd.extBut _ _ D.i2z.symm (bc.extBut _ _ D.TOz.symm (bb.extBut _ _ D.i1z.symm za)))
 have ke: ∀c o,c≠z->c≠q->c≠i1->c≠i2->s.heap.get? c=some o->he.get? c=some o:=λc o c1 c2 c3 c4 g=>be.extBut _ _ c2 (bd.extBut _ _ c4 (bc.extBut _ _ c2 (bb.extBut _ _ c3 (ba.extBut _ _ c1 g))))
 have e1:U4 t1 he i1 a (k+1):=((n1.ext bc.extBut D.TOi1.symm).ext bd.extBut D.i12).ext be.extBut D.TOi1.symm
 have e2:U4 t2 he i2 b (k+1):=n2.ext be.extBut D.TOi2.symm
 have ie:IsPair he p (.ref i1) (.ref i2):=ke _ _ D.TIz D.TITO D.TIi1 D.TIi2 gi
 have zlt:z<he.objs.size:=Am ze
 show wpAny _ _ (Gk (Bq z) (.ref he.objs.size)>>=_) _ _ _
 refine Aa ?_
 (unfold Gk)
 have zf:IsZip (he.push {cls:= .type "tuple",data:= .seq #[x,y]}) z p q .ellipsis:=Ac _ ze
 refine Aa (Fe zf (by simp) λhg zg bg=> ?_)
 have zg:IsZip hg z p q (rawInt he.objs.size):=zg
 refine Fe zg (by simp) λhk zk bk=> ?_
 have zk:IsZip hk z p q (rawInt he.objs.size):=zk
 have up: ∀c o,c≠z->he.get? c=some o->hk.get? c=some o:=λc o c1 g=>bk.extBut _ _ c1 (bg.extBut _ _ c1 (Ac _ g))
 have tk:IsPair hk he.objs.size x y:=bk.extBut _ _ (Fv zlt) (bg.extBut _ _ (Fv zlt) (Au _ rfl))
 have szk:hk.objs.size=he.objs.size+1:=by rw[bk.1,bg.1,Cw]
 rw[size] at zk tk szk
 refine Ai ⟨_,rfl,?_⟩
 show Q (.ref he.objs.size) _
 rw[size]
 exact hQ hk ⟨zk,up _ _ D.TIz ie,⟨x,y,up _ _ D.TOz re⟩,e1.at λo g=>up _ o D.i1z g,e2.at λo g=>up _ o D.i2z g⟩ tk szk λc o c1 c2 c3 c4 g=>up c o c1 (ke c o c1 c2 c3 c4 g)
theorem BP{t1 t2:Bool}{z p q i1 i2 a b:Addr}{k:Nat}{xs ys:Array Value}{Q:Fin->Ag->Prop}(hh:A.handled=none)(D:Lq z p q i1 i2 a b)(S:ZSt t1 t2 s.heap z p q i1 i2 a b k .none)
  (s1:Q2 t1 s.heap a xs) (s2:Q2 t2 s.heap b ys) (gc:xs[k]? =none∨ys[k]? =none)
  (hE: ∀h' e,(∀c o,c≠z->c≠q->c≠i1->c≠i2->s.heap.get? c=some o->h'.get? c=some o)->(∃o,h'.get? e=some o/\o.cls= .type "StopIteration")->E (.ref e) {s with heap:=h'}):
  wpAny (model prog w) A (Mf.«zip.__next__» ⟨[.ref z],[]⟩) Q E s:=by
 obtain⟨gz,gi,⟨u,v,gr⟩,g1,g2⟩:=S
 show wpAny _ _ (field (Bq z) 2>>=_) _ _ _
 refine Aa (Dz gz rfl (x:= .bool false) rfl ?_)
 show wpAny _ _ (field (Bq z) 3>>=_) _ _ _
 refine Aa (Dz gz rfl (x:= .ref p) rfl (Aa (Ep gi rfl ?_)))
 show wpAny _ _ (Dr (Bq z)>>=_) _ _ _
 refine Aa ?_
 (unfold Dr)
 refine Aa (Dz gz rfl (x:= .none) rfl (Ai ?_))
 simp only[if_true]
 refine Aa (Gc (Aa (Dz gz rfl (x:= .ref q) rfl (Aa (Fe gz (by simp) λha za ba=>Aa ?_)))))
 have za:IsZip ha z p q .ellipsis:=za
 simp only[Pb,Nx,Lz,Ir]
 refine Aa (Aa (Kk ?_))
 show wpAny _ _ (Cc (Bq i1)>>=_) _ _ _
 cases hx:xs[k]? with
 |none=>
  refine Aa (MI hh (g1.ext ba.extBut D.i1z) (s1.ext ba.extBut D.l1z) hx λhb e bb ⟨oe,ge,ce⟩=> ?_)
  have zb:IsZip hb z p q .ellipsis:=bb _ _ D.i1z.symm za
  have ne:e≠z:=λw=>by subst w;rw[zb] at ge;cases ge;simp at ce
  exact Fe zb (by simp) λhc _ bc=>hE hc e (λc o c1 _ c3 _ g=>bc.extBut _ _ c1 (bb _ _ c3 (ba.extBut _ _ c1 g))) ⟨oe,bc.extBut _ _ ne ge,ce⟩
 |some x=>
  have hy:ys[k]? =none:=gc.resolve_left λw=>by rw[hx] at w;cases w
  refine Aa (SI (g1.ext ba.extBut D.i1z) (s1.ext ba.extBut D.l1z) hx λhb n1 bb=>Ai ?_)
  have rb:IsPair hb q u v:=bb.extBut _ _ D.TOi1 (ba.extBut _ _ D.TOz gr)
  refine Aa (Ep rb rfl (Aa (Hz rb λhc rc bc=>Aa (Pc (Ai (Aa (Aa (Kk ?_))))))))
  show wpAny _ _ (Cc (Bq i2)>>=_) _ _ _
  refine Aa (MI hh (((g2.ext ba.extBut D.i2z).ext bb.extBut D.i12.symm).ext bc.extBut D.TOi2.symm) (((s2.ext ba.extBut D.l2z).ext bb.extBut D.l2i1).ext bc.extBut D.l2TO) hy λhd e bd ⟨oe,ge,ce⟩=> ?_)
  have zd:IsZip hd z p q .ellipsis:=bd _ _ D.i2z.symm (bc.extBut _ _ D.TOz.symm (bb.extBut _ _ D.i1z.symm za))
  have ne:e≠z:=λw=>by subst w;rw[zd] at ge;cases ge;simp at ce
  exact Fe zd (by simp) λhf _ bf=>hE hf e (λc o c1 c2 c3 c4 g=>bf.extBut _ _ c1 (bd _ _ c4 (bc.extBut _ _ c2 (bb.extBut _ _ c3 (ba.extBut _ _ c1 g))))) ⟨oe,bf.extBut _ _ ne ge,ce⟩
theorem GI{t1 t2:Bool}{z p q i1 i2 a b:Addr}{k:Nat}{xs ys:Array Value}{x y:Value}{Q:Option Value->Ag->Prop}(D:Lq z p q i1 i2 a b)(S:ZSt t1 t2 s.heap z p q i1 i2 a b k .none)
  (s1:Q2 t1 s.heap a xs) (s2:Q2 t2 s.heap b ys) (hx:xs[k]? =some x) (hy:ys[k]? =some y)
  (hQ: ∀h',ZSt t1 t2 h' z p q i1 i2 a b (k+1) (rawInt s.heap.objs.size)->IsPair h' s.heap.objs.size x y->h'.objs.size=s.heap.objs.size+1→
   (∀c o,c≠z->c≠q->c≠i1->c≠i2->s.heap.get? c=some o->h'.get? c=some o)->Q (some (.ref s.heap.objs.size)) {s with heap:=h'}):wpAny (model prog w) A (pyNext (.ref z)) Q E s:=by
 have ty:s.TypeIs (.ref z) "zip":=⟨_,S.zip,rfl⟩
 (unfold pyNext)
 exact Aa (Mp (Di (name:=Bh "__next__") ty Iz (Ec Iz ty Ny (D3 D S s1 s2 hx hy λh' a1 a2 a3 a4=>Ai (hQ h' a1 a2 a3 a4)) (Nf _))))
theorem DB{t1 t2:Bool}{z p q i1 i2 a b:Addr}{k:Nat}{xs ys:Array Value}{Q:Option Value->Ag->Prop}(hh:A.handled=none)(D:Lq z p q i1 i2 a b)(S:ZSt t1 t2 s.heap z p q i1 i2 a b k .none)
  (s1:Q2 t1 s.heap a xs) (s2:Q2 t2 s.heap b ys) (gc:xs[k]? =none∨ys[k]? =none)
  (hQ: ∀h',(∀c o,c≠z->c≠q->c≠i1->c≠i2->s.heap.get? c=some o->h'.get? c=some o)->Q none {s with heap:=h'}):wpAny (model prog w) A (pyNext (.ref z)) Q E s:=by
 have ty:s.TypeIs (.ref z) "zip":=⟨_,S.zip,rfl⟩
 (unfold pyNext)
 refine Aa (Mp (Di (name:=Bh "__next__") ty Iz (Ec Iz ty Ny (BP hh D S s1 s2 gc λh' e kk ⟨o,ge,ce⟩=> ?_) (Nf _))))
 exact Aa (wpAny_isInstance (T:= "StopIteration") (b:=true) ⟨o,ge,ce⟩ isSubtype_stop (Ai (hQ _ kk)))
end
def zKC(tup:Bool):String:=if tup=true then "tuple_iterator" else "list_iterator"
noncomputable abbrev zO(tup:Bool)(a:Addr):Obj:={cls:= .type (zKC tup),data:= .fields #[.ref a,.int 0 0]}
theorem zE4{prog:Bn}{w:World}{A:Cy}{E:Value->Ag->Prop}{s:Ag}{tup:Bool}{a:Addr}{xs:Array Value}{Q:Value->Ag->Prop}(h:Q2 tup s.heap a xs)(hQ:Q (.ref s.heap.objs.size) {s with heap:=s.heap.push (zO tup a)}):
  wpAny (model prog w) A (Op (.ref a)) Q E s:=by
 cases tup with
 |true=>exact Gv h hQ
 |false=>exact Gd h hQ
theorem Q2.push{tup:Bool}{h:Heap}{a:Addr}{xs:Array Value}(x:Q2 tup h a xs)(o:Obj):Q2 tup (h.push o) a xs:=by
 cases tup with
 |true=>obtain⟨o,e,r⟩:=x;exact⟨o,Ac _ e,r⟩
 |false=>obtain⟨o,e,r⟩:=x;exact⟨o,Ac _ e,r⟩
theorem BQ(t1 t2:Bool)(a b:Addr)(xs ys:Array Value):
  Meets (Mf.«zip.__new__» ⟨[.type "zip",.ref a,.ref b],[]⟩) (λ_ R s=>Q2 t1 s.heap a xs/\Q2 t2 s.heap b ys/\ ∀h1 h2 h3 h4 h5,h1=s.heap.push (zO t1 a)->h2=h1.push (zO t2 b)->h3=h2.push {cls:= .type "tuple",data:= .seq #[.ref s.heap.objs.size,.ref h1.objs.size]}→
   h4=h3.push {cls:= .type "tuple",data:= .seq #[.none,.none]}->h5=h4.push {cls:= .type "zip",data:= .fields #[.none,.bool false,.bool false,.ref h2.objs.size,.ref h3.objs.size]}->R (.ok (.ret (.ref h4.objs.size))) {s with heap:=h5}):=by
 refine .of_wp λprog w A R s h=> ?_
 obtain⟨hp,g,d,tk,os⟩:=s
 obtain⟨g1,g2,h⟩:=h
 have hs:=sub_zip
 have k1:Q2 t1 (Pa ⟨hp,g,d,tk,os⟩) a xs:=g1
 have k2:Q2 t2 (Pa ⟨hp.push (zO t1 a),g,d,tk,os⟩) b ys:=Q2.push g2 _
 wp_walk using zE4 k1,zE4 k2
 exact⟨_,rfl,h _ _ _ _ _ rfl rfl rfl rfl rfl⟩
theorem CL{prog:Bn}{w:World}{A:Cy}{E:Value->Ag->Prop}{s:Ag}{t1 t2:Bool}{a b:Addr}{xs ys:Array Value}{Q:Value->Ag->Prop}(g1:Q2 t1 s.heap a xs)(g2:Q2 t2 s.heap b ys)
  (h: ∀h',ZSt t1 t2 h' (s.heap.objs.size+4) (s.heap.objs.size+2) (s.heap.objs.size+3) s.heap.objs.size (s.heap.objs.size+1) a b 0 .none->(∀c o,s.heap.get? c=some o->h'.get? c=some o)->Q (.ref (s.heap.objs.size+4)) {s with heap:=h'}):
  wpAny (model prog w) A (call (.type "zip") [.ref a,.ref b]) Q E s:=by
 refine callType_new F.called_zip (by decide) (F.typeCall_zip_2 _ _) (F.newCall_zip_2 _ _) (λobj=>F.args_object_init_3 obj _ _) F.entry_zip_new (BQ t1 t2 a b xs ys) ⟨g1,g2,?_⟩
 rintro h1 h2 h3 h4 h5 e1 e2 e3 e4 e5
 have z1:h1.objs.size=s.heap.objs.size+1:=by rw[e1,Cw]
 have z2:h2.objs.size=s.heap.objs.size+2:=by rw[e2,Cw,z1]
 have z3:h3.objs.size=s.heap.objs.size+3:=by rw[e3,Cw,z2]
 have z4:h4.objs.size=s.heap.objs.size+4:=by rw[e4,Cw,z3]
 have u4: ∀c o,h4.get? c=some o->h5.get? c=some o:=λc o q=>by rw[e5];exact Ac _ q
 have u3: ∀c o,h3.get? c=some o->h5.get? c=some o:=λc o q=>u4 c o (by rw[e4];exact Ac _ q)
 have u2: ∀c o,h2.get? c=some o->h5.get? c=some o:=λc o q=>u3 c o (by rw[e3];exact Ac _ q)
 have u1: ∀c o,h1.get? c=some o->h5.get? c=some o:=λc o q=>u2 c o (by rw[e2];exact Ac _ q)
 have u0: ∀c o,s.heap.get? c=some o->h5.get? c=some o:=λc o q=>u1 c o (by rw[e1];exact Ac _ q)
 have o5:h5.get? h4.objs.size=some {cls:= .type "zip",data:= .fields #[.none,.bool false,.bool false,.ref h2.objs.size,.ref h3.objs.size]}:=by rw[e5];exact Au _ rfl
 have o4:h5.get? h3.objs.size=some {cls:= .type "tuple",data:= .seq #[.none,.none]}:=u4 _ _ (by rw[e4];exact Au _ rfl)
 have o3:h5.get? h2.objs.size=some {cls:= .type "tuple",data:= .seq #[.ref s.heap.objs.size,.ref h1.objs.size]}:=u3 _ _ (by rw[e3];exact Au _ rfl)
 have o2:h5.get? h1.objs.size=some (zO t2 b):=u2 _ _ (by rw[e2];exact Au _ rfl)
 have o1:h5.get? s.heap.objs.size=some (zO t1 a):=u1 _ _ (by rw[e1];exact Au _ rfl)
 show _/\_
 rw[z2,z3,z4] at o5
 rw[z3] at o4
 rw[z1,z2] at o3
 rw[z1] at o2
 rw[z4]
 refine⟨⟨_,o5,rfl⟩,h _ ⟨o5,o3,⟨_,_,o4⟩,?_,?_⟩ u0⟩
 ·cases t1 with
  |true=>exact⟨_,o1,rfl,rfl⟩
  |false=>exact⟨_,o1,rfl,rfl⟩
 ·cases t2 with
  |true=>exact⟨_,o2,rfl,rfl⟩
  |false=>exact⟨_,o2,rfl,rfl⟩
theorem zEF(n a b:Nat)(ha:a<n)(hb:b<n):Lq (n+4) (n+2) (n+3) n (n+1) a b:=by
 have f: ∀x y:Nat,x<y∨y<x->x≠y:=λx y h=>by lia
 exact⟨f _ _ (by lia),f _ _ (by lia),f _ _ (by lia),f _ _ (by lia),f _ _ (by lia),f _ _ (by lia),f _ _ (by lia),f _ _ (by lia),f _ _ (by lia),f _ _ (by lia),f _ _ (by lia),f _ _ (by lia),f _ _ (by lia),f _ _ (by lia),f _ _ (by lia),f _ _ (by lia),f _ _ (by lia),f _ _ (by lia)⟩
def Itz(K:An)(t1 t2:Bool)(a b:Addr):It:=
  ⟨λi H => ∃ xs ys x y,LS K t1 H a xs /\ LS K t2 H b ys /\ xs[i]? = some x /\ ys[i]? = some y,
   λi H v H'=> ∃p x y,(∀xs,LS K t1 H a xs->xs[i]? =some x)/\(∀ys,LS K t2 H b ys->ys[i]? =some y)/\H p=none/\H'=bA H p (.tup [x,y])/\v= .ref p,
   λi H=> ∃xs ys,LS K t1 H a xs/\LS K t2 H b ys/\(xs.length<=i∨ys.length<=i)⟩
theorem A6{P:Bn}{w:World}{K:An}{es:List Expr}{k:Nat}{pos:Pos}(t1 t2:Bool)(z p q i1 i2 a b:Addr)(D:Lq z p q i1 i2 a b):
  HL P w K (.Tuple es k pos) (Itz K t1 t2 a b) [z,p,q,i1,i2] z (λi h => ZSt t1 t2 h z p q i1 i2 a b i .none) where
 mem := by simp
 obj := λi h st c hc => by
  simp only[Aj,Ay,or_false] at hc
  rcases hc with rfl|rfl|rfl|rfl|rfl
  ·exact ⟨_,st.zip,λv e => by cases e⟩
  ·exact ⟨_,st.its,λv e => by cases e⟩
  ·obtain⟨u,v,g⟩:=st.res
   exact⟨_,g,λv e=>by cases e⟩
  ·exact st.one.obj
  ·exact st.two.obj
 keep:=λi h h' st kk=>by
  obtain⟨u,v,g⟩:=st.res
  exact⟨kk z (by simp) _ st.zip,kk p (by simp) _ st.its,⟨u,v,kk q (by simp) _ g⟩,st.one.at λo e=>kk i1 (by simp) o e,st.two.at λo e=>kk i2 (by simp) o e⟩
 item:=by
  intro X hP hw hK hc i aa s σ H E I hf st hg
  subst hP hw hK
  obtain⟨xs,ys,x,y,hq1,hq2,hx,hy⟩:=hg
  obtain⟨us,r1,g1,_⟩:=I.srcA hq1
  obtain⟨vs,r2,g2,_⟩:=I.srcA hq2
  obtain⟨u,hu,ru⟩:=r1.get hx
  obtain⟨v,hv,rv⟩:=r2.get hy
  refine GI D st g1 g2 (by simpa using hu) (by simpa using hv) λh1 st1 hp hsz hk=>⟨_,rfl,?_⟩
  refine wpAny_letOwnedTupleGo_zip (s:={s with heap:=h1}) st1.zip λh2 z2 sb=> ?_
  have sb:Ey z h1 h2:=sb
  have lt: ∀c∈[z,p,q,i1,i2],c<s.heap.objs.size:=λc hc=>by
   simp only[Aj,Ay,or_false] at hc
   rcases hc with rfl|rfl|rfl|rfl|rfl
   ·exact Am st.zip
   ·exact Am st.its
   ·obtain⟨u,v,g⟩:=st.res
    exact Am g
   ·obtain⟨o,e,_⟩:=st.one.obj
    exact Am e
   ·obtain⟨o,e,_⟩:=st.two.obj
    exact Am e
  have up: ∀c o,c≠z->h1.get? c=some o->h2.get? c=some o:=λc o hcz e=>(sb.2 c hcz).trans e
  have st2:ZSt t1 t2 h2 z p q i1 i2 a b (i+1) .none:=by
   obtain⟨u',v',g⟩:=st1.res
   exact⟨z2,up _ _ D.TIz st1.its,⟨u',v',up _ _ D.TOz g⟩,st1.one.at λo e=>up _ o D.i1z e,st1.two.at λo e=>up _ o D.i2z e⟩
  have dz:h2.get? s.heap.objs.size=some {cls:= .type "tuple",data:= .seq #[u,v]}:=up _ _ (Fv (lt z (by simp))) hp
  have bm:H s.heap.objs.size=none:=I.hok.fresh (Ap _)
  have I0:cN X aa σ (bA H s.heap.objs.size (.tup [x,y])) {s with heap:=s.heap.push {cls:= .type "tuple",data:= .seq #[u,v]},toks:=s.toks}:=
   I.laid (λc o e=>Ac _ e) (Ap _) ⟨by show 2<=sizeLine;decide,[u,v],.cons ru (.cons rv .nil),Ju _ _⟩
  have I1:cN X aa σ (bA H s.heap.objs.size (.tup [x,y])) {s with heap:=h2,toks:=s.toks}:=by
   refine cN.turnedL (s:={s with heap:=s.heap.push {cls:= .type "tuple",data:= .seq #[u,v]},toks:=s.toks}) (h':=h2) (t':=s.toks) (fp:=[z,p,q,i1,i2]) I0 (λc o hc e=> ?_) (λc hc=> ?_) λc hc=>⟨by rw[bQ (Bf (lt c hc))];exact(hf c hc).1,(hf c hc).2⟩
   ·by_cases hcn:c=s.heap.objs.size
    ·subst hcn
     have e:(s.heap.push {cls:= .type "tuple",data:= .seq #[u,v]}).get? s.heap.objs.size=some o:=e
     rw[Au _ rfl] at e
     cases e
     exact dz
    ·have e':=(Hq _ _ _ hcn).symm.trans e
     exact up c o (λw=>hc (by simp[w])) (hk c o (λw=>hc (by simp[w])) (λw=>hc (by simp[w])) (λw=>hc (by simp[w])) (λw=>hc (by simp[w])) e')
   ·simp only[Aj,Ay,or_false] at hc
    rcases hc with rfl|rfl|rfl|rfl|rfl
    ·exact⟨_,st2.zip⟩
    ·exact⟨_,st2.its⟩
    ·obtain⟨u,v,g⟩:=st2.res
     exact⟨_,g⟩
    ·obtain⟨o,e,_⟩:=st2.one.obj
     exact⟨o,e⟩
    ·obtain⟨o,e,_⟩:=st2.two.obj
     exact⟨o,e⟩
  exact⟨.ref s.heap.objs.size,_,I1,rfl,⟨_,x,y,λzs hz=>by rw[I.sq_inj hz hq1];exact hx,λzs hz=>by rw[I.sq_inj hz hq2];exact hy,bm,rfl,rfl⟩,st2,λc hc=>by
   rw[bQ (Bf (lt c hc))]
   exact(hf c hc).1⟩
 done:=by
  intro X hP hw hK hc i aa s σ H E I hf st hg
  subst hP hw hK
  obtain⟨xs,ys,hq1,hq2,gc⟩:=hg
  obtain⟨us,r1,g1,_⟩:=I.srcA hq1
  obtain⟨vs,r2,g2,_⟩:=I.srcA hq2
  have l1:=r1.length
  have l2:=r2.length
  have he:us.toArray[i]? =none∨vs.toArray[i]? =none:=by
   rcases gc with z|z
   ·exact .inl (by simp;lia)
   ·exact .inr (by simp;lia)
  refine DB (I.ok.hd hc) D st g1 g2 he λh1 hk=>⟨rfl,?_⟩
  have fq: ∀c∈[z,q,i1,i2],c∈[z,p,q,i1,i2]:=λc hc=>by
   simp only[Aj,Ay,or_false] at hc⊢
   rcases hc with w|w|w|w<;>simp[w]
  have I':=cN.turnedL' (s:=s) (h':=h1) (t':=s.toks) (fp:=[z,q,i1,i2]) I (λc o hc e=>hk c o (λw=>hc (by simp[w])) (λw=>hc (by simp[w])) (λw=>hc (by simp[w])) (λw=>hc (by simp[w])) e) λc hc=>hf c (fq c hc)
  exact I'
 self:=λ_ i _ _ _ st h=>wpAny_pyIter_zip st.zip h
section
variable{X:Cx}{K:An}{ml:List Nat}{l m:Expr}{pa ta ia pb tb ib:Bool}{f g:VF}{p pos dh:Pos}{es:List Expr}{tk:Nat}{δ:Ev}
def iZp(K:An)(tl tm:TE):TI:=λσ H R=>tl σ H λx H1=>tm σ H1 λy H2=> ∃a b t1 t2,x= .ref a/\y= .ref b/\(∃xs,LS K t1 H2 a xs)/\(∃ys,LS K t2 H2 b ys)/\R (Itz K t1 t2 a b) H2
theorem zFV{tl tm:TE}(hg:Gl X "zip") (hm:X.mg "zip"=none) (hl:PE X l tl) (hr:PE X m tm) (he:Ah (l::[m]) X.env=(false,eval l X.env)::Ah [m] X.env:=by rfl) (he2:Ah (m::[]) X.env=(false,eval m X.env)::Ah [] X.env:=by rfl)
  (hpl : (Ez pos (Ah [m] X.env)).any (·.1) = false := by rfl) : PI X (.Tuple es tk dh) (.Call (.Name "zip" p) [l,m] [] pos) (iZp X.K tl tm) := by
 intro aa s σ H R I h
 refine Fc (SF I hg hm zIA ?_ (by decide) (by decide))
 refine Dy (ZG (bW hl (bW hr ZR he2) he pos aa s σ H (λvs H1=>match vs with
  |[x,y]=> ∃a b t1 t2,x= .ref a/\y= .ref b/\(∃xs,LS X.K t1 H1 a xs)/\(∃ys,LS X.K t2 H1 b ys)/\R (Itz X.K t1 t2 a b) H1
  |_=>False) I h) λus s1 ⟨vs,H1,I1,r1,q1⟩=> ?_) he hpl
 match vs,r1,q1 with
 |[x,y],r1,q1=>
  obtain⟨a,b,t1,t2,rfl,rfl,⟨xs,hq1⟩,⟨ys,hq2⟩,hR⟩:=q1
  obtain⟨u,v,rfl,ru,rv⟩:=FO r1
  cases ru
  cases rv
  obtain⟨us,w1,g1,_⟩:=I1.srcA hq1
  obtain⟨vs,w2,g2,_⟩:=I1.srcA hq2
  refine CL g1 g2 λh' st kp=> ?_
  have I2:cN X aa σ H1 {s1 with heap:=h'}:=I1.kept (t':=s1.toks) kp
  have ha:=g1.lt
  have hb:=g2.lt
  have D:Lq (s1.heap.objs.size+4) (s1.heap.objs.size+2) (s1.heap.objs.size+3) s1.heap.objs.size (s1.heap.objs.size+1) a b:=by exact zEF _ a b ha hb
  refine wpAny_pyIter_zip st.zip ⟨s1.heap.objs.size+4,[s1.heap.objs.size+4,s1.heap.objs.size+2,s1.heap.objs.size+3,s1.heap.objs.size,s1.heap.objs.size+1],_,Itz X.K t1 t2 a b,H1,rfl,I2,A6 t1 t2 _ _ _ _ _ a b D,st,λc hc=> ?_,hR⟩
  have hc':s1.heap.objs.size<=c:=by
   simp only[Aj,Ay,or_false] at hc
   rcases hc with w|w|w|w|w<;>rw[w]<;>first|exact Nat.le_add_right _ _|exact Ap _
  exact I1.fpOk hc' (I1.hok.fresh hc')
theorem zK7(h:X.K=K){tl tm:TE}(hg:Gl X "zip") (hm:X.mg "zip"=none) (hl:PE X l tl) (hr:PE X m tm) (he:Ah (l::[m]) X.env=(false,eval l X.env)::Ah [m] X.env:=by rfl) (he2:Ah (m::[]) X.env=(false,eval m X.env)::Ah [] X.env:=by rfl)
  (hpl:(Ez pos (Ah [m] X.env)).any (·.1)=false:=by rfl):PI X (.Tuple es tk dh) (.Call (.Name "zip" p) [l,m] [] pos) (iZp K tl tm):=by subst h;exact zFV hg hm hl hr he he2 hpl
noncomputable def XT:List dE->List dE->List dE
 |d::ds,e::es=> .tup [d,e]::XT ds es
 |_,_=>[]
noncomputable def CZ(f g:VF):VI:=λδ=>(f δ).bind λp=>(g p.2).bind λq=>(YV p.1).bind λds=>(YV q.1).map λes=>(XT ds es,q.2)
theorem J3: ∀{ds es:List dE} {i:Nat} {d:dE},(XT ds es)[i]? =some d-> ∃x y,ds[i]? =some x/\es[i]? =some y/\d= .tup [x,y]
 |[],_,_,_,h=>by simp[XT] at h
 |_::_,[],_,_,h=>by simp[XT] at h
 |x::ds,y::es,0,d,h=>by simp[XT] at h;exact⟨x,y,rfl,rfl,h.symm⟩
 |x::ds,y::es,i+1,d,h=>by
  obtain⟨x',y',h1,h2,h3⟩:=J3 (ds:=ds) (es:=es) (i:=i) (d:=d) (by simpa[XT] using h)
  exact⟨x',y',by simpa using h1,by simpa using h2,h3⟩
theorem J4: ∀{ds es:List dE},ds.length<=(XT ds es).length∨es.length<=(XT ds es).length
 |[],_=> .inl (Dc _)
 |_::_,[]=> .inr (Dc _)
 |x::ds,y::es=>by
  rcases J4 (ds:=ds) (es:=es) with h|h
  ·exact .inl (Nz h)
  ·exact .inr (Nz h)
def zKD:dE->Bool
 | .tup _=>true
 |_=>false
theorem bG.sqA{N M:Addr->Prop}{H:Hp}{v:V}{d:dE}{ds:List dE}(h:bG K N H M v d)(e:YV d=some ds): ∃a tup xs,v= .ref a/\LS K tup H a xs/\cO K N H xs ds/\tup=zKD d:=by
  cases d<;>first
    | (cases e
       obtain⟨a,xs,h1,h2,h3⟩:=h.tupE
       exact⟨a,true,xs,h1,h2,h3,rfl⟩)
    | (cases e
       obtain⟨a,xs,h1,h2,h3⟩:=h.lstE
       exact⟨a,false,xs,h1,h2,h3,rfl⟩)
    |cases e
theorem HF(hK:X.K=K)(hg:Gl X "zip") (hm:X.mg "zip"=none) (h:PE X l (TV K ml pa true true f)) (h':PE X m (TV K ml pb true true g)) (he:Ah (l::[m]) X.env=(false,eval l X.env)::Ah [m] X.env:=by rfl) (he2:Ah (m::[]) X.env=(false,eval m X.env)::Ah [] X.env:=by rfl)
  (hpl : (Ez pos (Ah [m] X.env)).any (·.1) = false := by rfl) : PI X (.Tuple es tk dh) (.Call (.Name "zip" p) [l,m] [] pos) (CG K ml (pa && pb) (CZ f g)) := (zK7 (K := K) hK hg hm h h' he he2 hpl).imp λσ H R ⟨B,O,δ,ds,δ2,S,q,k⟩ => by
 unfold CZ at q
 cases h1:f δ with
 | none => rw [h1] at q;cases q
 |some p1=>
  obtain⟨x,δ1⟩:=p1
  rw[h1] at q
  cases h2:g δ1 with
  | none => simp [h2] at q
  |some p2=>
   obtain⟨y,δ3⟩:=p2
   simp only[Ak,h2] at q
   cases h3:YV x with
   | none => rw [h3] at q;cases q
   |some xs=>
    rw[h3] at q
    have q:(YV y).map (λes=>(XT xs es,δ3))=some (ds,δ2):=q
    cases h4:YV y with
    | none => rw [h4] at q;cases q
    |some ys=>
     rw[h4] at q
     cases q
     refine⟨B,O,δ,x,δ1,S,h1,λv1 H1 R1=>⟨B,O,δ1,y,_,R1.sta,h2,λv2 H2 R2=> ?_⟩⟩
     have r1:=R1.rep.fr R2.frm (λa z=> .inr z) λa z=> .inr z
     obtain⟨a,t1,us,e1,q1,w1,et1⟩:=r1.sqA h3
     obtain⟨b,t2,vs,e2,q2,w2,et2⟩:=R2.rep.sqA h4
     refine⟨a,b,t1,t2,e1,e2,⟨us,q1⟩,⟨vs,q2⟩,k _ [(v1,x),(v2,y)] H2 (R2.sta.keepV λz hz=> ?_) (R1.frm.trans R2.frm) (λz=> ?_) ?_⟩
     ·simp only[Aj,Ay,or_false] at hz
      rcases hz with rfl|rfl
      ·exact r1
      ·exact R2.rep
     ·obtain⟨z1,z2⟩:=(Af _ _).mp z
      exact(R1.pur z1).trans (R2.pur z2)
     ·intro N H h
      obtain⟨a',t1',us',f1,f2,f3,f4⟩:=(h (v1,x) (by simp)).sqA h3
      obtain⟨b',t2',vs',g1,g2,g3,g4⟩:=(h (v2,y) (by simp)).sqA h4
      have f1:v1= .ref a':=f1
      have g1:v2= .ref b':=g1
      rw[e1] at f1
      rw[e2] at g1
      cases f1
      cases g1
      have:t1'=t1:=f4.trans et1.symm
      subst this
      have:t2'=t2:=g4.trans et2.symm
      subst this
      refine⟨λi d e=> ?_,us',vs',f2,g2,?_⟩
      ·obtain⟨dx,dy,hx,hy,rfl⟩:=J3 e
       obtain⟨ux,ex,rx⟩:=f3.get hx
       obtain⟨uy,ey,ry⟩:=g3.get hy
       refine⟨⟨us',vs',ux,uy,f2,g2,ex,ey⟩,λz H' hz=> ?_⟩
       obtain⟨pp,x',y',c1,c2,hp,rfl,rfl⟩:=hz
       have d1:=c1 us' f2
       have d2:=c2 vs' g2
       rw[ex] at d1
       rw[ey] at d2
       cases d1
       cases d2
       exact⟨cZ hp,.tup (WC.of cH) (.cons (rx.same (cZ hp)) (.cons (ry.same (cZ hp)) .nil))⟩
      ·rcases J4 (ds:=xs) (es:=ys) with w|w
       ·exact .inl (by rw[f3.length];exact w)
       ·exact .inr (by rw[g3.length];exact w)
end
end L2
namespace L2
open PySem PySem.Spec PyProof.Rows PySem.W
section
variable{prog:Bn}{w:World}{A:Cy}{E:Value->Ag->Prop}{s:Ag}
theorem G9{t:Addr}{items:Array Value}{Q:List Value->Ag->Prop}(hh:A.handled=none)(ht:IsTup s.heap t items)(h1:1<=items.size)(hz:items.size<=16777216)
  (hQ: ∀(x:Value) (hb:Heap) (tk:Nat),items[0]? =some x->(∀b o,s.heap.get? b=some o->hb.get? b=some o)->Q [x,.ref hb.objs.size] {s with heap:=hb.push {cls:= .type "list",data:= .seq (items.toList.drop 1).toArray},toks:=tk}):
  wpAny (model prog w) A (Im (.ref t) 2 (some 1)) Q E s:=by
 have hne:t≠s.heap.objs.size:=by obtain⟨o,e,_⟩:=ht;exact Bf (Am e)
 (unfold Im)
 refine Aa ?_
 (unfold notIterableAtAll)
 refine Aa (wpAny_specialOf ht.typeIs slot_tuple_iter.lookup (Ai ?_))
 simp only[Fd,if_false]
 refine Aa (Ce (iter_tuple ht (Aa (Ce (draw_tuple hne 1 0 _ _ ⟨_,Au _ rfl,rfl,rfl⟩ (ht.push _) (by lia) λha ia ba=> ?_)))))
 have ta:IsTup ha t items:=(ht.push _).extBut ba.extBut hne
 have ia:ha.IsTupleIter s.heap.objs.size t 1:=ia
 obtain⟨oi,gi,_⟩:=id ia
 obtain⟨ot,gt,_⟩:=id ta
 have hsz:ha.objs.size=s.heap.objs.size+1:=by rw[ba.1,Cw]
 have q9:((items.toList.drop 0).take 1).length=1:=by simp;lia
 rw[if_neg (show¬((items.toList.drop 0).take 1).length<1 by rw[q9];exact Ca _)]
 refine Aa (Ce (kun_collect (s:={s with heap:=ha}) (T:= "tuple_iterator") (.inr (.inr (.inr rfl))) (Walks.tuple (A:=A.in1) hh s.heap.objs.size t hne items) (λj u st=>st.1.typeIs) (k:=1) h1 ⟨ia,ta⟩ (Am gi) (Am gt) (λhb tk kb=> ?_) (by rw[Db];exact hz)))
 have rf:(items.toList.drop 1).length=items.size - 1:=by simp
 show wpAny _ _ (if(items.toList.drop 1).length<2 - 1 - 1 then _ else _) _ _ _
 rw[if_neg (Pd _)]
 show wpAny _ _ (Ql ((items.toList.drop 1).take ((items.toList.drop 1).length - (2 - 1 - 1)))>>=λd=>pure ((items.toList.drop 0).take 1++[d]++(items.toList.drop 1).drop ((items.toList.drop 1).length - (2 - 1 - 1)))) _ _ _
 have e1:(items.toList.drop 1).take ((items.toList.drop 1).length - (2 - 1 - 1))=items.toList.drop 1:=Cg (Ap _)
 have e2:(items.toList.drop 1).drop ((items.toList.drop 1).length - (2 - 1 - 1))=[]:=Eo
 rw[e1,e2]
 refine Aa (Cu (Ai ?_) (by show _<=sizeLine;rw[Db];simp;lia))
 obtain⟨x,hx⟩: ∃x,items[0]? =some x:=⟨items[0],by simp[show 0<items.size by lia]⟩
 have e3:(items.toList.drop 0).take 1=[x]:=by
  rw[Jq]
  have:items.toList[0]? =some x:=by simpa using hx
  cases hl:items.toList with
  |nil=>rw[hl] at this;cases this
  |cons y r=>rw[hl] at this;cases this;rfl
 rw[e3]
 have keep: ∀b o,s.heap.get? b=some o->hb.get? b=some o:=λb o e=>kb b o (Bf (Am e)) (ba.extBut b o (Bf (Am e)) (Ac _ e))
 exact hQ x hb tk hx keep
end
section
variable{X:Cx}{K:An}{ml:List Nat}{e a b c:Expr}{es:List Expr}{pa ta ia pb tb ib pc tc ic pu bt bi ps bs:Bool}{fa fb fc f:VF}{B B':Bs}{O:Nat->Option Addr}{H H0 H1 H':Hp}{σ:St}{δ δ':Ev}{v:V}{d:dE}{p:Addr}{pos:Pos}
def zKI(K:An)(i j:Nat):TG:=λv σ H Q=> ∃a x xs,v= .ref a/\WC K H a (x::xs)/\ ∀p,H p=none->Q ((σ.set i (some x)).set j (some (.ref p))) (bA H p (.lst xs))
theorem zCP{i j:Nat}{x y:Str}{px py ps tp:Pos}{k:Nat}(hc:X.calm=true)(hN:X.N.Nodup)(hi:X.N[i]? =some x)(hj:X.N[j]? =some y)(hx:B6 X.env.scope x)(hy:B6 X.env.scope y)
  (fx:X.fn x=true∨X.env.scope.names.lookup x=some .local) (fy:X.fn y=true∨X.env.scope.names.lookup y=some .local)
  (hl:(assignEach [.Name x px,.Starred (.Name y py) ps] X.env).map (·.2)=[assign (.Name x px) X.env,assign (.Name y py) X.env]) (hn:(assignEach [.Name x px,.Starred (.Name y py) ps] X.env).length=2) (hst:(assignEach [.Name x px,.Starred (.Name y py) ps] X.env).findIdx? (·.1)=some 1):
  PG X (.Tuple [.Name x px,.Starred (.Name y py) ps] k tp) (zKI X.K i j):=by
 intro aa s σ H v u Q I r hw
 obtain⟨a,z,zs,e1,hq,q⟩:=hw
 subst e1
 cases r
 obtain⟨its,rv,ht,hz⟩:=I.tuple hq
 rw[assign_Tuple]
 refine Aa (Dq ?_)
 (unfold unpack)
 rw[hn,hst]
 have ai:=rv.length
 rw[Bo] at ai
 have hz':its.length<=16777216:=by rw[<- Db,<- ai];exact hz
 refine Aa (Ce (G9 (I.ok.hd hc) ht (by rw[Aq];lia) (by rw[Aq];exact hz') λu hb tk hu kp=> ?_))
 rw[hl]
 cases rv with
 | @cons _ w _ ws rz rzs=>
  have hu:some w=some u:=by simpa using hu
  cases hu
  have I1:cN X aa σ H {s with heap:=hb,toks:=tk}:=I.kept kp
  have I2:=cN.lnew (s:={s with heap:=hb,toks:=tk}) (t':=tk) I1 rzs (by rw[Db];simp only[Bo] at hz' ai;have:=rzs.length;lia)
  refine Dx (Gb (YG I2 hN hi hx rz (λs3 I3=> ?_) fx))
  refine Dx (Gb (YG I3 hN hj hy (v:= .ref hb.objs.size) rfl (λs4 I4=>Hl ⟨_,_,I4,q _ (I1.hok.fresh (Ap _))⟩) fy))
noncomputable def MT(i j:Nat)(f:VF):VS:=λδ=>(f δ).bind λp=>match p.1 with
 | .tup (d::ds)=>some (.nx ((p.2.set i (.va d)).set j (.va (.lst ds))))
 |_=>none
theorem FR{i j:Nat}{x y:Str}{px py sp tp:Pos}{k:Nat}(hK:X.K=K)(hc:X.calm=true)(hN:X.N.Nodup)(hi:X.N[i]? =some x)(hj:X.N[j]? =some y)(hij:i≠j)(hx:B6 X.env.scope x)(hy:B6 X.env.scope y)(he:PE X e (TV K ml pu true true f))
  (hmi : i ∉ ml := by decide) (hmj : j ∉ ml := by decide)
  (fx : X.fn x = true ∨ X.env.scope.names.lookup x = some .local := by first | exact .inl rfl | exact .inr rfl | assumption) (fy : X.fn y = true ∨ X.env.scope.names.lookup y = some .local := by first | exact .inl rfl | exact .inr rfl | assumption)
  (hl : (assignEach [.Name x px,.Starred (.Name y py) sp] X.env).map (·.2) = [assign (.Name x px) X.env,assign (.Name y py) X.env] := by rfl) (hn : (assignEach [.Name x px,.Starred (.Name y py) sp] X.env).length = 2 := by rfl) (hst : (assignEach [.Name x px,.Starred (.Name y py) sp] X.env).findIdx? (·.1) = some 1 := by rfl)
  (hs : Fa [.Tuple [.Name x px,.Starred (.Name y py) sp] k tp] e pos.line X.env = pure false := by rfl) (hw : Fb [.Tuple [.Name x px,.Starred (.Name y py) sp] k tp] e X.env = pure none := by rfl)
  (h1 : (assignEach [.Tuple [.Name x px,.Starred (.Name y py) sp] k tp] X.env).map (·.2) = [assign (.Tuple [.Name x px,.Starred (.Name y py) sp] k tp) X.env] := by rfl) :
  PS X (.Assign [.Tuple [.Name x px,.Starred (.Name y py) sp] k tp] e pos) (TM K ml (MT i j f)):=by
 subst hK
 refine(LC he (zCP hc hN hi hj hx hy fx fy hl hn hst) hs hw h1).imp λD σ H ⟨B,O,δ,o,S,q,k⟩=> ?_
 unfold MT at q
 cases h1:f δ with
 | none => rw [h1] at q;cases q
 |some p1=>
  obtain⟨z,δ1⟩:=p1
  rw[h1] at q
  refine⟨B,O,δ,z,δ1,S,h1,λv H1 R=> ?_⟩
  cases z with
  |tup ds=>
   cases ds with
   | nil => cases q
   |cons d ds=>
    cases q
    obtain⟨a,xs,rfl,sq,r⟩:=R.rep.tupE
    cases r with
    | @cons v0 vs _ _ r1 r2=>
     refine⟨a,v0,vs,rfl,sq,λp hp=> ?_⟩
     have S1:=(R.sta.same (cZ (o:= .lst vs) hp)).setVa hmi (r1.same (cZ (o:= .lst vs) hp))
     have N1: ∀c,Nn B (λj=>if j=i then none else O j) c->Nn B O c:=P0 (o:=none)
     refine k _ _ _ (S1.setVa hmj (.lst cH (λz=>R.sta.new hp (N1 _ z)) ((r2.same (cZ hp)).mono N1)))
  |_=>cases q
end
end L2
namespace L2
open PySem PySem.Spec PyProof.Rows
section
variable{X:Cx}{K:An}{ml:List Nat}{e a b c:Expr}{es:List Expr}{pa ta ia pb tb ib pc tc ic pu bt bi ps bs:Bool}{fa fb fc f:VF}{B B':Bs}{O:Nat->Option Addr}{H H0 H1 H':Hp}{σ:St}{δ δ':Ev}{v:V}{d:dE}{p:Addr}{pos:Pos}
def rInD(K:An)(neg:Bool):R2:=λx y H Q=> ∃d e ds,Dp K H x d/\Dp K H y e/\(e= .list ds∨e= .tuple ds)/\Ej d=true/\Ej e=true/\Q (.bl (if neg then !ds.any (λz=>Ih z d) else ds.any λz=>Ih z d)) H
theorem RP{d:Ly}(h:Ej d=true):d.canLay0=true/\d.depth<=64:=by
 unfold Ej at h
 simp only[Af,decide_eq_true_eq] at h
 exact h
theorem zAN(neg:Bool)(hu:X.A.units+64<cLine):WT X (De (if neg then .NotIn else .In)) (rInD X.K neg):=by
 intro aa s σ H x y v u Q I rx ry h
 obtain⟨d,e,ds,hd,he,hk,sd,se,q⟩:=h
 obtain⟨as,h1⟩:=I.reads hd rx
 obtain⟨bs,h2⟩:=I.reads he ry
 obtain⟨c1,d1⟩:=RP sd
 obtain⟨c2,d2⟩:=RP se
 have fin: ∀k,(k=if neg then !ds.any (λz=>Ih z d) else ds.any λz=>Ih z d)->EP X aa σ Q (.bool k) s:=λk hk=>by subst hk;exact⟨.bl _,H,I,rfl,q⟩
 rcases hk with rfl|rfl
 ·have hc : Hr ds = true := by simpa [Fo] using c2
  have qu:Es ds<=63:=by simp only[Hu] at d2;lia
  have hm:X.A.units+1+min (Es ds) d.depth<cLine:=by have:=Pe (Es ds) d.depth;lia
  cases neg with
  |false=>exact SeqAt.in_list_reads h2 h1 hc c1 hm (fin _ rfl)
  |true=>exact SeqAt.notIn_list_reads h2 h1 hc c1 hm (fin _ rfl)
 ·have hc : Hr ds = true := by simpa [Fo] using c2
  have qu:Es ds<=63:=by simp only[Hu] at d2;lia
  have hm:X.A.units+1+min (Es ds) d.depth<cLine:=by have:=Pe (Es ds) d.depth;lia
  cases neg with
  |false=>exact SeqAt.in_tuple_reads h2 h1 hc c1 hm (fin _ rfl)
  |true=>exact SeqAt.notIn_tuple_reads h2 h1 hc c1 hm (fin _ rfl)
theorem V9(h:X.K=K)(hu:X.A.units+64<cLine):WT X (De .In) (rInD K false):=by subst h;exact zAN false hu
theorem T5(h:X.K=K)(hu:X.A.units+64<cLine):WT X (De .NotIn) (rInD K true):=by subst h;exact zAN true hu
def OY(d:dE)(ds:List dE):Bool:=(BY ds).any λz=>Ih z d.pd
noncomputable def aN(neg:Bool)(d e:dE):Option dE:=(YV e).bind λds=>if(MK d && MK e)=true then some (.bl (if neg then !OY d ds else OY d ds)) else none
theorem ZO{neg:Bool}:PQ K (rInD K neg) (aN neg):=by
 intro H N N' M M' x y d e c Q hx hy h k
 unfold aN at h
 cases hs:YV e with
 | none => rw [hs] at h;cases h
 |some ds=>
  rw[hs] at h
  have h:(if(MK d && MK e)=true then some (dE.bl (if neg then !OY d ds else OY d ds)) else none)=some c:=h
  split at h
  ·rename_i hh
   cases h
   simp only[MK,Af] at hh
   refine⟨d.pd,e.pd,BY ds,hx.dp hh.1.1,hy.dp hh.2.1,?_,hh.1.2,hh.2.2,k _ λ_ _ _=> .bl _⟩
   cases e<;>first
    |(cases hs;exact .inr rfl)
    |(cases hs;exact .inl rfl)
    |cases hs
  ·cases h
def zIS(K:An)(td ty:TE):TE:=λσ H Q=>td σ H λx H1=> ∃a,x= .ref a/\((IsD H1 a/\ty σ H1 λy H2=> ∃o,P6 H2 a y o/\Q (o.getD .non) H2)∨ ∃D,KTab K a D/\ty σ H1 λy H2=> ∃k,y= .str k/\Q ((Fg k D).getD .non) H2)
theorem zAF{aq af:Pos}{td ty:TE}(hu:X.A.units+1<cLine)(ho:PE X a td)(he:PE X e ty)(m:M1 X a "get" aq e af):PE X (.Call (.Attribute a "get" aq) [e] [] af) (zIS X.K td ty):=by
 intro aa s σ H Q I h
 refine Nb m.base m.few m.line Ki Dv Li (ZG (ho aa s σ H _ I h) λu s1 ⟨x,H1,I1,rx,l,ex,q1⟩=> ?_)
 subst ex
 obtain rfl:u=Bq l:=rx
 rcases q1 with⟨hd,q1⟩|⟨D,T,q1⟩
 ·obtain⟨t1,t2,_⟩:=zB8 I1 hd
  refine⟨t1,t2,?_⟩
  rw[m.trees]
  refine Fp rfl (Gg (Ft (ZG (he aa s1 σ H1 _ I1 q1) λiv s2 ⟨y,H2,I2,ry,ov,g,q2⟩=>Hm ?_)))
  exact zI5 hu I2 g ry λw' s3 I3 rw'=>⟨_,H2,I3,rw',q2⟩
 ·obtain⟨qf,o,rh,ep,hk,hex,da,_⟩:=id T
  refine⟨⟨o,I1.kIn _ _ hk,hex.1⟩,λb q=> ?_,?_⟩
  ·cases q
   exact⟨o,I1.kIn _ _ hk,hex.2.1⟩
  rw[m.trees]
  refine Fp rfl (Gg (Ft (ZG (he aa s1 σ H1 _ I1 q1) λiv s2 ⟨y,H2,I2,ry,k,ey,q2⟩=>Hm ?_)))
  subst ey
  obtain⟨t,rfl⟩:=ry
  have hT:s2.TypeIs (.ref l) "dict":=⟨o,I2.kIn _ _ hk,hex.1⟩
  refine Ec Dv hT Eu ?_ (Hd _ _)
  show wpAny _ _ (dictGet l (.str k t)>>=_) _ _ s2
  refine Aa (IG I2.kIn T (λd' v' ha hv=>Ai ⟨v',rfl,?_⟩) λhn=> ?_)
  ·rw[ha] at q2
   exact⟨d',H2,I2.tok _,hv,q2⟩
  ·rw[hn] at q2
   show wpAny _ _ (Mg l (.str k t)>>=_) _ _ _
   unfold Mg
   rw[if_neg (by rw[qf];exact Dd)]
   exact Aa (Ai (Ai ⟨.none,rfl,.non,H2,I2.tok _,rfl,q2⟩))
noncomputable def zDZ:dE->dE->Option dE
 | .dct ks ds,.str x=>some ((bO ks ds (.inr x)).getD .non)
 |_,_=>none
theorem zC1{aq af:Pos}(hK:X.K=K)(hu:X.A.units+1<cLine)(ha:PE X a (TV K ml pa ta ia fa))(hb:PE X b (TV K ml pb tb ib fb))(m:M1 X a "get" aq b af) (hs:(pb || (ta && ia))=true:=by rfl):
  PE X (.Call (.Attribute a "get" aq) [b] [] af) (TV K ml (pa && pb) ia ia (f2 zDZ fa fb)):=by
 subst hK
 refine(zAF hu ha hb m).imp λσ H Q ⟨B,O,δ,d,δ2,S,q,k⟩=> ?_
 obtain⟨x,δ1,y,h1,h2,h3⟩:=QJ q
 refine⟨B,O,δ,x,δ1,S,h1,λv1 H1 R1=> ?_⟩
 have fin : ∀ v2 H2 (R2 : Res X.K ml B O H1 σ pb tb ib H2 δ2 v2 y) o,bG X.K (av B O ia) H2 (av B O ia) o d -> Q o H2 := λv2 H2 R2 o ho => k o H2 ⟨R2.sta,R1.frm.trans R2.frm,λz => by
  obtain⟨z1,z2⟩:=(Af _ _).mp z
  exact(R1.pur z1).trans (R2.pur z2),ho.mono (λ_ z=>z) zEC⟩
 cases x with
 |dct ks ds=>
  cases y with
  |str z=>
   cases h3
   generalize hx:dE.dct ks ds=dd at R1
   have r1:=R1.rep
   cases r1 with
   | @dct _ l kvs ds' qd n r=>
    cases hx
    refine⟨l,rfl,.inl ⟨.inl ⟨_,.inl qd⟩,B,O,δ1,_,δ2,R1.sta,h2,λv2 H2 R2=> ?_⟩⟩
    have r2:=R2.rep
    cases r2
    have h4:H2 l=some (.dK kvs)/\cO X.K (av B O ia) H2 (kvs.map Eg) ds:=by
     cases pb with
     |true=>exact⟨R2.pur rfl _ _ qd,r.same (R2.pur rfl)⟩
     |false=>
      have hs:(ta && ia)=true:=by simpa using hs
      obtain⟨z1,z2⟩:=(Af _ _).mp hs
      subst z1 z2
      exact⟨R2.frm _ _ qd λw=>absurd (.inr w) n,r.fr R2.frm λa z=> .inr z⟩
    refine⟨_,P6.k (k:= .inr z) h4.1,fin _ _ R2 _ ?_⟩
    rcases RF (k:= .inr z) h4.2 with⟨v,d',g1,g2,g3⟩|⟨g1,g2⟩
    ·rw[g1,g2];exact g3
    ·rw[g1,g2];exact .non
   | @ktb _ l D ds' T r=>
    cases hx
    refine⟨l,rfl,.inr ⟨D,T,B,O,δ1,_,δ2,R1.sta,h2,λv2 H2 R2=> ?_⟩⟩
    have r2:=R2.rep
    cases r2
    refine⟨z,rfl,fin _ _ R2 _ ?_⟩
    have r':cO X.K (av B O ia) H2 (D.map Eg) ds:=by
     cases pb with
     |true=>exact r.same (R2.pur rfl)
     |false=>
      have hs:(ta && ia)=true:=by simpa using hs
      obtain⟨z1,z2⟩:=(Af _ _).mp hs
      subst z1 z2
      exact r.fr R2.frm λa z=> .inr z
    rcases QH (k:=z) r' with⟨v,d',g1,g2,g3⟩|⟨g1,g2⟩
    ·rw[g1,g2];exact g3
    ·rw[g1,g2];exact .non
   |_=>cases hx
  |_=>cases h3
 |_=>cases h3
end
theorem zBR:Bg "all"=some (.builtin "all"):=by decide+kernel
theorem zDD:Bg "dict"=some (.type "dict"):=by decide+kernel
section
variable{X:Cx}{K:An}{ml:List Nat}{e a b c:Expr}{es:List Expr}{pa ta ia pb tb ib pc tc ic pu bt bi ps bs:Bool}{fa fb fc f:VF}{B B':Bs}{O:Nat->Option Addr}{H H0 H1 H':Hp}{σ:St}{δ δ':Ev}{v:V}{d:dE}{p:Addr}{pos:Pos}
theorem zDG{ks:List Bool}{us:List Value}(r:bT (ks.map V.bl) us){i:Nat}{u:Value}(h:us[i]? =some u): ∃k,ks[i]? =some k/\u= .bool k:=by
 have hl:=r.length
 rw[Ck] at hl
 have hi:i<us.length:=(Ad.mp h).1
 have e:(ks.map V.bl)[i]? =some (.bl ks[i]):=by simp[hl▸hi]
 obtain⟨w,h1,h2⟩:=r.get e
 rw[h] at h1
 cases h1
 exact⟨ks[i],by simp[hl▸hi],h2⟩
theorem DK{ks:List Bool}:(Ar ks.length).all (λi=>(ks[i]?).getD true)=ks.all id:=by
 induction ks with
 |nil=>rfl
 |cons k ks ih=>
  rw[Bo,Hj,Qm,Qu,Qm,<- ih]
  rfl
def E7(K:An)(g:List Bool->Bool):RC:=λxs H Q=> ∃p ks,xs=[.ref p]/\W8 K H p (ks.map V.bl)/\Q (.bl (g ks)) H
theorem A5{prog:Bn}{w:World}{A:Cy}{ks:List Bool}{us:List Value}(r:bT (ks.map V.bl) us):TruthOf prog w A (λi v=>us.toArray[i]? =some v) λi=>(ks[i]?).getD true:=by
 intro i v s Q E hP hQ
 obtain⟨k,h1,rfl⟩:=zDG r (by simpa using hP)
 have hQ:Q ((ks[i]?).getD true) s:=hQ
 rw[h1] at hQ
 exact Ds hQ
theorem CJ(hc:X.calm=true):Z4 X (.builtin "all") (E7 X.K λks=>ks.all id):=by
 intro aa s σ H xs us Q I r h
 obtain⟨l,ks,rfl,hq,q⟩:=h
 obtain⟨u,rfl,rx⟩:=SX r
 cases rx
 obtain⟨its,rv,pl,hz⟩:=I.list hq
 have hl:=pl.isList
 have hne:l≠s.heap.objs.size:=by obtain⟨o,g,_⟩:=hl;exact Bf (Am g)
 have ai:=rv.length
 rw[Ck] at ai
 refine call_all_walk (Gd hl ⟨_,_,_,_,_,_,_,rfl,Walks.list (show X.A.in1.handled=none from I.ok.hd hc) s.heap.objs.size l hne its.toArray,⟨⟨_,Au _ rfl,rfl,rfl⟩,?_⟩,A5 rv,λh' tk hk=> ?_⟩)
 ·obtain⟨o,g,r⟩:=hl
  exact⟨o,Ac _ g,r⟩
 ·rw[Aq,<- ai,DK]
  exact⟨.bl _,H,I.kept (t':=tk) λb o g=>hk b o (by simp;exact Bf (Am g)) (Ac _ g),rfl,q⟩
theorem kAll(h:X.K=K)(hc:X.calm=true):Z4 X (.builtin "all") (E7 K λks=>ks.all id):=by subst h;exact CJ hc
noncomputable def QE:List dE->Option (List Bool)
 |[]=>some []
 | .bl k::ds=>(QE ds).map λks=>k::ks
 |_=>none
theorem D8{N:Addr->Prop}: ∀{xs:List V} {ds:List dE} {ks:List Bool},cO K N H xs ds->QE ds=some ks->xs=ks.map V.bl
 | _,_,_,.nil,h => by cases h;rfl
 | _,_,_,@cO.cons _ _ _ v vs d ds h t,e => by
  cases d with
  |bl k=>
   cases h
   have e:(QE ds).map (λks=>k::ks)=some _:=e
   cases h2:QE ds with
   |none=>rw[h2] at e;cases e
   |some ks'=>
    rw[h2] at e
    cases e
    rw[D8 t h2,Az]
  |_=>cases e
noncomputable def zAU(g:List Bool->Bool):dE->Option dE
 | .lst ds=>(QE ds).map λks=> .bl (g ks)
 |_=>none
abbrev oAll:=zAU λks=>ks.all id
theorem zFF{g:List Bool->Bool}:CalS K (E7 K g) (zAU g):=by
 intro H N M x d c Q hx h k
 cases d with
 |lst ds=>
  have h:(QE ds).map (λks=>dE.bl (g ks))=some c:=h
  cases h1:QE ds with
  |none=>rw[h1] at h;cases h
  |some ks=>
   rw[h1] at h
   cases h
   obtain⟨a,xs,rfl,sq,r⟩:=hx.lstE
   have:=D8 r h1
   subst this
   exact⟨a,ks,rfl,sq,k _ λ_ _ _=> .bl _⟩
 |_=>cases h
theorem zDN:CalS K (E7 K λks=>ks.all id) oAll:=zFF
noncomputable def WO:List dE->Option (List Int)
 |[]=>some []
 | .int i::ds=>(WO ds).map λns=>i::ns
 |_=>none
theorem N4{N:Addr->Prop}: ∀{xs:List V} {ds:List dE} {ns:List Int},cO K N H xs ds->WO ds=some ns->xs=ns.map V.int
 | _,_,_,.nil,h => by cases h;rfl
 | _,_,_,@cO.cons _ _ _ v vs d ds h t,e => by
  cases d with
  |int k=>
   cases h
   have e:(WO ds).map (λks=>k::ks)=some _:=e
   cases h2:WO ds with
   |none=>rw[h2] at e;cases e
   |some ks'=>
    rw[h2] at e
    cases e
    rw[N4 t h2,Az]
  |_=>cases e
theorem JH{N:Addr->Prop}: ∀ns:List Int,cO K N H (ns.map V.int) (ns.map dE.int)
 |[]=> .nil
 |i::ns=> .cons (.int i) (JH ns)
theorem rngI{a:Int}{n:Nat}{acc:Array Value}(h:ItemsOf (λi v=> ∃t,v= .int (a+i*1) t) acc n):bT ((Ar n).map λi:Nat=>V.int (a+i)) acc.toList:=by
 obtain⟨h1,h2⟩:=h
 have go: ∀(m:Nat) (us:List Value),us.length=m-> ∀k:Nat,(∀(i:Nat) (v:Value),us[i]? =some v-> ∃t,v= .int (a+((k+i:Nat):Int)*1) t)->bT ((Ar m).map λi:Nat=>V.int (a+((k+i:Nat):Int))) us:=by
  intro m
  induction m with
  | zero => intro us hl k _;rw [Fl.mp hl];exact .nil
  |succ m ih=>
   intro us hl k hu
   cases us with
   | nil => cases hl
   |cons u us=>
    rw[Hj,Az,Ln]
    obtain⟨t,ht⟩:=hu 0 u rfl
    refine .cons ⟨t,by rw[ht];simp⟩ ?_
    have:=ih us (by simpa using hl) (k+1) λi v e=>by
     obtain⟨t,h⟩:=hu (i+1) v (by simpa using e)
     exact⟨t,by rw[h,show k+(i+1)=k+1+i by lia]⟩
    have e:((λi:Nat=>V.int (a+((k+i:Nat):Int)))∘Nat.succ)=λi:Nat=>V.int (a+((k+1+i:Nat):Int)):=by
     funext i
     simp only[Mq,Nat.succ_eq_add_one]
     rw[show k+(i+1)=k+1+i by lia]
    rw[e]
    exact this
 have:=go n acc.toList (by simpa using h1) 0 λi v e=>by
  have:=h2 i v (by simpa using e)
  simpa using this
 simpa using this
theorem HQ:Z4 X (.type "range") (λxs H Q=> ∃j,xs=[.int j]/\ ∀p,H p=none->Q (.ref p) (bA H p (.ext (rngP p 0 j 1)))):=by
 intro aa s σ H xs us Q I r h
 obtain⟨j,rfl,q⟩:=h
 obtain⟨u,rfl,t,rfl⟩:=SX r
 refine call_range_1 ?_
 have hn:=I.hok.fresh (Ap s.heap.objs.size)
 refine⟨.ref s.heap.objs.size,_,I.laid (a:=s.heap.objs.size) (o:= .ext (rngP s.heap.objs.size 0 j 1)) (t':=s.toks+1+1) (λ_ _ z=>Ac _ z) (Ap _) ?_,rfl,q _ hn⟩
 exact⟨⟨_,_,_,Qz ..⟩,⟨_,Au _ rfl⟩,λh1 h2 ⟨t,u,v,z⟩ k=>⟨t,u,v,k _ z⟩⟩
theorem M8(hc:X.calm=true):Z4 X (.type "list") (λxs H Q=> ∃(p:Addr) (j:Int),xs=[.ref p]/\H p=some (.ext (rngP p 0 j 1))/\(0<=j/\j<=16777216)/\ ∀l,H l=none->Q (.ref l) (bA H l (.lst ((Ar j.toNat).map λi:Nat=>V.int (0+i))))):=by
 intro aa s σ H xs us Q I r h
 obtain⟨p,j,rfl,hp,hj,q⟩:=h
 obtain⟨u,rfl,rx⟩:=SX r
 cases rx
 obtain⟨⟨t,u,v,z⟩,_⟩:=I.hok p _ hp
 have hn:Gw 0 j 1=(j.toNat:Int):=by
  unfold Gw
  rw[if_pos (by decide)]
  split
  ·rw[Int.ediv_one]
   lia
  ·lia
 have p62:(2:Int) ^ 62=4611686018427387904:=by decide
 have p24:(2:Nat) ^ 24=16777216:=by decide
 have sm:Rb 0 j 1=true:=small_one (a:=0) (b:=j) (by rw[p62];decide) (by rw[p62];decide) (by rw[p62];lia) (by rw[p62];lia)
 refine call_list_range (I.ok.hd hc) z sm hn (by rw[p24];lia) λh' tk acc c kp hS hI=> ?_
 have rv:=rngI hI
 refine⟨.ref s.heap.objs.size,_,I.laid (a:=s.heap.objs.size) (o:= .lst ((Ar j.toNat).map λi:Nat=>V.int (0+i))) (t':=tk) kp (Ap _) ⟨?_,acc.toList,c,rv,by simpa using hS⟩,rfl,q _ (I.hok.fresh (Ap _))⟩
 rw[Ck,Ho,Db]
 lia
noncomputable def TZ(f:VF):VF:=λδ=>(f δ).bind λp=>match p.1 with
 | .int j=>if 0<=j/\j<=16777216 then some (.lst (bD 0 j.toNat),p.2) else none
 |_=>none
theorem zCC{N:Addr->Prop}(lo:Int)(n:Nat):cO K N H ((Ar n).map λi:Nat=>V.int (lo+i)) (bD lo n):=by
 unfold bD
 induction (Ar n) with
 |nil=>exact .nil
 |cons x xs ih=>exact .cons (.int _) ih
theorem D2{p1 p2 jk:Pos}(hc:X.calm=true)(hg:Gl X "list") (hm:X.mg "list"=none) (hv:Bg "list"=some (.type "list")) (hg2:Gl X "range") (hm2:X.mg "range"=none) (hv2:Bg "range"=some (.type "range")) (ha:PE X a (TV K ml pa ta ia fa))
  (he : Ah (a :: []) X.env = (false,eval a X.env) :: Ah [] X.env := by rfl) (he2 : Ah (.Call (.Name "range" p2) [a] [] jk :: []) X.env = (false,eval (.Call (.Name "range" p2) [a] [] jk) X.env) :: Ah [] X.env := by rfl) :
  PE X (.Call (.Name "list" p1) [.Call (.Name "range" p2) [a] [] jk] [] pos) (TN K ml pa (TZ fa)):=
 (W7 (M8 hc) hg hm hv (bW (W7 HQ hg2 hm2 hv2 (bW ha ZR he) (by decide) (by decide) he) ZR he2) (by decide) (by decide) he2).imp λσ H Q q0 => by
  obtain⟨B,O,δ,d,δ',S,q,k⟩:=q0
  unfold TZ at q
  cases h1:fa δ with
  | none => rw [h1] at q;cases q
  |some p1=>
   obtain⟨x,δ1⟩:=p1
   rw[h1] at q
   cases x with
   |int j=>
    have q:(if 0<=j/\j<=16777216 then some (dE.lst (bD 0 j.toNat),δ1) else none)=some (d,δ'):=q
    split at q
    ·rename_i hj
     cases q
     refine⟨B,O,δ,_,_,S,h1,λv1 H1 R1=> ?_⟩
     have r1:=R1.rep
     cases r1
     refine⟨j,rfl,λp hp=>⟨p,j,rfl,cH,hj,λl hl=> ?_⟩⟩
     have sm:a8 H1 (bA H1 p (.ext (rngP p 0 j 1))):=cZ hp
     exact k l _ (mkN (R1.sta.same sm) (R1.frm.trans sm.fr) (λz=>(R1.pur z).trans sm) hl (zCC 0 j.toNat))
    ·cases q
   |_=>cases q
end
section
variable{X:Cx}{K:An}{ml:List Nat}{e a b c:Expr}{es:List Expr}{pa ta ia pb tb ib pc tc ic pu bt bi ps bs:Bool}{fa fb fc f:VF}{B B':Bs}{O:Nat->Option Addr}{H H0 H1 H':Hp}{σ:St}{δ δ':Ev}{v:V}{d:dE}{p:Addr}{pos:Pos}
noncomputable def WL(n:Int):List Int->Option Nat
 |[]=>none
 |i::ns=>if i=n then some 0 else(WL n ns).map (· +1)
theorem MN{n:Int}: ∀{ns:List Int} {j:Nat},WL n ns=some j->ns[j]? =some n/\ ∀m,m<j->ns[m]? ≠some n
 | [],_,h => by cases h
 | i :: ns,j,h => by
  unfold WL at h
  split at h
  ·rename_i hi
   cases h
   exact⟨by rw[hi];rfl,λm hm=>absurd hm (Pd _)⟩
  ·rename_i hi
   cases h1:WL n ns with
   |none=>rw[h1] at h;cases h
   |some k=>
    rw[h1] at h
    cases h
    obtain⟨h2,h3⟩:=MN h1
    refine⟨by simpa using h2,λm hm=> ?_⟩
    cases m with
    |zero=>simpa using hi
    |succ m=>simpa using h3 m (Nat.lt_of_succ_lt_succ hm)
theorem JV{ns:List Int}{us:List Value}(r:bT (ns.map V.int) us){m:Nat}{u:Value}(h:us[m]? =some u): ∃i t,ns[m]? =some i/\u= .int i t:=by
 have hl:=r.length
 rw[Ck] at hl
 have hm:m<us.length:=(Ad.mp h).1
 have e:(ns.map V.int)[m]? =some (.int ns[m]):=by simp[hl▸hm]
 obtain⟨u',e1,t,e2⟩:=r.get e
 rw[h] at e1
 cases e1
 exact⟨ns[m],t,by simp[hl▸hm],e2⟩
noncomputable def N5(n:Int):Value->Bool
 | .int i _=>i==n
 |_=>false
theorem zBB{ns:List Int}{its:List Value}{n:Int}{j:Nat}(r:bT (ns.map V.int) its)(h:WL n ns=some j):
  ∃hj:j<its.toArray.size,N5 n its.toArray[j]=true/\(∀m (hm:m<its.toArray.size),m<j->N5 n its.toArray[m]=false):=by
 obtain⟨h1,h2⟩:=MN h
 have hl:=r.length
 rw[Ck] at hl
 have hj:j<ns.length:=(Ad.mp h1).1
 have at_: ∀(m:Nat) (hm:m<its.toArray.size),∃i t,ns[m]? =some i/\its.toArray[m]= .int i t:=λm hm=>by
  have hm':m<its.length:=by simpa using hm
  exact JV r (u:=its.toArray[m]) (by simp[hm'])
 refine⟨by simpa[<- hl] using hj,?_,λm hm hmj=> ?_⟩
 ·obtain ⟨i,t',e1,e2⟩ := at_ j (by simpa [<- hl] using hj)
  rw[h1] at e1
  cases e1
  rw[e2]
  simp[N5]
 ·obtain⟨i,t',e1,e2⟩:=at_ m hm
  have:=h2 m hmj
  rw[e1] at this
  rw[e2]
  exact beq_eq_false_iff_ne.mpr λz=>this (by rw[z])
theorem zBA{ns:List Int}{its:List Value}(r:bT (ns.map V.int) its){y:Value}(hy:y∈its.toArray): ∃i t,y= .int i t:=by
 obtain⟨m,hm,rfl⟩:=Array.mem_iff_getElem.mp hy
 have hm':m<its.length:=by simpa using hm
 obtain⟨i,t,_,e⟩:=JV r (m:=m) (u:=its.toArray[m]) (by simp[hm'])
 exact⟨i,t,e⟩
def zA3(K:An):V->List V->Hp->VK->Prop:=λx vs H Q=> ∃(l:Addr) (ns:List Int) (n:Int) (j:Nat),x= .ref l/\vs=[.int n]/\W8 K H l (ns.map V.int)/\WL n ns=some j/\Q (.int j) H
theorem C9:MtM X "list.index" (zA3 X.K):=by
 intro aa s σ H x vs v us Q I rx rv h
 obtain⟨l,ns,n,j,rfl,rfl,hq,hj,q⟩:=h
 cases rx
 obtain⟨u,rfl,t,rfl⟩:=rv.one
 obtain⟨its,r,⟨o,c,e,hc,hd,da⟩,hz⟩:=I.list hq
 obtain⟨cls,dd,data,sl⟩:=o
 simp only at hc hd da
 subst hc hd da
 obtain⟨hjs,h1,h2⟩:=zBB r hj
 have hl:=r.length
 refine Mz F.slot_list_index ⟨_,e,rfl⟩ F.entry_list_index (F.args_list_index_2 _ _) (SeqAt.list_indexAt l its.toArray c none sl (.int n t) (N5 n) j hjs (by
  have h3:its.length<=16777216:=by rw[<- hl,<- Db];exact hz
  have h4:j<its.length:=by simpa using hjs
  lia) h1 h2) ⟨e,?_,?_⟩
 ·intro y hy
  obtain⟨i,t',rfl⟩:=zBA r hy
  exact SeqAt.EqAt.int_int i t' n t
 ·exact⟨.int j,H,I.tok _,⟨_,rfl⟩,q⟩
theorem zHX(h:X.K=K):MtM X "list.index" (zA3 K):=by subst h;exact C9
noncomputable def GK:dE->dE->Option dE
 | .lst ds,.int n=>(WO ds).bind λns=>(WL n ns).map λj=> .int j
 |_,_=>none
theorem BH{aq af:Pos}(hK:X.K=K)(ha:PE X a (TV K ml pa ta ia fa))(hb:PE X b (TV K ml pb tb ib fb))
  (cq : Ha a "index" X.env (eval a X.env) = eval a X.env := by rfl)
  (ee : ((Ez af (Ah (b :: []) X.env)).all (λx => !x.1) && (Mm af (Ip [] X.env)).all (λx => x.1.isSome)
   && decide ((b :: ([] : List Expr)).length + ([] : List Iq).length + (if ([] : List Iq).isEmpty then 0 else 1) < 30)) = true := by rfl)
  (cm : (aq.endLine == af.line) = true := by rfl) (hs : Ah (b :: []) X.env = (false,eval b X.env) :: Ah [] X.env := by rfl) (bp : (Ez af (Ah [] X.env)).any (·.1) = false := by rfl) (hl : (pb || (ta && ia)) = true := by rfl) :
  PE X (.Call (.Attribute a "index" aq) [b] [] af) (TV K ml (pa && pb) true true (f2 GK fa fb)):=
 (kBm (K := K) hK Kj PySem.F.slot_list_index PySem.F.type_list_index (zHX hK) ha (bW hb ZR hs) cq ee cm hs bp).imp λσ H Q q0 => by
  obtain⟨B,O,δ,d,δ2,S,q,k⟩:=q0
  obtain⟨x,δ1,y,h1,h2,h3⟩:=QJ q
  refine⟨B,O,δ,x,δ1,S,h1,λv1 H1 R1=> ?_⟩
  cases x with
  |lst ds=>
   cases y with
   |int n=>
    have h3:((WO ds).bind λns=>(WL n ns).map λj=>dE.int j)=some d:=h3
    cases h4:WO ds with
    | none => rw [h4] at h3;cases h3
    |some ns=>
     rw[h4] at h3
     have h3:(WL n ns).map (λj=>dE.int j)=some d:=h3
     cases h5:WL n ns with
     | none => rw [h5] at h3;cases h3
     |some j=>
      rw[h5] at h3
      cases h3
      obtain⟨l,xs,rfl,sq,_⟩:=R1.rep.lstE
      refine⟨.inl ⟨rfl,xs,sq⟩,B,O,δ1,_,δ2,R1.sta,h2,λv2 H2 R2=> ?_⟩
      have r2:=R2.rep
      cases r2
      obtain⟨l',xs',e1,sq',r'⟩:=(R2.live hl R1.rep).lstE
      cases e1
      have:=N4 r' h4
      subst this
      exact⟨l,ns,n,j,rfl,rfl,sq',h5,k _ H2 ⟨R2.sta,R1.frm.trans R2.frm,λz=>by
       obtain⟨z1,z2⟩:=(Af _ _).mp z
       exact(R1.pur z1).trans (R2.pur z2),.int _⟩⟩
   |_=>cases h3
  |_=>cases h3
def E9:V->List V->Hp->VK->Prop:=λx vs H Q=> ∃(l:Addr) (ns:List Int) (n:Int) (j:Nat),x= .ref l/\vs=[.int n]/\H l=some (.lst (ns.map V.int))/\WL n ns=some j/\Q .non (bA H l (.lst ((ns.eraseIdx j).map V.int)))
theorem L8{α β:Type}(g:α->β): ∀(l:List α) (j:Nat),(l.map g).eraseIdx j=(l.eraseIdx j).map g
 |[],_=>by simp
 |_::_,0=>by simp
 |x::l,j+1=>by simp[L8 g l j]
theorem DA:MtM X "list.remove" E9:=by
 intro aa s σ H x vs v us Q I rx rv h
 obtain⟨l,ns,n,j,rfl,rfl,hH,hj,q⟩:=h
 cases rx
 obtain⟨u,rfl,t,rfl⟩:=rv.one
 obtain⟨z,its,c,r,hl,e⟩:=I.lstM hH
 obtain⟨hjs,h1,h2⟩:=zBB r hj
 refine Mz F.slot_list_remove ⟨_,e,rfl⟩ F.entry_list_remove (F.args_list_remove_2 _ _) (MeetsSeq.list_remove l its.toArray c (.int n t) (N5 n) (λy hy=> ?_) j hjs h1 h2 (by rw[Aq,<- hl];exact z)) ⟨e,?_⟩
 ·obtain⟨i,t',rfl⟩:=zBA r hy
  exact Qw i n t' t
 ·have hlj : j < its.length := by simpa using hjs
  refine⟨.non,_,I.lset (its':=its.eraseIdx j) hH e (by simp[Ka,hlj]) (ys:=(ns.eraseIdx j).map V.int) ?_ ?_,rfl,q⟩
  ·have:=bT.eraseIdx j r
   rwa[L8] at this
  ·rw[Ck]
   have h1:=List.length_eraseIdx_le ns j
   rw[Ck] at z
   lia
noncomputable def mRem:List dE->List dE->Option (List dE)
 |ds,[.int n]=>(WO ds).bind λns=>(WL n ns).map λj=>(ns.eraseIdx j).map dE.int
 |_,_=>none
theorem zHK:MuV K E9 mRem:=by
 intro H N l xs vs ds es ds' Q hl hN rx re h k
 cases re with
 | nil => cases h
 | @cons v vs d es hd t=>
  cases t with
  | cons _ _ => cases d <;> cases h
  |nil=>
   cases d with
   |int n=>
    cases hd
    have h:((WO ds).bind λns=>(WL n ns).map λj=>(ns.eraseIdx j).map dE.int)=some ds':=h
    cases h4:WO ds with
    | none => rw [h4] at h;cases h
    |some ns=>
     rw[h4] at h
     have h:(WL n ns).map (λj=>(ns.eraseIdx j).map dE.int)=some ds':=h
     cases h5:WL n ns with
     |none=>rw[h5] at h;cases h
     |some j=>
      rw[h5] at h
      cases h
      have:=N4 rx h4
      subst this
      exact⟨l,ns,n,j,rfl,rfl,hl,h5,k _ _ (JH _)⟩
   |_=>cases h
end
section
variable{X:Cx}{K:An}{ml:List Nat}{e:Expr}{es:List Expr}{pu bt bi bs:Bool}{f:VF}{fs:NM}
theorem cX(h:PE X e (TV K ml pu bt bi f))(hb:(bt && bi)=true:=by rfl):PE X e (TV K ml pu true true f):=by
 obtain⟨h1,h2⟩:=(Af _ _).mp hb
 subst h1 h2
 exact h
theorem BG(h:PE X e (TV K ml pu bt bi f))(hb:bi=true:=by rfl):PE X e (TV K ml pu bt true f):=by
 subst hb
 exact h
theorem cE(h:PA X es (TAV K ml pu bs fs))(hb:bs=true:=by rfl):PA X es (TAV K ml pu true fs):=by
 subst hb
 exact h
theorem U1{st:Stmt}:PS X st (TM K ml λ_=>none):=λ_ _ _ _ _ _ ⟨_,_,_,_,_,q,_⟩=>nomatch q
variable{a b c:Expr}{pa ta ia pb tb ib pc tc ic:Bool}{fa fb fc:VF}{pos:Pos}{δ:Ev}
end
section
variable{X:Cx}{K:An}{ml:List Nat}{e a b c:Expr}{pa ta ia pb tb ib pu:Bool}{fa fb fc f:VF}{B:Bs}{O:Nat->Option Addr}{H H':Hp}{σ:St}{δ δ':Ev}{v:V}{d:dE}{p:Addr}{pos:Pos}{ks:List (Option Expr)}{vs:List Expr}
theorem MH: ∀{more acc:List (aR×V)},((acc++more).map Dj).Nodup->N9 acc more=acc++more
 | [],acc,_ => by simp [N9]
 | (k,v) :: more,acc,nd => by
  have hk: ∀q∈acc,q.1≠k:=λq hq z=>by
   rw[Hf,Az] at nd
   exact(List.nodup_append.mp nd).2.2 q.1 (List.mem_map_of_mem hq) k (by simp) z
  have hn:TF acc k=none:=by
   unfold TF
   rw[List.find?_eq_none.mpr λq hq=>by simpa using hk q hq]
   rfl
  show N9 (XQ acc k v) more=_
  rw[zA6 v hn,MH (by simpa using nd)]
  simp
end
theorem UH: ∀(names:List (Str×NameKind)) (n:Nat) (acc:List (Str×Addr)),cellsFrom n names acc=cellsFrom n names []++acc
 | [],_,_ => rfl
 | (x,k) :: r,n,acc => by
  unfold cellsFrom
  split
  ·rw[UH r (n+1) ((x,n)::acc),UH r (n+1) [(x,n)]]
   simp
  ·exact UH r n acc
theorem KL: ∀{names:List (Str×NameKind)} {n:Nat} {x:Str} {c:Addr},(x,c)∈cellsFrom n names []->(x,Cb)∈names
 | [],_,_,_,h => nomatch h
 | (y,k) :: r,n,x,c,h => by
  unfold cellsFrom at h
  split at h
  ·rename_i hk
   rw[UH] at h
   rcases Bi.mp h with h|h
   ·exact Ao _ (KL h)
   ·cases As.mp h
    rw[show k=Cb from beq_iff_eq.mp hk]
    exact Ba
  ·exact Ao _ (KL h)
theorem KJ: ∀{names:List (Str×NameKind)} {n:Nat} {x:Str},(x,Cb)∈names-> ∃c,(x,c)∈cellsFrom n names []
 | (y,k) :: r,n,x,h => by
  unfold cellsFrom
  rcases Aj.mp h with e|h
  ·cases e
   rw[if_pos (by decide),UH]
   exact⟨n,At _ (As.mpr rfl)⟩
  ·split
   ·rw[UH]
    obtain⟨c,hc⟩:=KJ (n:=n+1) h
    exact⟨c,Bp _ hc⟩
   ·exact KJ h
theorem SG: ∀{l:List (Str×Addr)} {x:Str} {c:Addr},(x,c)∈l-> ∃c',l.lookup x=some c'
 | (y,d) :: r,x,c,h => by
  rw[Cn]
  cases hb:x==y with
  | true => exact ⟨d,rfl⟩
  |false=>
   rcases Aj.mp h with e|h
   ·cases e
    simp at hb
   ·exact SG h
theorem aV: ∀{l m:List (Str×Addr)} {x:Str} {c:Addr},(l++m).lookup x=some c->l.lookup x=some c∨(l.lookup x=none/\m.lookup x=some c)
 |[],_,_,_,h=> .inr ⟨rfl,h⟩
 |(y,d)::r,m,x,c,h=>by
  rw[Fn,Cn] at h
  rw[Cn]
  cases hb:x==y with
  |true=>rw[hb] at h;exact .inl h
  |false=>rw[hb] at h;exact aV h
theorem WW: ∀{l m:List (Str×Addr)} {x:Str},l.lookup x=none->(l++m).lookup x=m.lookup x
 |[],_,_,_=>rfl
 |(y,d)::r,m,x,h=>by
  rw[Cn] at h
  rw[Fn,Cn]
  cases hb:x==y with
  |true=>rw[hb] at h;cases h
  |false=>rw[hb] at h;exact WW h
theorem PZ{M:Model}{A:Cy}{E:Value->Ag->Prop}{s:Ag}{scope:Scope}{globals:Addr}{f6:List (Str×Addr)}{qual:Str}{outer:Env}{Q:Env->Ag->Prop}
  (hQ:Q (newEnv scope s.heap.objs.size globals (cellsFrom (s.heap.objs.size+1) scope.names f6) qual none .none (some outer) builtinsNs) {s with heap:=Kb (s.heap.push {cls:= .type "dict",data:= .dict #[]}) scope.names}):
  wpAny M A (Jr scope globals f6 [] qual none .none (some outer)) Q E s:=by
 simp only[Jr,Mn,if_true]
 refine Aa (wpAny_alloc ?_)
 refine Aa (wpAny_layCells _ (λname kind cells=>by cases hkc:kind==Cb<;>simp[hkc]) _ _ _ _ ?_)
 rw[show({s with heap:=s.heap.push {cls:= .type "dict",data:= .dict #[]}}:Ag).heap.objs.size=s.heap.objs.size+1 from Cw ..]
 rw[Lz]
 exact Aa (Ai (Ai hQ))
theorem XW: ∀{l m:List (Str×Addr)} {x:Str} {c:Addr},l.lookup x=some c->(l++m).lookup x=some c
 |(y,d)::r,m,x,c,h=>by
  rw[Cn] at h
  rw[Fn,Cn]
  cases hb:x==y with
  |true=>rw[hb] at h;exact h
  |false=>rw[hb] at h;exact XW h
structure TH(X:Cx)(N':List Str)(ix:List Nat)(scope:Scope):Prop where
 kind:scope.kind= .function
 cel: ∀y∈scope.names,y.2= .cell->scope.names.lookup y.1=some .cell
 names: ∀y∈scope.names,y.2= .local->scope.names.lookup y.1=some .local
 free: ∀y∈scope.names,y.2= .free->X.env.kindOf y.1=some .cell∨X.env.kindOf y.1=some .free
 nd:N'.Nodup
 cap: ∀j,j<ix.length->N'[j]? =(ix[j]?).bind λi=>X.N[i]?
 capf: ∀x∈N'.take ix.length,scope.names.lookup x=some .free
noncomputable def bR(X:Cx)(N':List Str)(scope:Scope)(cl:List (Str×Addr))(s1:Ag)(H1:Hp)(fp:List Addr):Cx:=
 {X with N:=N',s₀:=s1,H₀:=H1,env:=Og scope cl s1.heap.objs.size X.env,outer:=X.stack,stack:=X.stack,ex:=fp,fn:=λx=>scope.names.lookup x==some Cb,pn:=[],xe:=λ_ _=>False}
theorem XG{env:Env}{x:Str}: ∀{l:List (Str×NameKind)},
  ((l.map λ(n,k) => if (k == Bm && env.scope.kind == .function && env.kindOf n == some .cell) then (n,Cb) else (n,k)).lookup x = some .cell ∨
  (l.map λ(n,k) => if (k == Bm && env.scope.kind == .function && env.kindOf n == some .cell) then (n,Cb) else (n,k)).lookup x = some .free) -> (x,Bm) ∈ l ∨ (x,Cb) ∈ l
 | [],h => by rcases h with z | z <;> cases z
 | (n,k) :: r,h => by
  have h:Md x ((if(k==Bm && env.scope.kind== .function && env.kindOf n==some .cell)=true then(n,Cb) else(n,k))::r.map λ(n,k)=>if(k==Bm && env.scope.kind== .function && env.kindOf n==some .cell) then(n,Cb) else(n,k))=some .cell∨
   Md x ((if(k==Bm && env.scope.kind== .function && env.kindOf n==some .cell)=true then(n,Cb) else(n,k))::r.map λ(n,k)=>if(k==Bm && env.scope.kind== .function && env.kindOf n==some .cell) then(n,Cb) else(n,k))=some .free:=h
  by_cases hc:(k==Bm && env.scope.kind== .function && env.kindOf n==some .cell)=true
  ·rw[if_pos hc] at h
   by_cases hx:x=n
   ·subst hx
    have hk:k= .free:=by
     simp only[Af] at hc
     exact beq_iff_eq.mp hc.1.1
    subst hk
    exact .inl Ba
   ·have hb:(x==n)=false:=beq_eq_false_iff_ne.mpr hx
    simp only[Cn,hb] at h
    rcases XG (env:=env) h with z|z
    ·exact .inl (Ao _ z)
    ·exact .inr (Ao _ z)
  ·rw[if_neg hc] at h
   by_cases hx:x=n
   ·subst hx
    rw[Dw] at h
    rcases h with z|z
    ·cases z;exact .inr Ba
    ·cases z;exact .inl Ba
   ·have hb:(x==n)=false:=beq_eq_false_iff_ne.mpr hx
    simp only[Cn,hb] at h
    rcases XG (env:=env) h with z|z
    ·exact .inl (Ao _ z)
    ·exact .inr (Ao _ z)
theorem NO{X:Cx}{aa:List (Addr×Obj)}{σ:St}{H2:Hp}{s2:Ag}{E:Value->Ag->Prop}{tg iter elt:Expr}{ifs:List Expr}{scope:Scope}{pos:Pos}{N':List Str}{ix:List Nat}{nl:Nat}{g:TG}{tt:TT}{te:TE}
  {cl:List (Str×Addr)} {J:It} {fp:List Addr} {it:Addr} {tn:Nat->Heap->Prop} {Q:V->Hp->Prop} {RR:Value->Addr->Ot->Ag->Prop}
  (hc:X.calm=true) (S:TH X N' ix scope) (hnl:N'.length=ix.length+nl)
  (bq: ∀x c,cl.lookup x=some c->X.env.cells.lookup x=some c) (gf: ∀x,(x,Bm)∈scope.names-> ∃c,cl.lookup x=some c)
  (blk: ∀(cl:List (Str×Addr)) (s1:Ag) (H1:Hp) (fp:List Addr),Blk (bR X N' scope cl s1 H1 fp) tg ifs elt g tt te)
  (I2:cN X aa σ H2 s2) (T:HL X.prog X.w X.K tg J fp it tn) (st2:tn 0 s2.heap) (f2: ∀b∈fp,QB X aa H2 b)
  (h : ∀ D,H2 D = none -> zED D ix nl J g tt te σ H2 λH' => Q (.ref D) H')
  (fin: ∀(D C:Addr) (s':Ag) (H':Hp),cN X aa σ H' s'->(∃m,s'.heap.Ns C m)->C≠X.env.locals->(∀x c,X.env.cells.lookup x=some c->c≠C)→
   (∀(σ':St) (s'':Ag) (h'':Heap),cN X aa σ' H' s''->Ey C s''.heap h''->cN X aa σ' H' {s'' with heap:=h''})->Q (.ref D) H'->RR (.ref D) C (.ok .next) s'):
  wpAny (model X.prog X.w) X.A (Ql []) (λacc s₃=>wpAny (model X.prog X.w) X.A (Jr scope X.env.globals cl [] X.env.qual none .none (some X.env)) (λgj s₄=>
   Fw (model X.prog X.w) X.A (.compStart (.ListComp elt [⟨tg,iter,ifs,0⟩] scope pos) 0 (.ref it) acc {gj with scope:=relabel scope X.env}) (RR acc gj.locals) s₄) E s₃) E s2:=by
 refine Cu (PZ ?_)
 dsimp only
 have I1:cN X aa σ (bA H2 s2.heap.objs.size (.lst [])) {s2 with heap:=s2.heap.push {cls:= .type "list",dict:=none,data:= .seq ([]:List Value).toArray}}:=
  I2.lnew (t':=s2.toks) (ys:=[]) (its:=[]) .nil (Dc _)
 have hDn:H2 s2.heap.objs.size=none:=I2.hok.fresh (Ap _)
 obtain⟨W,⟨m0,w0⟩,turn⟩:=h _ hDn
 generalize hs1:({s2 with heap:=s2.heap.push {cls:= .type "list",dict:=none,data:= .seq ([]:List Value).toArray}}:Ag)=s1 at I1
 have cn:s2.heap.push {cls:= .type "list",dict:=none,data:= .seq ([]:List Value).toArray}=s1.heap:=by rw[<- hs1]
 rw[cn]
 have old: ∀b o,s1.heap.get? b=some o->(Kb (s1.heap.push {cls:= .type "dict",data:= .dict #[]}) scope.names).get? b=some o:=λb o e=>Ja _ _ _ _ (Ac _ e)
 have hns₁:(Kb (s1.heap.push {cls:= .type "dict",data:= .dict #[]}) scope.names).Ns s1.heap.objs.size (λ_=>none):=(Rc s1.heap (.type "dict")).keeps λb o e=>Ja _ _ _ _ e
 have okc:=cellsFrom_ok scope.names (s1.heap.push {cls:= .type "dict",data:= .dict #[]}) (s1.heap.objs.size+1) [] ⟨λ_ _ hm=>(nomatch hm),Jx⟩ (by rw[Cw];exact Ap _)
 rw[Cw] at okc
 generalize hz1:Kb (s1.heap.push {cls:= .type "dict",data:= .dict #[]}) scope.names=h₁ at old hns₁ okc
 rw[UH]
 generalize hnc:cellsFrom (s1.heap.objs.size+1) scope.names []=nc at okc
 have ncm: ∀x c,nc.lookup x=some c->(x,Cb)∈scope.names/\h₁.IsCell c none/\s1.heap.objs.size+1<=c:=λx c e=>by
  have hm:=Bu e
  exact⟨KL (n:=s1.heap.objs.size+1) (by rw[hnc];exact hm),okc.empty x c hm⟩
 have nch: ∀x,(x,Cb)∈scope.names-> ∃c,nc.lookup x=some c:=λx h=>by
  obtain⟨c,hc⟩:=KJ (n:=s1.heap.objs.size+1) h
  rw[hnc] at hc
  exact SG hc
 have eg: ∀b∈fp,b<s2.heap.objs.size:=λb hb=>by
  obtain⟨o,e,_⟩:=T.obj _ _ st2 b hb
  exact Am e
 have g8:s1.heap.objs.size=s2.heap.objs.size+1:=by rw[<- cn,Cw]
 have ji: ∀b o,s2.heap.get? b=some o->s1.heap.get? b=some o:=λb o e=>by rw[<- cn];exact Ac _ e
 have cp: ∀x c,cl.lookup x=some c->c<s1.heap.objs.size:=λx c e=>by
  obtain⟨v,q⟩:=I1.cell x c (bq x c e)
  exact q.lt
 have qh: ∀b∈CW X.stack,b<s1.heap.objs.size:=λb hb=>by
  obtain⟨_,o,ho,_⟩:=(I1.stack).mem hb
  exact Am ho
 have okY:(bR X N' scope (nc++cl) s1 (bA H2 s2.heap.objs.size (.lst [])) fp).Ok:=by
  refine⟨I1.ok.mod,S.kind,I1.ok.glob,I1.ok.blt,Ap _,λx y c e1 e2=> ?_,λx hx=> ?_,λx c hf e=> ?_,I1.ok.hd,I1.ok.frames,.inl rfl,λb hb=>⟨?_,λx c e=> ?_⟩,λb o e=> ?_,
   Ei I1.ok.bsz I1.sz,λb o e hb=> ?_,λb hb hb2=> ?_,I1.stack,I1.stkFree⟩
  ·rcases aV e1 with n1|⟨_,o1⟩
   ·rcases aV e2 with n2|⟨_,o2⟩
    ·exact Mr okc.apart (Bu n1) (Bu n2)
    ·exact absurd (Aw (cp y c o2) (Ee (ncm x c n1).2.2)) (Ca _)
   ·rcases aV e2 with n2|⟨_,o2⟩
    ·exact absurd (Aw (cp x c o1) (Ee (ncm y c n2).2.2)) (Ca _)
    ·exact I1.ok.inj x y c (bq x c o1) (bq y c o2)
  ·cases q:nc.lookup x with
   | some c => exact ⟨c,XW q⟩
   |none=>
    rcases XG hx with h|h
    ·obtain⟨c,hc⟩:=gf x h
     exact⟨c,(WW q).trans hc⟩
    ·obtain⟨c,hc⟩:=nch x h
     rw[q] at hc
     cases hc
  ·have hx:(x,Cb)∈scope.names:=Bu (beq_iff_eq.mp hf)
   obtain⟨c',hc'⟩:=nch x hx
   have:=XW (m:=cl) hc'
   have e:(nc++cl).lookup x=some c:=e
   rw[this] at e
   cases e
   exact Ee (ncm x c hc').2.2
  ·exact Bf (Aw (eg b hb) (by show s2.heap.objs.size <= s1.heap.objs.size;rw [g8];exact Fm _))
  ·rcases aV e with n1|⟨_,o1⟩
   ·have h1:=eg b hb
    have h2:=(ncm x c n1).2.2
    rw[g8] at h2
    exact λz=>absurd (z▸h2) (Oa (Aw h1 (Ei (Fm _) (Fm _))))
   ·exact(f2 b hb).2.2.2.2.1 x c (bq x c o1)
  ·exact I1.bs b o e
  ·have:=(f2 b hb)
   obtain⟨o',e',_⟩:=T.obj _ _ st2 b hb
   have hlt:=Aw (Am e) I1.ok.bsz
   rcases this.2.2.2.1 with z|z
   ·exact I1.ok.noex b o e z
   ·exact absurd (Aw hlt z) (Ca _)
  ·rcases Aj.mp (I1.stkSub b hb2) with z|z
   ·exact(f2 b hb).2.1 z
   ·exact(f2 b hb).2.2.1 z
 have dm : (bC ix σ ++ Be nl none).length = N'.length := by rw [Bv,Ht,hnl];simp [bC]
 have IY:cN (bR X N' scope (nc++cl) s1 (bA H2 s2.heap.objs.size (.lst [])) fp) [] (bC ix σ++Be nl none) (bA H2 s2.heap.objs.size (.lst [])) {s2 with heap:=h₁}:=by
  refine⟨okY,?_,I2.bare,Un.kept old,⟨_,hns₁,λj x v e1 e2 e3=> ?_⟩,λx c e=> ?_,I1.hok.fresh (Ap _),λx c e=> ?_,λp hp=>absurd (show p∈([]:List (Addr×Obj)) from hp) (by simp),I1.hok.kept old,dm⟩
  ·show s2.os=s1.os
   rw[<- hs1]
  ·have hj:j<ix.length:=by
    by_cases hj:j<ix.length
    ·exact hj
    ·exfalso
     have hl:(bC ix σ).length=ix.length:=by simp[bC]
     rw[Bb (by rw[hl];lia),Cs] at e2
     split at e2<;>cases e2
   have hl:(bC ix σ).length=ix.length:=by simp[bC]
   rw [Ae (by rw [hl];exact hj)] at e2
   have hci:=S.cap j hj
   obtain⟨i,hi⟩: ∃i,ix[j]? =some i:=⟨ix[j],by simp[hj]⟩
   rw[hi] at hci
   have hNi:X.N[i]? =some x:=by
    have:N'[j]? =X.N[i]? :=hci
    rw[<- this];exact e1
   have hσ:σ[i]? =some (some v):=by
    unfold bC at e2
    rw[Cr,hi] at e2
    have e2':(σ[i]?).join=some v:=by simpa using e2
    cases q:σ[i]? with
    | none => rw [q] at e2';cases e2'
    | some o => rw [q] at e2';rw [show o = some v from e2']
   have hfl:scope.names.lookup x=some .free:=S.capf x (by
    rw[Hv]
    exact⟨j,by rw[Cf hj];exact e1⟩)
   have bm:(x,Bm)∈scope.names:=Bu hfl
   have hpk:X.env.kindOf x=some .cell∨X.env.kindOf x=some .free:=by exact S.free (x,.free) bm rfl
   have jl:Vis X.env.scope x:=by
    rcases hpk with z|z
    ·exact .inr (.inl z)
    ·exact .inr (.inr z)
   obtain⟨m,hn,jq⟩:=I1.loc
   obtain⟨u,ru,l⟩:=jq i x v hNi hσ jl
   refine⟨u,ru,?_⟩
   rcases l with⟨hk,_⟩|⟨hk,c,ec,z⟩
   ·rcases hpk with q|q<;>rw[hk] at q<;>cases q
   ·obtain⟨c',hc'⟩:=gf x bm
    have:c'=c:=by
     have:=bq x c' hc'
     rw[ec] at this;exact(Cd this).symm
    subst this
    have jm:nc.lookup x=none:=by
     cases q:nc.lookup x with
     |none=>rfl
     |some d=>
      have:=S.cel (x,.cell) (ncm x d q).1 rfl
      rw[hfl] at this
      cases this
    refine .inr ⟨VW hfl,c',(WW jm).trans hc',?_⟩
    ·obtain⟨o,ho,hd⟩:=z
     exact⟨o,old _ _ ho,hd⟩
  ·rcases aV e with n1|⟨_,o1⟩
   ·exact⟨none,(ncm x c n1).2.1⟩
   ·obtain⟨v,o,ho,hd⟩:=I1.cell x c (bq x c o1)
    exact⟨v,o,old _ _ ho,hd⟩
  ·rcases aV e with n1|⟨_,o1⟩
   ·exact I1.hok.fresh (Ee (ncm x c n1).2.2)
   ·exact I1.freeC x c (bq x c o1)
 have jt: ∀{pY:List (Addr×Obj)} {σ':St} {H':Hp} {s':Ag},cN (bR X N' scope (nc++cl) s1 (bA H2 s2.heap.objs.size (.lst [])) fp) pY σ' H' s'->cN X aa σ H' s':=λ{pY σ' H' s'} J'=>
  I1.call' J'.os J'.base J'.hok J'.bare λb hb=>⟨(f2 b hb).2.2.2.1,(f2 b hb).2.1,(f2 b hb).2.2.2.2.1,(f2 b hb).2.2.2.2.2⟩
 have stat: ∀{H':Hp} {pY:List (Addr×Obj)},(∀b∈fp,H' b=none)->pY=[]-> ∀b∈fp,QB (bR X N' scope (nc++cl) s1 (bA H2 s2.heap.objs.size (.lst [])) fp) pY H' b:=λ{H' pY} hn hp b hb=>by
  subst hp
  refine⟨hn b hb,(okY.exf b hb).1,okY.exfs b hb,.inl hb,(okY.exf b hb).2,λp hp=>absurd (show p∈([]:List (Addr×Obj)) from hp) (by simp)⟩
 have st1:tn 0 h₁:=T.keep 0 s2.heap h₁ st2 λb hb o e=>old b o (ji b o e)
 have fr1: ∀b∈fp,(bA H2 s2.heap.objs.size (.lst [])) b=none:=λb hb=>by
  rw[bQ (Bf (eg b hb))]
  exact(f2 b hb).1
 have loop: ∀s₃:Ag,s₃={s2 with heap:=h₁}→
   Fw (model X.prog X.w) X.A (.compLoop (.ListComp elt [⟨tg,iter,ifs,0⟩] scope pos) 0 (.ref it) (.ref s2.heap.objs.size) (Og scope (nc++cl) s1.heap.objs.size X.env)) (RR (.ref s2.heap.objs.size) s1.heap.objs.size) s₃:=by
  rintro s₃ rfl
  refine CM (λn s'=> ∃i σ' H' acc,cN (bR X N' scope (nc++cl) s1 (bA H2 s2.heap.objs.size (.lst [])) fp) [] σ' H' s'/\σ'.take ix.length=bC ix σ/\tn i s'.heap/\(∀b∈fp,H' b=none)/\W i n acc H') ?_ m0
   ⟨0,_,_,[],IY,by rw [Co (by simp [bC])];exact Cg (by simp [bC]),st1,fr1,w0⟩
  rintro n s' ⟨i,σ',H',acc,J',hσ,st',fr',w'⟩
  have Jc:cN (bR X N' scope (nc++cl) s1 (bA H2 s2.heap.objs.size (.lst [])) fp) [] (bC ix σ++Be nl none) H' s':=by
   refine J'.weak (by rw[dm];exact J'.len.symm) λj v e=> ?_
   have hl:(bC ix σ).length=ix.length:=by simp[bC]
   by_cases hj:j<ix.length
   ·rw [Ae (by rw [hl];exact hj),<- hσ,Cf hj] at e
    exact e
   ·rw [Bb (by rw [hl];lia),Cs] at e
    split at e<;>cases e
  rcases turn i n acc H' w' with⟨stop,q⟩|⟨go,N,hN,step⟩
  ·refine Av (T.done (bR X N' scope (nc ++ cl) s1 (bA H2 s2.heap.objs.size (.lst [])) fp) rfl rfl rfl hc i [] s' _ H' (λ_ _ => False) Jc (stat fr' rfl) st' stop) (λr s4 ⟨hr,I4⟩ => ?_) λ_ _ z => z
   subst hr
   have IX:=jt I4
   obtain⟨m,hm,_⟩:=I4.loc
   exact fin _ _ s4 H' IX ⟨m,hm⟩ (Fv I1.lt) (λx c e z=>by
    obtain⟨v,q⟩:=I1.cell x c e
    have:=q.lt
    rw[z] at this
    exact Ca _ this) (λσ'' s'' h'' I'' sb=>cN.offNew I1 I'' I4.free λb o hb e=>(sb.2 b hb).trans e) q
  ·refine Av (T.item (bR X N' scope (nc ++ cl) s1 (bA H2 s2.heap.objs.size (.lst [])) fp) rfl rfl rfl hc i [] s' _ H' (λ_ _ => False) Jc (stat fr' rfl) st' go) (λr s4 ⟨u,hr,h4⟩ => ?_) λ_ _ z => z
   subst hr
   refine Av h4 (λ_ s5 ⟨x,H5,I5,r5,y5,st5,fr5⟩=> ?_) λ_ _ z=>z
   have I5':=I5.pinned (stat fr5 rfl) (T.obj _ _ st5)
   obtain⟨btg,bts,bel⟩:=blk (nc++cl) s1 (bA H2 s2.heap.objs.size (.lst [])) fp
   refine Av (btg _ s5 _ H5 x u _ I5' r5 (step x H5 y5)) (λ_ s6 ⟨σ6,H6,I6,hσ6,q6⟩=> ?_) λ_ _ z=>z
   have again: ∀{H7:Hp} {s7:Ag} {ag:List V},cN (bR X N' scope (nc++cl) s1 (bA H2 s2.heap.objs.size (.lst [])) fp) ([]++SN fp s5.heap) σ6 H7 s7->N ag H7→
     ∃m,m<n/\ ∃i σ' H' acc,cN (bR X N' scope (nc++cl) s1 (bA H2 s2.heap.objs.size (.lst [])) fp) [] σ' H' s7/\σ'.take ix.length=bC ix σ/\tn i s7.heap/\(∀b∈fp,H' b=none)/\W i m acc H':=λ{H7 s7 ag} I7 n7=>by
    obtain⟨m',hm,w7⟩:=hN ag H7 n7
    refine⟨m',hm,i+1,σ6,H7,ag,I7.unpinned,hσ6,T.keep _ _ _ st5 λb hb o e=>(I7.pin (b,o) (At _ (At _ (Y9 hb e)))).1,λb hb=> ?_,w7⟩
    obtain⟨o,e,d⟩:=T.obj _ _ st5 b hb
    exact(I7.pin (b,o) (At _ (At _ (Y9 hb e)))).2.1
   refine Av (bts _ s6 σ6 H6 _ I6 q6) (λokb s7 ⟨H7,I7,q7⟩=> ?_) λ_ _ z=>z
   cases okb with
   | false => exact again I7 q7
   |true=>
    refine Av (bel _ s7 σ6 H7 _ I7 q7) (λv s8 ⟨y,H8,I8,r8,hD8,hz8,n8⟩=> ?_) λ_ _ z=>z
    refine Av (aW (X:=bR X N' scope (nc++cl) s1 (bA H2 s2.heap.objs.size (.lst [])) fp) _ s8 σ6 H8 (.ref s2.heap.objs.size) [y] (.ref s2.heap.objs.size) [v] (λ_ H9=>N (acc++[y]) H9) I8 rfl (.cons r8 .nil)
     ⟨s2.heap.objs.size,acc,y,rfl,rfl,hD8,hz8,n8⟩) (λ_ s9 ⟨_,H9,I9,_,n9⟩=>again I9 n9) λ_ _ z=>z
 have he:({newEnv scope s1.heap.objs.size X.env.globals (nc++cl) X.env.qual none .none (some X.env) builtinsNs with scope:=relabel scope X.env}:Env)=Og scope (nc++cl) s1.heap.objs.size X.env:=rfl
 exact Kt (loop _ rfl) (T.self _ 0 _ _ _ st1 (loop _ rfl))
theorem zAI{X:Cx}{tg iter elt:Expr}{ifs:List Expr}{scope:Scope}{pos:Pos}{N':List Str}{ix:List Nat}{nl:Nat}{wi:TI}{g:TG}{tt:TT}{te:TE}
  (hc:X.calm=true) (S:TH X N' ix scope) (hnl:N'.length=ix.length+nl) (hi:PI X tg iter wi)
  (blk: ∀(cl:List (Str×Addr)) (s1:Ag) (H1:Hp) (fp:List Addr),Blk (bR X N' scope cl s1 H1 fp) tg ifs elt g tt te)
  (hs: ∀x,foldedSetIterable iter X.env x=pure x:=by intro _;rfl):PE X (.ListComp elt [⟨tg,iter,ifs,0⟩] scope pos) (FL ix nl wi g tt te):=by
 intro aa s σ H Q I h
 rw[eval_ListComp]
 obtain⟨cl,e1,e2,e3⟩:=KN (env:=X.env) (scope:=scope) λy hy hf=>I.ok.has y.1 (S.free y hy hf)
 refine Gs (use:=none) (cl:=cl) rfl hs e1 S.kind S.names (Av (hi aa s σ H _ I h) (λxv s₁ h₁=>Av h₁ (λitv s₂ h₂=> ?_) λ_ _ e=>e) λ_ _ e=>e)
 obtain⟨it,fp,tn,J,H2,e,I2,T,st2,f2,q⟩:=h₂
 subst e
 refine NO (Q:=Q) (RR:=λacc C=>compPost (model X.prog X.w) X.A X.xe none (EP X aa σ Q) acc C) hc S hnl e2 e3 blk I2 T st2 f2 q ?_
 intro D C s' H' I' hm hC1 hC2 hb hq
 obtain⟨m,hm⟩:=hm
 exact⟨m,hm,λh'' sb=>⟨.ref D,H',hb σ s' h'' I' sb,rfl,hq⟩⟩
section
variable{X:Cx}{K:An}{ml:List Nat}{pi pt pe pu:Bool}{pos:Pos}{ix:List Nat}{nl:Nat}{f:VF}
noncomputable def QG(N N':List Str)(ix:List Nat)(names:List (Str×NameKind))(k:Str->Option NameKind):Bool:=
 names.all (λy=>y.2 != .cell || names.lookup y.1==some .cell) && (names.all (λy=>y.2 != .local || names.lookup y.1==some .local) && (names.all (λy=>y.2 != .free || (k y.1==some .cell || k y.1==some .free)) &&
  (decide N'.Nodup && ((Ar ix.length).all (λj=>N'[j]? ==(ix[j]?).bind λi=>N[i]?) && (N'.take ix.length).all λx=>names.lookup x==some .free))))
theorem X4{N':List Str}{scope:Scope}(hk:scope.kind= .function)(h:QG X.N N' ix scope.names X.env.kindOf=true):TH X N' ix scope:=by
 unfold QG at h
 simp only[Af,Hw,He,bne_iff_ne,beq_iff_eq,decide_eq_true_eq,Bt] at h
 obtain⟨h1,h2,h3,h4,h5,h6⟩:=h
 exact⟨hk,λy hy e=>(h1 y hy).resolve_left λz=>z e,λy hy e=>(h2 y hy).resolve_left λz=>z e,λy hy e=>(h3 y hy).resolve_left λz=>z e,h4,h5,h6⟩
abbrev BlkC(X:Cx)(K:An)(N':List Str)(ix:List Nat)(scope:Scope)(tg:Expr)(ifs:List Expr)(elt:Expr)(gg:VG)(pt:Bool)(tb:VB)(pe:Bool)(fe:VF):Prop:=N'.Nodup-> ∀(cl:List (Str×Addr)) (s1:Ag) (H1:Hp) (fp:List Addr),Blk (bR X N' scope cl s1 H1 fp) tg ifs elt (BR K (Ar ix.length) gg) (TB K (Ar ix.length) pt tb) (TV K (Ar ix.length) pe true true fe)
theorem Z2{tg iter elt:Expr}{ifs:List Expr}{scope:Scope}{fi:VI}{gg:VG}{tb:VB}{fe:VF}(N':List Str)(ix:List Nat)(nl:Nat)(hi:PI X tg iter (CG K ml pi fi))(blk:BlkC X K N' ix scope tg ifs elt gg pt tb pe fe)(hc:X.calm=true:=by rfl)(hk:scope.kind= .function:=by rfl)(hok:QG X.N N' ix scope.names X.env.kindOf=true:=by rfl)(hnl:N'.length=ix.length+nl:=by rfl)(hnd:ix.Nodup:=by decide)
  (hs: ∀x,foldedSetIterable iter X.env x=pure x:=by intro _;rfl):PE X (.ListComp elt [⟨tg,iter,ifs,0⟩] scope pos) (TN K ml (pi && pt && pe) (ZZ ix nl fi gg tb fe)):=
 (zAI hc (X4 hk hok) hnl hi (blk (X4 hk hok).nd) hs).imp λ_ _ _ h=>FM hnd h
theorem JD{i:Nat}{y:Str}{py bu:Pos}{tg iter elt:Expr}{ifs:List Expr}{scope:Scope}{N':List Str}{wi:TI}{g:TG}{tt:TT}{te:TE}
  (hN:X.N.Nodup) (hi':X.N[i]? =some y) (hy:X.env.scope.names.lookup y=some .local)
  (hc:X.calm=true) (S:TH X N' ix scope) (hnl:N'.length=ix.length+nl) (hi:PI X tg iter wi)
  (blk: ∀(cl:List (Str×Addr)) (s1:Ag) (H1:Hp) (fp:List Addr),Blk (bR X N' scope cl s1 H1 fp) tg ifs elt g tt te)
  (hsw:Fu (.ListComp elt [⟨tg,iter,ifs,0⟩] scope pos) (some (.Name y py)) bu.line X.env=pure true:=by rfl)
  (hs: ∀x,foldedSetIterable iter X.env x=pure x:=by intro _;rfl):PS X (.Assign [.Name y py] (.ListComp elt [⟨tg,iter,ifs,0⟩] scope pos) bu) (AY (FL ix nl wi g tt te) (IB i)):=by
 intro aa s σ H D I h
 rw[Lo _ _ _ _ hsw]
 refine Aa (Dq (Aa ?_))
 show wpAny _ X.A (do let _<- comprehension (.ListComp elt [⟨tg,iter,ifs,0⟩] scope pos) scope X.env _ (Ql []) false (eval iter X.env) (some (assign (.Name y py) X.env))) _ _ s
 obtain⟨cl,e1,e2,e3⟩:=KN (env:=X.env) (scope:=scope) λy hy hf=>I.ok.has y.1 (S.free y hy hf)
 refine Aa (Av (Gs (use:=some (assign (.Name y py) X.env)) (cl:=cl) (Q:=λ_ s'=>SP X aa D .next s') rfl hs e1 S.kind S.names
  (Av (hi aa s σ H _ I h) (λxv s₁ h₁=>Av h₁ (λitv s₂ h₂=> ?_) λ_ _ e=>e) λ_ _ e=>e)) (λ_ s' hq=>Ai (Ai hq)) λ_ _ e=>e)
 obtain⟨it,fp,tn,J,H2,e,I2,T,st2,f2,q⟩:=h₂
 subst e
 refine NO (Q:=λv H'=>D.nx (σ.set i (some v)) H') (RR:=λacc C=>compPost (model X.prog X.w) X.A X.xe (some (assign (.Name y py) X.env)) (λ_ s'=>SP X aa D .next s') acc C) hc S hnl e2 e3 blk I2 T st2 f2 q ?_
 intro Dl C s' H' I' hm hC1 hC2 hb hq
 obtain⟨m,hm⟩:=hm
 show wpAny _ X.A (assign (.Name y py) X.env (.ref Dl)) _ _ _
 refine Gb (QX I' hN hi' (.inl hy) (v:= .ref Dl) rfl (λs'' I'' ⟨a,hsb,ha⟩=> ?_) (.inr hy))
 have hCa:C≠a:=by
  rcases ha with z|z
  ·rw[z];exact hC1
  ·exact Dk (hC2 y a z)
 exact⟨m,hm.sameBut hsb hCa,λh'' sb=>⟨_,H',hb _ s'' h'' I'' sb,hq⟩⟩
theorem JX{i:Nat}{y:Str}{py bu:Pos}{tg iter elt:Expr}{ifs:List Expr}{scope:Scope}{fi:VI}{gg:VG}{tb:VB}{fe:VF}(o:Bool)(hN:X.N.Nodup)(N':List Str)(ix:List Nat)(nl:Nat)(hi:PI X tg iter (CG K ml pi fi))(blk:BlkC X K N' ix scope tg ifs elt gg pt tb pe fe)(hi':X.N[i]? =some y:=by rfl)(hy:X.env.scope.names.lookup y=some .local:=by rfl)
  (hc:X.calm=true:=by rfl) (hk:scope.kind= .function:=by rfl) (hok:QG X.N N' ix scope.names X.env.kindOf=true:=by rfl) (hnl:N'.length=ix.length+nl:=by rfl) (hnd:ix.Nodup:=by decide) (hm:i∉ml:=by decide)
  (hsw:Fu (.ListComp elt [⟨tg,iter,ifs,0⟩] scope pos) (some (.Name y py)) bu.line X.env=pure true:=by rfl)
  (hs: ∀x,foldedSetIterable iter X.env x=pure x:=by intro _;rfl):PS X (.Assign [.Name y py] (.ListComp elt [⟨tg,iter,ifs,0⟩] scope pos) bu) (TM K ml (aC i (if o then xO (ZZ ix nl fi gg tb fe) else xV (ZZ ix nl fi gg tb fe)))):=
 (JD hN hi' hy hc (X4 hk hok) hnl hi (blk (X4 hk hok).nd) hsw hs).imp λD σ H h=>HB (λσ H Q z=>FM hnd (A9 (pu:=pi && pt && pe) z)) hm h
end
section
variable{X:Cx}{K:An}{ml:List Nat}{e a b c:Expr}{es:List Expr}{pi pt pe pu bt bi ps bs:Bool}{f:VF}{B B':Bs}{O:Nat->Option Addr}{H H0 H1 H':Hp}{σ:St}{δ δ':Ev}{v:V}{d:dE}{p:Addr}{pos:Pos}{ix:List Nat}{nl:Nat}
def zKX(K:An)(N:Addr->Prop)(J:It)(H:Hp)(ds:List dE):Prop:= ∃xs:List V,cO K N H xs ds/\ ∀H2,a8 H H2->(∀(i:Nat) (x:V),xs[i]? =some x->J.go i H2/\ ∀y H3,J.yld i H2 y H3->H3=H2/\y=x)/\J.stop xs.length H2
def TIVp(K:An)(ml:List Nat)(f:VI):TI:=λσ H R=> ∃B O δ ds δ',aS K ml B O H σ δ/\f δ=some (ds,δ')/\ ∀J H',aS K ml B O H' σ δ'->a8 H H'->zKX K (Nn B O) J H' ds->R J H'
theorem A8{fi:VI}{gg:VG}{tb:VB}{fe:VF}(hnd:ix.Nodup){Q:VK}(h:TN K ml true (ZZ ix nl fi gg tb fe) σ H Q):
  FL ix nl (TIVp K ml fi) (BR K (Ar ix.length) gg) (TB K (Ar ix.length) true tb) (TV K (Ar ix.length) true true true fe) σ H Q:=by
 obtain⟨B,O,δ,d,δ2,S,q,k⟩:=h
 unfold ZZ at q
 cases h1:fi δ with
 | none => rw [h1] at q;cases q
 |some p=>
  obtain⟨ds,δ1⟩:=p
  rw[h1] at q
  have q : ((aF ix.length nl gg tb fe ds [] (bX ix δ1)).map λq => (dE.lst q.1,ZH ix q.2 δ1)) = some (d,δ2) := q
  cases h2:aF ix.length nl gg tb fe ds [] (bX ix δ1) with
  | none => rw [h2] at q;cases q
  |some z=>
   obtain⟨res,δf⟩:=z
   rw[h2] at q
   cases q
   refine⟨B,O,δ,ds,δ1,S,h1,λJ H0 S0 p0 wk D hD=> ?_⟩
   obtain⟨els,rel,wk⟩:=wk
   have hDO : ∀ j,Oc ix O j ≠ some D := λj e => by
    unfold Oc at e
    cases hi:ix[j]? with
    | none => rw [hi] at e;cases e
    |some i=>
     rw[hi] at e
     obtain⟨o,q⟩:=S0.nin (.inr ⟨i,e⟩)
     rw[hD] at q
     cases q
   have di : ∀ kp j,ix.length <= j -> (Bc ix B O H0 D kp).mu j = none := λkp j hj => by
    show(ix[j]?).bind O=none
    rw[Bw hj]
    rfl
   refine⟨λi m acc H1=>m=ds.length - i/\i<=ds.length/\ ∃(ah:List dE) (δc:Ev),δc.length=ix.length/\acc.length=ah.length∧
     aS K (Ar ix.length) (Bc ix B O H0 D (acc.zip ah)) (Oc ix O) H1 (bC ix σ++Be nl none) (δc++P1 nl)/\H1 D=some (.lst acc)/\a8 H0 H1∧
     aF ix.length nl gg tb fe (ds.drop i) ah δc=some (res,δf),
    ⟨ds.length,rfl,Dc _,[],bX ix δ1,by simp [bX],rfl,by
     rw[Jz]
     exact S0.inner hD hnd λp hp=>(nomatch hp),cH,cZ hD,h2⟩,?_⟩
   rintro i m acc H1 ⟨rfl,hi,ah,δc,hlc,au,S1,hD1,cg,hc⟩
   have w:=wk H1 cg
   have pf:cO K (Nn (Bc ix B O H0 D (acc.zip ah)) (Oc ix O)) H1 els ds:=(rel.away hD _ _ OB).same cg
   by_cases hlt:i<ds.length
   ·obtain ⟨ex,ex1,ex2⟩ := pf.get (i := i) (d := ds[i]) (by simp [hlt])
    obtain⟨go,yl⟩:=w.1 i ex ex1
    rw[Cv hlt] at hc
    simp only[aF] at hc
    cases g1:gg ds[i] (δc++P1 nl) with
    | none => rw [g1] at hc;cases hc
    |some δ3=>
     rw[g1] at hc
     simp only[Ak] at hc
     cases g2:tb δ3 with
     | none => rw [g2] at hc;cases hc
     |some z=>
      obtain⟨kk,δ4⟩:=z
      rw[g2] at hc
      simp only[Ak] at hc
      refine .inr ⟨go,λag H'=> ∃(ah:List dE) (δc:Ev),δc.length=ix.length/\ag.length=ah.length∧
       aS K (Ar ix.length) (Bc ix B O H0 D (ag.zip ah)) (Oc ix O) H' (bC ix σ++Be nl none) (δc++P1 nl)/\H' D=some (.lst ag)/\a8 H0 H'∧
       aF ix.length nl gg tb fe (ds.drop (i + 1)) ah δc = some (res,δf),λag H' w' => ⟨ds.length - (i + 1),by lia,rfl,hlt,w'⟩,λx H2 hy => ?_⟩
      obtain⟨rfl,rfl⟩:=yl x H2 hy
      have rx:=ex2
      have sm:=a8.refl H2
      refine⟨_,_,_,ds[i],δ3,S1.same sm,rx,g1,λσ3 O3 S3 m3=> ?_⟩
      have ln3:ix.length<=σ3.length:=by
       by_cases hz:ix.length=0
       ·lia
       ·have hj : ix.length - 1 < ix.length := by lia
        have:=m3 (ix.length - 1) (Bt.mpr hj)
        have hs:(bC ix σ++Be nl none)[ix.length - 1]? ≠none:=by
         rw [Ae (by rw [ZI];exact hj)]
         simp[bC,hj]
        rw[<- this] at hs
        have oa:ix.length - 1<σ3.length:=Ko λz=>hs (Gj.mpr z)
        lia
      have hσ3:=QY ln3 m3
      refine⟨hσ3,_,_,δ3,kk,δ4,S3,g2,λH4 R4=> ?_⟩
      have hD4 : H4 D = some (.lst acc) := R4.frm _ _ (sm _ _ hD1) λz => by
       obtain⟨j,e⟩:=z
       have:=(R4.sta.old j D e).1
       exact absurd (.inl (.inr rfl)) this
      have ln4 : ix.length <= δ4.length := by rw [<- R4.sta.len];exact ln3
      cases kk with
      |false=>
       rw[if_neg Dd] at hc
       refine PH ⟨ah,δ4.take ix.length,by rw[Ci];lia,au,R4.sta.turn (di _) (ZI ix σ) hσ3 ln4,hD4,?_,hc⟩
       exact(cg.trans sm).trans (R4.pur rfl)
      |true=>
       rw[if_pos rfl] at hc
       cases g3:fe δ4 with
       | none => rw [g3] at hc;cases hc
       |some z=>
        obtain⟨dv,δ5⟩:=z
        rw[g3] at hc
        simp only[Ak] at hc
        split at hc
        ·rename_i hz
         refine PJ ⟨_,_,δ4,dv,δ5,R4.sta,g3,λv H5 R5=> ?_⟩
         have hD5:H5 D=some (.lst acc):=R5.frm _ _ hD4 λz=>by
          obtain⟨j,e⟩:=z
          have:=(R5.sta.old j D e).1
          exact absurd (.inl (.inr rfl)) this
         have ln5:ix.length<=δ5.length:=by rw[<- R5.sta.len];exact ln3
         have S6:=R5.sta.turn (nl:=nl) (di _) (ZI ix σ) hσ3 ln5
         have hv:bG K (Nn (Bc ix B O H0 D (acc.zip ah)) (Oc ix O)) H5 (Nn (Bc ix B O H0 D (acc.zip ah)) (Oc ix O)) v dv:=by
          have hN: ∀a,Nn (Bc ix B O H0 D (acc.zip ah)) (Oc ix O) a->av (Bc ix B O H0 D (acc.zip ah)) O3 true a:=λa h=>by
           rcases h with h|⟨j,h⟩
           ·exact .inl h
           ·refine .inr ⟨j,?_⟩
            have hj:j∈Ar ix.length:=R5.sta.par.1 j a h
            rw[R5.sta.par.2 j hj]
            exact h
          exact R5.rep.mono hN hN
         have S7:=S6.withKp (kp:=(acc++[v]).zip (ah++[dv])) λp hp=>by
          rw[Lm au] at hp
          rcases Bi.mp hp with z|z
          ·exact S6.kep p z
          ·rw[As.mp (show p∈[(v,dv)] from z)]
           exact hv
         refine⟨hD5,by rw[au,Db];exact hz,ah++[dv],δ5.take ix.length,by rw[Ci];lia,by simp[au],?_,cH,?_,hc⟩
         ·exact S7.writeZ (.inl (.inr rfl)) hD5 hD
         ·intro b o e
          have hb:b≠D:=λz=>by rw[z,hD] at e;cases e
          rw[bQ hb]
          exact((cg.trans sm).trans ((R4.pur rfl).trans (R5.pur rfl))) b o e
        ·cases hc
   ·have e : i = ds.length := by lia
    subst e
    rw[Eo] at hc
    cases hc
    refine .inl ⟨by rw[<- rel.length];exact w.2,k D H1 ?_⟩
    have fP:Fr (OA (Oc ix O)) H0 H1:=S1.frm
    have hPO: ∀a,OA (Oc ix O) a->OA O a:=λa q0=>by
     obtain⟨j,e⟩:=q0
     unfold Oc at e
     cases hi:ix[j]? with
     | none => rw [hi] at e;cases e
     | some i => rw [hi] at e;exact ⟨i,e⟩
    have SL:=S0.laid (o:= .lst acc) hD
    have fL:Fr (OA (Oc ix O)) (bA H0 D (.lst acc)) H1:=λb o e n=>by
     by_cases hb:b=D
     ·subst hb
      rw[cH] at e
      cases e
      exact hD1
     ·rw[bQ hb] at e
      exact fP b o e n
    refine⟨SL.call (X2) (λi=> ?_) fL hPO,(p0.fr (P:=OA O)).trans (fP.mono hPO),λz=> ?_,.lst hD1 (VY au λp hp=>(S1.kep p hp).mono VV VV),S0.new hD,S0.fresh hD⟩
    ·by_cases dk:i<δ1.length
     ·rcases W5 (ix:=ix) (ss:=δf) (δ:=δ1) i dk hlc.symm with⟨j,x,e1,e2,e3⟩|⟨e1,e2⟩
      ·have e4:(δf++P1 nl)[j]? =some (.ow x):=by
        rw[Ae (Ad.mp e2).1]
        exact e2
       obtain⟨a,e5,_,w⟩:=S1.ow j x e4
       refine .inr ⟨a,x,?_,e3,w.mono VV⟩
       unfold Oc at e5
       rw[e1] at e5
       exact e5
      ·refine .inl ⟨e2,λa ea ⟨j,ej⟩ => ?_⟩
       obtain⟨x,ex⟩:=S1.dom j a ej
       unfold Oc at ej
       cases hi:ix[j]? with
       |none=>rw[hi] at ej;cases ej
       |some i'=>
        rw[hi] at ej
        have:i=i':=S0.inj i i' a ea ej
        subst this
        have hj:j<δf.length:=by rw[hlc];exact(Ad.mp hi).1
        rw[Ae hj] at ex
        exact e1 j x hi ex
     ·refine .inl ⟨?_,λa ea => ?_⟩
      ·rw [Bw (by rw [X2];lia),Bw (by lia)]
      ·obtain⟨x,ex⟩:=S0.dom i a ea
       exact absurd (Ad.mp ex).1 dk
    ·exact p0.trans cg
theorem a8.sqT{a:Addr}{xs:List V}(s:a8 H H')(h:WC K H a xs):WC K H' a xs:=Fr.tup (P:=λ_=>False) s.fr h
theorem zEH{tg:Expr}(hK:X.K=K)(h:PE X e (TV K ml true bt bi f))(hb:bi=true:=by rfl):PI X tg e (TIVp K ml (UP f)):=by
 subst hb
 refine((zB5 (K:=K) hK h).or (zE2 (K:=K) hK h)).imp λσ H R ⟨B,O,δ,ds,δ',S,q,k⟩=> ?_
 unfold UP at q
 cases h1:f δ with
 | none => rw [h1] at q;cases q
 |some p=>
  obtain⟨x,δ1⟩:=p
  rw[h1] at q
  cases x with
  |lst ds'=>
   cases q
   refine .inl ⟨B,O,δ,_,δ1,S,h1,λv H1 R1=> ?_⟩
   obtain⟨a,xs,rfl,sq,r⟩:=R1.rep.lstE
   refine⟨a,rfl,⟨xs,sq⟩,k _ H1 R1.sta (R1.pur rfl) ⟨xs,r,λH2 sm=>⟨λi x ex=>⟨⟨xs,x,sm.seq sq,ex⟩,λy H3 hy=> ?_⟩,xs,sm.seq sq,Ap _⟩⟩⟩
   obtain⟨e2,e3⟩:=hy
   have:=e3 xs (sm.seq sq)
   rw[ex] at this
   cases this
   exact⟨e2,rfl⟩
  |tup ds'=>
   cases q
   refine .inr ⟨B,O,δ,_,δ1,S,h1,λv H1 R1=> ?_⟩
   obtain⟨a,xs,rfl,sq,r⟩:=R1.rep.tupE
   refine⟨a,rfl,⟨xs,sq⟩,k _ H1 R1.sta (R1.pur rfl) ⟨xs,r,λH2 sm=>⟨λi x ex=>⟨⟨xs,x,sm.sqT sq,ex⟩,λy H3 hy=> ?_⟩,xs,sm.sqT sq,Ap _⟩⟩⟩
   obtain⟨e2,e3⟩:=hy
   have:=e3 xs (sm.sqT sq)
   rw[ex] at this
   cases this
   exact⟨e2,rfl⟩
  |_=>cases q
theorem BL{i:Nat}{y:Str}{py bu:Pos}{tg iter elt:Expr}{ifs:List Expr}{scope:Scope}{fi:VI}{gg:VG}{tb:VB}{fe:VF}(o:Bool)(hN:X.N.Nodup)(N':List Str)(ix:List Nat)(nl:Nat)(hi:PI X tg iter (TIVp K ml fi))(blk:BlkC X K N' ix scope tg ifs elt gg pt tb pe fe)(hi':X.N[i]? =some y:=by rfl)(hy:X.env.scope.names.lookup y=some .local:=by rfl)
  (hc:X.calm=true:=by rfl) (hk:scope.kind= .function:=by rfl) (hok:QG X.N N' ix scope.names X.env.kindOf=true:=by rfl) (hnl:N'.length=ix.length+nl:=by rfl) (hnd:ix.Nodup:=by decide) (hp:(pt && pe)=true:=by rfl) (hm:i∉ml:=by decide)
  (hsw:Fu (.ListComp elt [⟨tg,iter,ifs,0⟩] scope pos) (some (.Name y py)) bu.line X.env=pure true:=by rfl)
  (hs: ∀x,foldedSetIterable iter X.env x=pure x:=by intro _;rfl):PS X (.Assign [.Name y py] (.ListComp elt [⟨tg,iter,ifs,0⟩] scope pos) bu) (TM K ml (aC i (if o then xO (ZZ ix nl fi gg tb fe) else xV (ZZ ix nl fi gg tb fe)))):=by
 obtain⟨h1,h2⟩:=(Af _ _).mp hp
 subst h1 h2
 exact(JD hN hi' hy hc (X4 hk hok) hnl hi (blk (X4 hk hok).nd) hsw hs).imp λD σ H h=>HB (λσ H Q z=>A8 hnd (A9 (pu:=true) z)) hm h
end
section
variable{X:Cx}{K:An}{ml:List Nat}{e a b c:Expr}{es:List Expr}{pa ta ia pb tb ib pc tc ic pu bt bi ps bs:Bool}{fa fb fc f:VF}{B B':Bs}{O:Nat->Option Addr}{H H1 H':Hp}{σ:St}{δ δ':Ev}{v:V}{d:dE}{p:Addr}{pos:Pos}
structure FU(K:An)(x qual:Str)(st:Stmt)(dV:Value)(f:Addr)(fd:Et):Prop where
 ex: ∃(oc:Value) (od:Option Addr) (kV doc pm:Value) (an:Option Addr) (cdv ct:Value) (osl:Array (Option Value)),
  fd=Io x qual (ZL st) (aA st) (c5 st) dV kV doc pm an cdv ct/\K.lookup f=some ⟨oc,od,.func fd,osl⟩/\Jk K cdv qual=true
 kp:Gy K (.ref f)=true
theorem zD9{x qual:Str}{st:Stmt}{dV:Value}{f:Addr}{oc:Value}{od an:Option Addr}{osl:Array (Option Value)}{kV doc pm cdv ct:Value}(l:K.lookup f=some ⟨oc,od,.func (Io x qual (ZL st) (aA st) (c5 st) dV kV doc pm an cdv ct),osl⟩)
  (c:Jk K cdv qual=true) (k:Gy K (.ref f)=true):FU K x qual st dV f (Io x qual (ZL st) (aA st) (c5 st) dV kV doc pm an cdv ct):=⟨⟨oc,od,kV,doc,pm,an,cdv,ct,osl,rfl,l,c⟩,k⟩
theorem FU.okV{P:Bn}{w:World}{mg:Str->Option Value}{base:Heap}{x qual:Str}{st:Stmt}{dV:Value}{f:Addr}{fd:Et}{N ps:List Str}{k:Nat}{g:VS}(F:FU K x qual st dV f fd)(S:cS N ps (c5 st))(hps:ps.length<=N.length)
  (ca: ∀(cdv:Value) (A:Cy) (outer:List Env) (s:Ag) (H:Hp) (E:XK),YJ k (A.deeper (Jv qual (c5 st) s.heap.objs.size f cdv))→
   PR (KO CX0 P w K mg base N qual (c5 st) f cdv A outer s H E).nox (aA st) (TM K ml g)):bJ P w K mg base CX0 (k+1) f fd ps (spV K ml ps.length (bB N.length ml g)):=by
 obtain⟨oc,od,kV,doc,pm,an,cdv,ct,osl,rfl,lk,hcd⟩:=F.ex
 refine zE9 lk hcd S (λvs H Q E h=> ?_) λA outer s H vs Q E hr hsp=>⟨_,(ca cdv A outer s H E hr).nox,zEB hps hsp⟩
 obtain⟨Z,ds,r,os,hn,AV,_⟩:=h
 rw[AV.len,hn]
theorem FU.binds{x qual:Str}{st:Stmt}{T f:Addr}{fd:Et}{ps:List Str}{o:Obj}{its:Array Value}{n m:Nat}{ds:List Value}(F:FU K x qual st (.ref T) f fd)(ho:K.lookup T=some o)(hs:o.data= .seq its n)
  (h: ∀(kV doc pm:Value) (an:Option Addr) (cdv ct:Value) (us:List Value),us.length=m-> ∃k,bindArgs (Io x qual (ZL st) (aA st) (c5 st) (.ref T) kV doc pm an cdv ct) ⟨us,[]⟩=seqItems? (.ref T)>>=k/\k (some its)=pure (ps.zip (us++ds)))
  (hm:m+ds.length=ps.length:=by rfl):Q1 K fd ps ds:=by
 obtain⟨oc,od,kV,doc,pm,an,cdv,ct,osl,rfl,lk,hcd⟩:=F.ex
 intro s us hK hl
 obtain⟨k,h1,h2⟩:=h kV doc pm an cdv ct us (by rw[Bv] at hl;lia)
 exact BindsTo.of_defaults rfl (hK _ _ ho) hs h1 h2
structure DefD(P:Bn)(w:World)(K:An)(mg:Str->Option Value)(base:Heap)(x:Str)(k:Nat)(ps:List Str)(sp:Sp)(f:Addr)(v0:V):Prop where
 at_:mg x=some (.ref f)
 ok: ∃fd u0,bJ P w K mg base CX0 k f fd ps sp/\Q1 K fd ps [u0]/\bZ v0 u0
 kp:Gy K (.ref f)=true
def dflt(F:b9)(d:dE):b9:=λds=>F (ds++[d])
theorem AU{mF:List Nat}{m:Nat}{F:b9}{vs:List V}{Q:VK}{E:XK}(hv: ∀N H M,bG K N H M v d)(hn: ∀a,v≠ .ref a)(h:spV K mF m (dflt F d) vs H Q E):spV K mF (m+1) F (vs++[v]) H Q E:=by
 obtain⟨Z,ds,r,os,hl,A,hF,k⟩:=h
 have fm: ∀(i:Nat) (a:Addr),(vs++[v])[i]? =some (.ref a)->vs[i]? =some (.ref a):=λi a h=>by
  by_cases hi:i<vs.length
  ·rwa[Ae hi] at h
  ·rw [Bb (by lia)] at h
   cases hj:i - vs.length with
   |zero=>rw[hj] at h;cases h;exact absurd rfl (hn a)
   |succ j=>rw[hj] at h;simp at h
 have iz: ∀(i:Nat) (u:V),vs[i]? =some u->(vs++[v])[i]? =some u:=λi u h=>by
  rw[Ae (Ad.mp h).1]
  exact h
 have hP: ∀a,U6 mF (vs++[v]) a->U6 mF vs a:=λa ⟨i,hi,e⟩=>⟨i,hi,fm i a e⟩
 have hP': ∀a,U6 mF vs a->U6 mF (vs++[v]) a:=λa ⟨i,hi,e⟩=>⟨i,hi,iz i _ e⟩
 have hZ: ∀a,Zp Z mF (vs++[v]) a->Zp Z mF vs a:=λa h=>h.imp id (hP a)
 have hZ': ∀a,Zp Z mF vs a->Zp Z mF (vs++[v]) a:=λa h=>h.imp id (hP' a)
 refine⟨Z,ds++[d],r,os,by simp[hl],⟨by simp[A.len],λi hi=> ?_,λi x hi e=> ?_,λi x hi e=> ?_,λi j a hi hj e1 e2=>A.inj i j a hi hj (fm i a e1) (fm j a e2),A.zin⟩,hF,λu H' f w rr=>k u H' (f.mono hP) (λkk i a o e1 e2 e3=>(w kk i a o e1 (iz i _ e2) e3).mono hZ') (rr.mono hZ' hZ')⟩
 ·have:=A.mem i hi
  simp
  lia
 ·by_cases hi':i<ds.length
  ·rw[Ae hi'] at e
   obtain⟨u,e1,r1⟩:=A.va i x hi e
   exact⟨u,iz i u e1,r1.mono hZ hZ⟩
  ·rw [Bb (by lia)] at e
   cases hj:i - ds.length with
   |zero=>
    rw[hj] at e
    cases e
    have:i=vs.length:=by have:=A.len;lia
    subst this
    exact⟨v,by rw[Bb (by lia)];simp,hv _ _ _⟩
   |succ j=>rw[hj] at e;simp at e
 ·have hi':=A.mem i hi
  rw[Ae hi'] at e
  obtain⟨u,e1,w1,z1⟩:=A.ow i x hi e
  exact⟨u,iz i _ e1,w1.mono hZ,z1⟩
theorem BB{x:Str}{kk j m:Nat}{qs:List Str}{mF:List Nat}{F:b9}{ff:Addr}{p':Pos}{fs:NH}(hK:X.K=K)(D:DefD X.prog X.w K X.mg X.base x kk qs (spV K mF (m+1) F) ff v)(hv: ∀N H M,bG K N H M v d)(hn: ∀a,v≠ .ref a)(hr:YJ j X.A)(hk:kk<=j)(hg:Gl X x)(ha:PA X (e::es) (TAG K ml ps fs))(hdb:(x==("__debug__":Str))=false:=by decide)
  (he:Ah (e::es) X.env=(false,eval e X.env)::Ah es X.env:=by rfl) (hpl:(Ez pos (Ah es X.env)).any (·.1)=false:=by rfl):
  PE X (.Call (.Name x p') (e::es) [] pos) (TV K ml (ps && mF.isEmpty) true true (cV m mF (dflt F d) fs)):=by
 subst hK
 obtain⟨fd,u0,F',Bd,hd⟩:=D.ok
 refine(EV F' (hr.mono hk) hg D.at_ D.kp Bd (.cons hd .nil) zAL ha hdb he hpl).imp λσ H Q h=> ?_
 obtain⟨B,O,δ,as,δ',S,q,k⟩:=PB h
 exact⟨B,O,δ,as,δ',S,q,λvs H' R=>AU hv hn (by have z:spV X.K mF m (dflt F d) (vs++[]) H' Q E0:=k vs H' R;rwa[Dn] at z)⟩
noncomputable def W0:List (Str×b9)->Str->Option b9
 |[],_=>none
 |(y,F)::r,x=>if y=x then some F else W0 r x
def D6(X:Cx)(K:An)(mF:List Nat)(n:Nat)(tb:List (Str×b9)):Prop:= ∀x F a,W0 tb x=some F->Lk K mainGlobals x=some (some (.ref a))->FnAt X a (spV K mF n F)
theorem zC3{mF:List Nat}{n:Nat}:D6 X K mF n []:=λ_ _ _ h=>nomatch h
theorem W1{x:Str}{kk j n:Nat}{qs:List Str}{mF:List Nat}{F:b9}{ff:Addr}{tb:List (Str×b9)}(hK:X.K=K)(hm: ∀x a,Lk K mainGlobals x=some (some (.ref a))->X.mg x=some (.ref a))(hr:YJ j X.A)
  (D:Def X.prog X.w K X.mg X.base x kk qs (spV K mF n F) ff) (hk:kk<=j) (t:D6 X K mF n tb):D6 X K mF n ((x,F)::tb):=λy G a h1 h2=>by
 unfold W0 at h1
 split at h1
 ·rename_i hxy
  subst hxy
  cases h1
  have e:=(hm x a h2).symm.trans D.at_
  cases e
  subst hK
  exact D.fnAt hr hk
 ·exact t y G a h1 h2
noncomputable def NT(n:Nat)(mF:List Nat)(tb:List (Str×b9))(i:Nat)(fs:NH):VF:=λδ=>match δ[i]? with
 |some (.va (.fn x))=>(W0 tb x).bind λF=>cV n mF F fs δ
 |_=>none
theorem BC{y:Str}{i n:Nat}{mF:List Nat}{tb:List (Str×b9)}{p':Pos}{fs:NH}(ht:D6 X K mF n tb)(hf:PE X (.Name y p') (PN i))(ha:PA X (e::es) (TAG K ml ps fs))
  (he : Ah (e :: es) X.env = (false,eval e X.env) :: Ah es X.env := by rfl) (hpl : (Ez pos (Ah es X.env)).any (·.1) = false := by rfl) :
  PE X (.Call (.Name y p') (e::es) [] pos) (TV K ml (ps && mF.isEmpty) true true (NT n mF tb i fs)):=(zAK hf ha he hpl).imp λσ H Q h=>by
 obtain⟨B,O,δ,d,δ',S,q,k⟩:=h
 unfold NT at q
 split at q
 ·rename_i x hx
  cases hF:W0 tb x with
  | none => rw [hF] at q;cases q
  |some F=>
   rw[hF] at q
   obtain⟨v,e1,r⟩:=S.va i _ hx
   cases r with
   |fn h=>
    refine⟨_,e1,_,_,rfl,ht x F _ hF h,?_⟩
    obtain⟨B,O,δ,as,δ',S,q,k⟩:=PB (F:=F) (fs:=fs) (K:=K) (ml:=ml) (ps:=ps) (n:=n) (mF:=mF) (σ:=σ) (H:=H) (Q:=Q) ⟨B,O,δ,d,δ',S,q,k⟩
    exact⟨B,O,δ,as,δ',S,q,λvs H' R=>by have z:spV K mF n F (vs++[]) H' Q E0:=k vs H' R;rwa[Dn] at z⟩
 ·cases q
end
section
variable{X:Cx}{K:An}{ml:List Nat}{e a b c:Expr}{es:List Expr}{pa ta ia pb tb ib pc tc ic pu bt bi ps bs:Bool}{fa fb fc f:VF}{B B':Bs}{O:Nat->Option Addr}{H H1 H':Hp}{σ:St}{δ δ':Ev}{v:V}{d:dE}{p:Addr}{pos:Pos}
theorem QC.away{N N':Addr->Prop}{q:Addr}{o:HO}(hp:H p=none)(hN: ∀a,N' a->N a∨a=p)(w:QC K N H q d):QC K N' (bA H p o) q d:=by
 cases w with
 |lst q r=>exact .lst (cZ hp _ _ q) ((r.away hp _ _ hN).same (cZ hp))
 |dct q r=>exact .dct (cZ hp _ _ q) ((r.away hp _ _ hN).same (cZ hp))
end
section
variable{X:Cx}{K:An}{ml:List Nat}{e a b c:Expr}{es:List Expr}{pa ta ia pb tb ib pc tc ic pu bt bi ps bs:Bool}{fa fb fc f:VF}{pos p':Pos}{d:dE}{x:Str}
theorem vv(i:Nat)(hN:X.N[i]? =some x:=by rfl)(hv:Vis X.env.scope x:=by first|exact Lw rfl|exact Lx (Lw rfl)|exact Lx (Lx rfl))(hd:(x==("__debug__":Str))=false:=by decide)
  (hcd:(x==("__classdict__":Str))=false:=by decide):PE X (.Name x pos) (TV K ml true true true (fV i)):=zEI (GS hN hv hd hcd)
theorem vo(i:Nat)(hN:X.N[i]? =some x:=by rfl)(hv:Vis X.env.scope x:=by first|exact Lw rfl|exact Lx (Lw rfl)|exact Lx (Lx rfl))(hd:(x==("__debug__":Str))=false:=by decide)
  (hcd:(x==("__classdict__":Str))=false:=by decide):PE X (.Name x pos) (TV K ml true false true (fO i)):=zEJ (GS hN hv hd hcd)
theorem Z6(hu:X.A.units+1<cLine)(ha:PE X a (TV K ml pa ta ia fa))(hb:PE X b (TV K ml pb tb ib fb))(hK:X.K=K:=by rfl)(hx:J7 b:=by exact λ_ _=>rfl)(hs:(pb || (ta && ia))=true:=by rfl):PE X (.Subscript a b pos) (TV K ml (pa && pb) ia ia (f2 cJ fa fb)):=
 zIM (kIxA hK hu) zKE ha hb hx hs
theorem veq(hu:X.A.units+64<cLine)(ha:PE X a (TV K ml pa ta ia fa))(hb:PE X b (TV K ml pb tb ib fb))(hK:X.K=K:=by rfl)(hs:(pb || (ta && ia))=true:=by rfl):PE X (.Compare a [.Eq] [b] pos) (TV K ml (pa && pb) true true (f2 XH fa fb)):=
 YX (kEqD hK hu) s_eq ha hb (bH _) hs
theorem W2(hu:X.A.units+64<cLine)(ha:PE X a (TV K ml pa ta ia fa))(hb:PE X b (TV K ml pb tb ib fb))(hK:X.K=K:=by rfl)(hs:(pb || (ta && ia))=true:=by rfl):PT X (.Compare a [.Eq] [b] pos) (TB K ml (pa && pb) (fB (f2 XH fa fb))):=
 b7 (kEqD hK hu) s_eq ha hb (bH _) hs
theorem b8{kk j n:Nat}{qs:List Str}{mF:List Nat}{F:b9}{ff:Addr}{fs:NH}(D:Def X.prog X.w K X.mg X.base x kk qs (spV K mF n F) ff)(hr:YJ j X.A)(ha:PA X (e::es) (TAG K ml ps fs))(hK:X.K=K:=by rfl)(hk:kk<=j:=by decide)(hg:Gl X x:=by rfl)(hdb:(x==("__debug__":Str))=false:=by decide)
  (he:Ah (e::es) X.env=(false,eval e X.env)::Ah es X.env:=by rfl) (hpl:(Ez pos (Ah es X.env)).any (·.1)=false:=by rfl):
  PE X (.Call (.Name x p') (e::es) [] pos) (TV K ml (ps && mF.isEmpty) true true (cV n mF F fs)):=zC2 hK D hr hk hg ha hdb he hpl
theorem YB(hm:X.mg "len"=none) (ha:PE X a (TV K ml pa ta ia fa)) (hK:X.K=K:=by rfl) (hg:Gl X "len":=by rfl) (he:Ah (a::[]) X.env=(false,eval a X.env)::Ah [] X.env:=by rfl):PE X (.Call (.Name "len" p') [a] [] pos) (TV K ml pa true true (f1 ZB fa)):=
 BA (zKA hK) zJ6 hg hm zIC ha (by decide) (by decide) he
theorem vty{n:String}(hm:X.mg x=none)(hv:Bg x=some (.type n))(hg:Gl X x:=by rfl)(hn:x≠ "__name__":=by decide) (hd:(x==("__debug__":Str))=false:=by decide):PE X (.Name x pos) (TV K ml true true true (fC (.ty n))):=
 D0 (zCS (v:= .ty n) hg hm hv rfl hn hd) λ_ _ _=> .ty _
theorem HG(hm:X.mg "isinstance"=none) (ha:PE X a (TV K ml pa ta ia fa)) (hb:PE X b (TV K ml pb tb ib fb)) (hK:X.K=K:=by rfl) (hg:Gl X "isinstance":=by rfl)
  (he:Ah (a::[b]) X.env=(false,eval a X.env)::Ah [b] X.env:=by rfl) (he2:Ah (b::[]) X.env=(false,eval b X.env)::Ah [] X.env:=by rfl) (hpl:(Ez pos (Ah [b] X.env)).any (·.1)=false:=by rfl) (hs:(pb || (ta && ia))=true:=by rfl):
  PE X (.Call (.Name "isinstance" p') [a,b] [] pos) (TV K ml (pa && pb) true true (f2 RH fa fb)):=M3 (kIsi hK) zJ7 hg hm M7 ha hb (by decide) (by decide) he he2 hpl hs
end
def A4(K:An)(x:Str)(st:Stmt)(f:Addr):Prop:= ∃(oc:Value) (od:Option Addr) (kV doc pm:Value) (an:Option Addr) (cdv ct:Value) (osl:Array (Option Value)),Lk K mainGlobals x=some (some (.ref f))∧
 K.lookup f=some ⟨oc,od,.func (Io x x (ZL st) (aA st) (c5 st) .none kV doc pm an cdv ct),osl⟩/\Jk K cdv x=true/\Gy K (.ref f)=true
theorem a4{K:An}{x:Str}{st:Stmt}{f:Addr}{oc:Value}{od:Option Addr}{kV doc pm:Value}{an:Option Addr}{cdv ct:Value}{osl:Array (Option Value)}(a:Lk K mainGlobals x=some (some (.ref f)))
  (b:K.lookup f=some ⟨oc,od,.func (Io x x (ZL st) (aA st) (c5 st) .none kV doc pm an cdv ct),osl⟩) (c:Jk K cdv x=true) (d:Gy K (.ref f)=true):A4 K x st f:=⟨oc,od,kV,doc,pm,an,cdv,ct,osl,a,b,c,d⟩
theorem A4.ns{K:An}{x:Str}{st:Stmt}{f:Addr}(p:A4 K x st f):Lk K mainGlobals x=some (some (.ref f)):=by
 obtain⟨_,_,_,_,_,_,_,_,_,a,_⟩:=p
 exact a
theorem aB{P:Bn}{w:World}{K:An}{mg:Str->Option Value}{base h:Heap}{x:Str}{st:Stmt}{f:Addr}{ps:List Str}{sp:Sp}{k:Nat}(X:K.In h)(G:h.Ns mainGlobals mg)(p:A4 K x st f)(ok: ∀{fd:Et},YI K x x st f fd->bJ P w K mg base CX0 k f fd ps sp)
  (hb: ∀{kV doc pm:Value} {an:Option Addr} {cdv ct:Value} (us:List Value),us.length=ps.length->bindArgs (Io x x (ZL st) (aA st) (c5 st) .none kV doc pm an cdv ct) ⟨us,[]⟩=pure (ps.zip us)):Def P w K mg base x k ps sp f:=by
 obtain⟨oc,od,kV,doc,pm,an,cdv,ct,osl,a,b,c,d⟩:=p
 have U:=zBH (st:=st) b c d
 exact⟨Gp X G a,⟨_,ok U,U.binds λ_ _ _ _ _ _=>hb⟩,d⟩
theorem XI(P:Bn)(w:World)(K:An)(mg:Str->Option Value)(base:Heap){x qual:Str}{st:Stmt}{f:Addr}{fd:Et}(N ps:List Str)(k:Nat)(g:VS)(ml:List Nat)(F:YI K x qual st f fd)(S:cS N ps (c5 st))
  (ca: ∀(cdv:Value) (A:Cy) (outer:List Env) (s:Ag) (H:Hp) (E:XK) (hr:YJ k (A.deeper (Jv qual (c5 st) s.heap.objs.size f cdv))) (_:(A.deeper (Jv qual (c5 st) s.heap.objs.size f cdv)).units+64<cLine) (_:(A.deeper (Jv qual (c5 st) s.heap.objs.size f cdv)).units+1<cLine),
   PR (KO CX0 P w K mg base N qual (c5 st) f cdv A outer s H E).nox (aA st) (TM K ml g)) (hps:ps.length<=N.length:=by decide):bJ P w K mg base CX0 (k+1) f fd ps (spV K ml ps.length (bB N.length ml g)):=
 YI.okV F S hps λcdv A outer s H E hr=>ca cdv A outer s H E hr hr.units (zE8 hr)
theorem aK{N P:List Str}{sc:Scope}(a:sc.kind= .function:=by rfl)(b:sc.isCoroutine=false:=by rfl)(c:sc.isGenerator=false:=by rfl)(d:N.Nodup:=by decide+kernel)(e:N.take P.length=P:=by rfl)
  (f: ∀x∈P,sc.names.lookup x=some .local∨sc.names.lookup x=some .cell:=by decide+kernel) (g: ∀y∈sc.names,y.2≠Bm:=by decide+kernel):cS N P sc:=⟨a,b,c,d,e,f,g⟩
theorem NA(elt tg1 it1 tg2 it2:Expr)(ax ak:List Expr)(scope:Scope)(pos:Pos)(it acc:Value)(env:Env):
  Of (.ListComp elt [⟨tg1,it1,ax,0⟩,⟨tg2,it2,ak,0⟩] scope pos) 0 it acc env=(do
   Ky it1.pos
   match<- pyNext it with
   | none => pure (.done .next)
   |some v=>
    Er tg1 it v
    assign tg1 env v
    let mut ok:=true
    for c in ax do
     if ok then ok<- isTrue c env (eval c env)
    if ok then
     let x<- eval it2 env
     Ky it2.pos
     let x<- foldedSetIterable it2 env x
     let _<- runOwn (.compStart (.ListComp elt [⟨tg1,it1,ax,0⟩,⟨tg2,it2,ak,0⟩] scope pos) 1 (<- Kz [x] (Op x)) acc env) env
    Rf (.compLoop (.ListComp elt [⟨tg1,it1,ax,0⟩,⟨tg2,it2,ak,0⟩] scope pos) 0 it acc env)):=by rfl
theorem NB(elt tg1 it1 tg2 it2:Expr)(ax ak:List Expr)(scope:Scope)(pos:Pos)(it acc:Value)(env:Env):
  Of (.ListComp elt [⟨tg1,it1,ax,0⟩,⟨tg2,it2,ak,0⟩] scope pos) 1 it acc env=(do
   Ky it2.pos
   match<- pyNext it with
   | none => pure (.done .next)
   |some v=>
    Er tg2 it v
    assign tg2 env v
    let mut ok:=true
    for c in ak do
     if ok then ok<- isTrue c env (eval c env)
    if ok then
     (do let _<- call (.builtin "list.append") [acc,<- eval elt env])
    Rf (.compLoop (.ListComp elt [⟨tg1,it1,ax,0⟩,⟨tg2,it2,ak,0⟩] scope pos) 1 it acc env)):=by rfl
theorem F6{prog:Bn}{w:World}{A:Cy}{s:Ag}{elt tg1 it1 tg2 it2:Expr}{ax ak:List Expr}{scope:Scope}{pos:Pos}{it acc:Value}{env:Env}{R:Ot->Ag->Prop}(I:Nat->Ag->Prop)
  (turn : ∀ n s,I n s -> wpAny (model prog w) A (pyNext it) (λr s₁ => match r with
   | none => R (.ok .next) s₁
   | some v => wpAny (model prog w) A (Er tg2 it v) (λ_ s₀ => wpAny (model prog w) A (assign tg2 env v) (λ_ s₂ =>
     wpAny (model prog w) A (forIn ak true λc r=>if r=true then do let ok<- isTrue c env (eval c env);pure (Cp ok) else pure (Cp r)) (λok s₃=>if ok=true then wpAny (model prog w) A (eval elt env) (λx s₄=>
      wpAny (model prog w) A (call (.builtin "list.append") [acc,x]) (λ_ s₅=> ∃m,m<n/\I m s₅) (λ_ _=>False) s₄) (λ_ _=>False) s₃
      else∃m,m<n/\I m s₃) (λ_ _=>False) s₂)
     (λ_ _=>False) s₀) (λ_ _=>False) s₁) (λ_ _=>False) s)
  (n:Nat) (h:I n s):Fw (model prog w) A (.compLoop (.ListComp elt [⟨tg1,it1,ax,0⟩,⟨tg2,it2,ak,0⟩] scope pos) 1 it acc env) R s:=by
 refine Np rfl I (λn s hI=> ?_) n h
 show wpAny _ A ((Of (.ListComp elt [⟨tg1,it1,ax,0⟩,⟨tg2,it2,ak,0⟩] scope pos) 1 it acc env).onRaise (λx=>do Oy x env;Lj x)) _ _ s
 refine Oz ?_
 rw[NB]
 refine Aa (Dq (Aa (Av (turn n s hI) (λr s₁ h₁=> ?_) λ_ _ h'=>h'.elim)))
 cases r with
 |none=>exact Ai h₁
 |some v=>
  refine Aa (Av h₁ (λ_ s₀ h₀'=> ?_) λ_ _ h'=>h'.elim)
  refine Aa (Av h₀' (λ_ s₂ h₂=> ?_) λ_ _ h'=>h'.elim)
  refine Aa (Av h₂ (λokb s₃ h₃=> ?_) λ_ _ h'=>h'.elim)
  cases okb with
  |false=>exact Ai ⟨rfl,h₃⟩
  |true=>exact Aa (Aa (Av h₃ (λx s₄ h₄=>Aa (Av h₄ (λ_ s₅ h₅=>Ai (Ai ⟨rfl,h₅⟩)) λ_ _ h'=>h'.elim)) λ_ _ h'=>h'.elim))
theorem F5{prog:Bn}{w:World}{A:Cy}{s:Ag}{elt tg1 it1 tg2 it2:Expr}{ax ak:List Expr}{scope:Scope}{pos:Pos}{it acc:Value}{env:Env}{R:Ot->Ag->Prop}(I:Nat->Ag->Prop)
  (turn : ∀ n s,I n s -> wpAny (model prog w) A (pyNext it) (λr s₁ => match r with
   | none => R (.ok .next) s₁
   | some v => wpAny (model prog w) A (Er tg1 it v) (λ_ s₀ => wpAny (model prog w) A (assign tg1 env v) (λ_ s₂ =>
     wpAny (model prog w) A (forIn ax true λc r=>if r=true then do let ok<- isTrue c env (eval c env);pure (Cp ok) else pure (Cp r)) (λok s₃=>if ok=true then
      wpAny (model prog w) A (eval it2 env) (λx s₄=>wpAny (model prog w) A (Op x) (λi2 s₅=>
       Fw (model prog w) A (.compStart (.ListComp elt [⟨tg1,it1,ax,0⟩,⟨tg2,it2,ak,0⟩] scope pos) 1 i2 acc env) (λr s₆=>match r with| .ok _=> ∃m,m<n/\I m s₆| .error _=>False) s₅) (λ_ _=>False) s₄) (λ_ _=>False) s₃
      else∃m,m<n/\I m s₃) (λ_ _=>False) s₂)
     (λ_ _=>False) s₀) (λ_ _=>False) s₁) (λ_ _=>False) s)
  (n : Nat) (h : I n s) (hs : ∀ x,foldedSetIterable it2 env x = pure x := by intro _;rfl) : Fw (model prog w) A (.compLoop (.ListComp elt [⟨tg1,it1,ax,0⟩,⟨tg2,it2,ak,0⟩] scope pos) 0 it acc env) R s := by
 refine Np rfl I (λn s hI=> ?_) n h
 show wpAny _ A ((Of (.ListComp elt [⟨tg1,it1,ax,0⟩,⟨tg2,it2,ak,0⟩] scope pos) 0 it acc env).onRaise (λx=>do Oy x env;Lj x)) _ _ s
 refine Oz ?_
 rw[NA]
 refine Aa (Dq (Aa (Av (turn n s hI) (λr s₁ h₁=> ?_) λ_ _ h'=>h'.elim)))
 cases r with
 | none => exact Ai h₁
 |some v=>
  refine Aa (Av h₁ (λ_ s₀ h₀'=> ?_) λ_ _ h'=>h'.elim)
  refine Aa (Av h₀' (λ_ s₂ h₂=> ?_) λ_ _ h'=>h'.elim)
  refine Aa (Av h₂ (λokb s₃ h₃=> ?_) λ_ _ h'=>h'.elim)
  cases okb with
  |false=>exact Ai ⟨rfl,h₃⟩
  |true=>
   refine Aa (Av h₃ (λx s₄ h₄=> ?_) λ_ _ h'=>h'.elim)
   refine Aa (Dq (Aa (wpAny_of_eq (hs x) (Aa (Ce (Av h₄ (λi2 s₅ h₅=> ?_) λ_ _ h'=>h'.elim))))))
   refine Aa (wpAny_runOwn (Jj h₅ λr s₆ h₆=> ?_))
   cases r with
   |ok f=>exact Ai ⟨rfl,h₆⟩
   |error e=>exact h₆.elim
theorem VO{prog:Bn}{w:World}{A:Cy}{s:Ag}{elt tg1 it1 tg2 it2:Expr}{ax ak:List Expr}{scope:Scope}{pos:Pos}{it acc:Value}{env:Env}{R:Ot->Ag->Prop}
  (h0:Fw (model prog w) A (.compLoop (.ListComp elt [⟨tg1,it1,ax,0⟩,⟨tg2,it2,ak,0⟩] scope pos) 1 it acc env) R s)
  (h : wpAny (model prog w) A (Op it) (λit' s' => Fw (model prog w) A (.compLoop (.ListComp elt [⟨tg1,it1,ax,0⟩,⟨tg2,it2,ak,0⟩] scope pos) 1 it' acc env) R s')
   (notedBy (model prog w) A env λx s'=>R (.error x) s') s):
  Fw (model prog w) A (.compStart (.ListComp elt [⟨tg1,it1,ax,0⟩,⟨tg2,it2,ak,0⟩] scope pos) 1 it acc env) R s:=by
 refine codeAny_of_tree ?_
 show wpAny _ _ ((compStart (.ListComp elt [⟨tg1,it1,ax,0⟩,⟨tg2,it2,ak,0⟩] scope pos) 1 it acc env).onRaise (λx=>do Oy x env;Ky theWindowsPlace)) _ _ s
 refine wpAny_notedAt ?_
 unfold compStart
 show wpAny _ _ (ask>>=_) _ _ s
 refine Aa (wpAny_askSetting (wpAny_ite ?_))
 split
 ·first
   |exact Aa (Ai (Ai (And.intro rfl h0)))
   |exact Ai (And.intro rfl h0)
 ·first
   |exact Aa (Gc (Aa (Dq (Aa (Av h (λit' s' h'=>Ai (And.intro rfl h')) λ_ _ x=>x)))))
   |(refine Aa (Gc ?_);show wpAny _ _ (Ky it2.pos>>=_) _ _ s;exact Aa (Dq (Aa (Av h (λit' s' h'=>Ai (And.intro rfl h')) λ_ _ x=>x))))
def EmW(D:Addr)(wi:TI)(g:TG)(tt:TT)(te:TE)(j5:List V)(σ:St)(H:Hp)(N:List V->St->Hp->Prop):Prop:=
 wi σ H λJ H0=> ∃W:Nat->Nat->List V->St->Hp->Prop,(∃m,W 0 m j5 σ H0)/\ ∀i m acc σ1 H1,W i m acc σ1 H1→
  (J.stop i H1/\N acc σ1 H1)∨
  (J.go i H1/\ ∃N2:List V->St->Hp->Prop,(∀ag σ' H',N2 ag σ' H'-> ∃m',m'<m/\W (i+1) m' ag σ' H')∧
   ∀x H2,J.yld i H1 x H2->g x σ1 H2 λσ2 H3=>tt σ2 H3 λb H4=>if b=true then te σ2 H4 λv H5=>H5 D=some (.lst acc)/\acc.length<sizeLine/\N2 (acc++[v]) σ2 (bA H5 D (.lst (acc++[v]))) else N2 acc σ2 H4)
theorem zKP{Y:Cx}{elt tg1 it1 tg2 it2:Expr}{ax ak:List Expr}{scope:Scope}{pos:Pos}{wi:TI}{g:TG}{tt:TT}{te:TE}{aa:List (Addr×Obj)}{s:Ag}{σ:St}{H:Hp}{D:Addr}{j5:List V}{N:List V->St->Hp->Prop}
  (hc : Y.calm = true) (hxe : Y.xe = λ_ _ => False) (hi : PI Y tg2 it2 wi) (hg : PG Y tg2 g) (ht : PTs Y ak tt) (he : PE Y elt te) (I : cN Y aa σ H s) (h : EmW D wi g tt te j5 σ H N) :
  wpAny (model Y.prog Y.w) Y.A (eval it2 Y.env) (λx s₄=>wpAny (model Y.prog Y.w) Y.A (Op x) (λi2 s₅=>
   Fw (model Y.prog Y.w) Y.A (.compStart (.ListComp elt [⟨tg1,it1,ax,0⟩,⟨tg2,it2,ak,0⟩] scope pos) 1 i2 (.ref D) Y.env) (λr s₆=>match r with| .ok _=> ∃ag σ' H',cN Y aa σ' H' s₆/\N ag σ' H'| .error _=>False) s₅) (λ_ _=>False) s₄) (λ_ _=>False) s:=by
 have nx: ∀{α:Sort _} {x:Value} {s:Ag},Y.xe x s->α:=λz=>by rw[hxe] at z;exact z.elim
 refine Av (hi aa s σ H _ I h) (λv s1 h1=>Av h1 (λitv s2 h2=> ?_) λ_ _ z=>nx z) λ_ _ z=>nx z
 obtain⟨it,fp,tn,J,H2,e,I2,T,st2,f2,W,⟨m0,w0⟩,turn⟩:=h2
 subst e
 have stat: ∀{H':Hp},(∀b∈fp,H' b=none)-> ∀b∈fp,QB Y aa H' b:=λhn b hb=>⟨hn b hb,(f2 b hb).2⟩
 have loop: ∀s₃:Ag,s₃=s2->Fw (model Y.prog Y.w) Y.A (.compLoop (.ListComp elt [⟨tg1,it1,ax,0⟩,⟨tg2,it2,ak,0⟩] scope pos) 1 (.ref it) (.ref D) Y.env) (λr s₆=>match r with| .ok _=> ∃ag σ' H',cN Y aa σ' H' s₆/\N ag σ' H'| .error _=>False) s₃:=by
  rintro s₃ rfl
  refine F6 (λn s'=> ∃i σ' H' acc,cN Y aa σ' H' s'/\tn i s'.heap/\(∀b∈fp,H' b=none)/\W i n acc σ' H') ?_ m0 ⟨0,σ,H2,j5,I2,st2,λb hb=>(f2 b hb).1,w0⟩
  rintro n s3 ⟨i,σ3,H3,acc,I3,st3,fr3,w3⟩
  rcases turn i n acc σ3 H3 w3 with⟨stop,qn⟩|⟨go,N2,hN,step⟩
  ·refine Av (T.done Y rfl rfl rfl hc i aa s3 σ3 H3 (λ_ _ => False) I3 (stat fr3) st3 stop) (λr s4 ⟨hr,I4⟩ => ?_) λ_ _ z => z
   subst hr
   exact⟨acc,σ3,H3,I4,qn⟩
  ·refine Av (T.item Y rfl rfl rfl hc i aa s3 σ3 H3 (λ_ _ => False) I3 (stat fr3) st3 go) (λr s4 ⟨u,hr,h4⟩ => ?_) λ_ _ z => z
   subst hr
   refine Av h4 (λ_ s5 ⟨x,H5,I5,r5,y5,st5,fr5⟩=> ?_) λ_ _ z=>z
   have I5':=I5.pinned (stat fr5) (T.obj _ _ st5)
   refine Av (hg _ s5 σ3 H5 x u _ I5' r5 (step x H5 y5)) (λ_ s6 ⟨σ6,H6,I6,q6⟩=> ?_) λ_ _ z=>nx z
   have again: ∀{H7:Hp} {s7:Ag} {ag:List V},cN Y (aa++SN fp s5.heap) σ6 H7 s7->N2 ag σ6 H7-> ∃m,m<n/\ ∃i σ' H' acc,cN Y aa σ' H' s7/\tn i s7.heap/\(∀b∈fp,H' b=none)/\W i m acc σ' H':=λ{H7 s7 ag} I7 n7=>by
    obtain⟨m',hm,w7⟩:=hN ag σ6 H7 n7
    refine⟨m',hm,i+1,σ6,H7,ag,I7.unpinned,T.keep _ _ _ st5 λb hb o e=>(I7.pin (b,o) (At _ (At _ (Y9 hb e)))).1,λb hb=> ?_,w7⟩
    obtain⟨o,e,d⟩:=T.obj _ _ st5 b hb
    exact(I7.pin (b,o) (At _ (At _ (Y9 hb e)))).2.1
   refine Av (ht _ s6 σ6 H6 _ I6 q6) (λokb s7 ⟨H7,I7,q7⟩=> ?_) λ_ _ z=>nx z
   cases okb with
   | false => exact again I7 q7
   |true=>
    refine Av (he _ s7 σ6 H7 _ I7 q7) (λv s8 ⟨y,H8,I8,r8,hD8,hz8,n8⟩=> ?_) λ_ _ z=>nx z
    refine Av (aW (X:=Y) _ s8 σ6 H8 (.ref D) [y] (.ref D) [v] (λ_ H9=>N2 (acc++[y]) σ6 H9) I8 rfl (.cons r8 .nil)
     ⟨D,acc,y,rfl,rfl,hD8,hz8,n8⟩) (λ_ s9 ⟨_,H9,I9,_,n9⟩=>again I9 n9) λ_ _ z=>nx z
 exact VO (loop _ rfl) (T.self _ 0 _ _ _ st2 (loop _ rfl))
structure Blk2(Y:Cx)(tg:Expr)(ifs:List Expr)(tg2 it2:Expr)(ak:List Expr)(elt:Expr)(g:TG)(tt:TT)(wi2:TI)(g2:TG)(tt2:TT)(te:TE):Prop where
 tg:PG Y tg g
 ts:PTs Y ifs tt
 it:PI Y tg2 it2 wi2
 tg2:PG Y tg2 g2
 ts2:PTs Y ak tt2
 el:PE Y elt te
def zBU(D:Addr)(ix:List Nat)(nl:Nat)(J:It)(g:TG)(tt:TT)(wi2:TI)(g2:TG)(tt2:TT)(te:TE)(σ:St)(H0:Hp)(Q:Hp->Prop):Prop:=
 ∃W:Nat->Nat->List V->Hp->Prop,(∃m,W 0 m [] (bA H0 D (.lst [])))/\ ∀i m acc H1,W i m acc H1→
  (J.stop i H1/\Q H1)∨
  (J.go i H1/\ ∃N:List V->Hp->Prop,(∀ag H',N ag H'-> ∃m',m'<m/\W (i+1) m' ag H')∧
   ∀x H2,J.yld i H1 x H2->g x (bC ix σ++Be nl none) H2 λσ2 H3=>σ2.take ix.length=bC ix σ∧
    tt σ2 H3 λb H4=>if b=true then EmW D wi2 g2 tt2 te acc σ2 H4 (λag σ' H'=>σ'.take ix.length=bC ix σ/\N ag H') else N acc H4)
def A0(ix:List Nat)(nl:Nat)(wi:TI)(g:TG)(tt:TT)(wi2:TI)(g2:TG)(tt2:TT)(te:TE):TE:=λσ H Q=>wi σ H λJ H0=> ∀D,H0 D=none->zBU D ix nl J g tt wi2 g2 tt2 te σ H0 λH'=>Q (.ref D) H'
theorem F4{X:Cx}{aa:List (Addr×Obj)}{σ:St}{H2:Hp}{s2:Ag}{E:Value->Ag->Prop}{tg iter tg2 it2 elt:Expr}{ifs ak:List Expr}{scope:Scope}{pos:Pos}{N':List Str}{ix:List Nat}{nl:Nat}{g g2:TG}{tt tt2:TT}{wi2:TI}{te:TE}
  {cl:List (Str×Addr)} {J:It} {fp:List Addr} {it:Addr} {tn:Nat->Heap->Prop} {Q:V->Hp->Prop} {RR:Value->Addr->Ot->Ag->Prop}
  (hs2: ∀(env:Env) (x:Value),foldedSetIterable it2 env x=pure x) (hc:X.calm=true) (S:TH X N' ix scope) (hnl:N'.length=ix.length+nl)
  (bq: ∀x c,cl.lookup x=some c->X.env.cells.lookup x=some c) (gf: ∀x,(x,Bm)∈scope.names-> ∃c,cl.lookup x=some c)
  (blk: ∀(cl:List (Str×Addr)) (s1:Ag) (H1:Hp) (fp:List Addr),Blk2 (bR X N' scope cl s1 H1 fp) tg ifs tg2 it2 ak elt g tt wi2 g2 tt2 te)
  (I2:cN X aa σ H2 s2) (T:HL X.prog X.w X.K tg J fp it tn) (st2:tn 0 s2.heap) (f2: ∀b∈fp,QB X aa H2 b)
  (h : ∀ D,H2 D = none -> zBU D ix nl J g tt wi2 g2 tt2 te σ H2 λH' => Q (.ref D) H')
  (fin: ∀(D C:Addr) (s':Ag) (H':Hp),cN X aa σ H' s'->(∃m,s'.heap.Ns C m)->C≠X.env.locals->(∀x c,X.env.cells.lookup x=some c->c≠C)→
   (∀(σ':St) (s'':Ag) (h'':Heap),cN X aa σ' H' s''->Ey C s''.heap h''->cN X aa σ' H' {s'' with heap:=h''})->Q (.ref D) H'->RR (.ref D) C (.ok .next) s'):
  wpAny (model X.prog X.w) X.A (Ql []) (λacc s₃=>wpAny (model X.prog X.w) X.A (Jr scope X.env.globals cl [] X.env.qual none .none (some X.env)) (λgj s₄=>
   Fw (model X.prog X.w) X.A (.compStart (.ListComp elt [⟨tg,iter,ifs,0⟩,⟨tg2,it2,ak,0⟩] scope pos) 0 (.ref it) acc {gj with scope:=relabel scope X.env}) (RR acc gj.locals) s₄) E s₃) E s2:=by
 refine Cu (PZ ?_)
 dsimp only
 have I1:cN X aa σ (bA H2 s2.heap.objs.size (.lst [])) {s2 with heap:=s2.heap.push {cls:= .type "list",dict:=none,data:= .seq ([]:List Value).toArray}}:=
  I2.lnew (t':=s2.toks) (ys:=[]) (its:=[]) .nil (Dc _)
 have hDn:H2 s2.heap.objs.size=none:=I2.hok.fresh (Ap _)
 obtain⟨W,⟨m0,w0⟩,turn⟩:=h _ hDn
 generalize hs1:({s2 with heap:=s2.heap.push {cls:= .type "list",dict:=none,data:= .seq ([]:List Value).toArray}}:Ag)=s1 at I1
 have cn:s2.heap.push {cls:= .type "list",dict:=none,data:= .seq ([]:List Value).toArray}=s1.heap:=by rw[<- hs1]
 rw[cn]
 have old: ∀b o,s1.heap.get? b=some o->(Kb (s1.heap.push {cls:= .type "dict",data:= .dict #[]}) scope.names).get? b=some o:=λb o e=>Ja _ _ _ _ (Ac _ e)
 have hns₁:(Kb (s1.heap.push {cls:= .type "dict",data:= .dict #[]}) scope.names).Ns s1.heap.objs.size (λ_=>none):=(Rc s1.heap (.type "dict")).keeps λb o e=>Ja _ _ _ _ e
 have okc:=cellsFrom_ok scope.names (s1.heap.push {cls:= .type "dict",data:= .dict #[]}) (s1.heap.objs.size+1) [] ⟨λ_ _ hm=>(nomatch hm),Jx⟩ (by rw[Cw];exact Ap _)
 rw[Cw] at okc
 generalize hz1:Kb (s1.heap.push {cls:= .type "dict",data:= .dict #[]}) scope.names=h₁ at old hns₁ okc
 rw[UH]
 generalize hnc:cellsFrom (s1.heap.objs.size+1) scope.names []=nc at okc
 have ncm: ∀x c,nc.lookup x=some c->(x,Cb)∈scope.names/\h₁.IsCell c none/\s1.heap.objs.size+1<=c:=λx c e=>by
  have hm:=Bu e
  exact⟨KL (n:=s1.heap.objs.size+1) (by rw[hnc];exact hm),okc.empty x c hm⟩
 have nch: ∀x,(x,Cb)∈scope.names-> ∃c,nc.lookup x=some c:=λx h=>by
  obtain⟨c,hc⟩:=KJ (n:=s1.heap.objs.size+1) h
  rw[hnc] at hc
  exact SG hc
 have eg: ∀b∈fp,b<s2.heap.objs.size:=λb hb=>by
  obtain⟨o,e,_⟩:=T.obj _ _ st2 b hb
  exact Am e
 have g8:s1.heap.objs.size=s2.heap.objs.size+1:=by rw[<- cn,Cw]
 have ji: ∀b o,s2.heap.get? b=some o->s1.heap.get? b=some o:=λb o e=>by rw[<- cn];exact Ac _ e
 have cp: ∀x c,cl.lookup x=some c->c<s1.heap.objs.size:=λx c e=>by
  obtain⟨v,q⟩:=I1.cell x c (bq x c e)
  exact q.lt
 have qh: ∀b∈CW X.stack,b<s1.heap.objs.size:=λb hb=>by
  obtain⟨_,o,ho,_⟩:=(I1.stack).mem hb
  exact Am ho
 have okY:(bR X N' scope (nc++cl) s1 (bA H2 s2.heap.objs.size (.lst [])) fp).Ok:=by
  refine⟨I1.ok.mod,S.kind,I1.ok.glob,I1.ok.blt,Ap _,λx y c e1 e2=> ?_,λx hx=> ?_,λx c hf e=> ?_,I1.ok.hd,I1.ok.frames,.inl rfl,λb hb=>⟨?_,λx c e=> ?_⟩,λb o e=> ?_,
   Ei I1.ok.bsz I1.sz,λb o e hb=> ?_,λb hb hb2=> ?_,I1.stack,I1.stkFree⟩
  ·rcases aV e1 with n1|⟨_,o1⟩
   ·rcases aV e2 with n2|⟨_,o2⟩
    ·exact Mr okc.apart (Bu n1) (Bu n2)
    ·exact absurd (Aw (cp y c o2) (Ee (ncm x c n1).2.2)) (Ca _)
   ·rcases aV e2 with n2|⟨_,o2⟩
    ·exact absurd (Aw (cp x c o1) (Ee (ncm y c n2).2.2)) (Ca _)
    ·exact I1.ok.inj x y c (bq x c o1) (bq y c o2)
  ·cases q:nc.lookup x with
   | some c => exact ⟨c,XW q⟩
   |none=>
    rcases XG hx with h|h
    ·obtain⟨c,hc⟩:=gf x h
     exact⟨c,(WW q).trans hc⟩
    ·obtain⟨c,hc⟩:=nch x h
     rw[q] at hc
     cases hc
  ·have hx:(x,Cb)∈scope.names:=Bu (beq_iff_eq.mp hf)
   obtain⟨c',hc'⟩:=nch x hx
   have:=XW (m:=cl) hc'
   have e:(nc++cl).lookup x=some c:=e
   rw[this] at e
   cases e
   exact Ee (ncm x c hc').2.2
  ·exact Bf (Aw (eg b hb) (by show s2.heap.objs.size <= s1.heap.objs.size;rw [g8];exact Fm _))
  ·rcases aV e with n1|⟨_,o1⟩
   ·have h1:=eg b hb
    have h2:=(ncm x c n1).2.2
    rw[g8] at h2
    exact λz=>absurd (z▸h2) (Oa (Aw h1 (Ei (Fm _) (Fm _))))
   ·exact(f2 b hb).2.2.2.2.1 x c (bq x c o1)
  ·exact I1.bs b o e
  ·have:=(f2 b hb)
   obtain⟨o',e',_⟩:=T.obj _ _ st2 b hb
   have hlt:=Aw (Am e) I1.ok.bsz
   rcases this.2.2.2.1 with z|z
   ·exact I1.ok.noex b o e z
   ·exact absurd (Aw hlt z) (Ca _)
  ·rcases Aj.mp (I1.stkSub b hb2) with z|z
   ·exact(f2 b hb).2.1 z
   ·exact(f2 b hb).2.2.1 z
 have dm : (bC ix σ ++ Be nl none).length = N'.length := by rw [Bv,Ht,hnl];simp [bC]
 have IY:cN (bR X N' scope (nc++cl) s1 (bA H2 s2.heap.objs.size (.lst [])) fp) [] (bC ix σ++Be nl none) (bA H2 s2.heap.objs.size (.lst [])) {s2 with heap:=h₁}:=by
  refine⟨okY,?_,I2.bare,Un.kept old,⟨_,hns₁,λj x v e1 e2 e3=> ?_⟩,λx c e=> ?_,I1.hok.fresh (Ap _),λx c e=> ?_,λp hp=>absurd (show p∈([]:List (Addr×Obj)) from hp) (by simp),I1.hok.kept old,dm⟩
  ·show s2.os=s1.os
   rw[<- hs1]
  ·have hj:j<ix.length:=by
    by_cases hj:j<ix.length
    ·exact hj
    ·exfalso
     have hl:(bC ix σ).length=ix.length:=by simp[bC]
     rw[Bb (by rw[hl];lia),Cs] at e2
     split at e2<;>cases e2
   have hl:(bC ix σ).length=ix.length:=by simp[bC]
   rw [Ae (by rw [hl];exact hj)] at e2
   have hci:=S.cap j hj
   obtain⟨i,hi⟩: ∃i,ix[j]? =some i:=⟨ix[j],by simp[hj]⟩
   rw[hi] at hci
   have hNi:X.N[i]? =some x:=by
    have:N'[j]? =X.N[i]? :=hci
    rw[<- this];exact e1
   have hσ:σ[i]? =some (some v):=by
    unfold bC at e2
    rw[Cr,hi] at e2
    have e2':(σ[i]?).join=some v:=by simpa using e2
    cases q:σ[i]? with
    | none => rw [q] at e2';cases e2'
    | some o => rw [q] at e2';rw [show o = some v from e2']
   have hfl:scope.names.lookup x=some .free:=S.capf x (by
    rw[Hv]
    exact⟨j,by rw[Cf hj];exact e1⟩)
   have bm:(x,Bm)∈scope.names:=Bu hfl
   have hpk:X.env.kindOf x=some .cell∨X.env.kindOf x=some .free:=by exact S.free (x,.free) bm rfl
   have jl:Vis X.env.scope x:=by
    rcases hpk with z|z
    ·exact .inr (.inl z)
    ·exact .inr (.inr z)
   obtain⟨m,hn,jq⟩:=I1.loc
   obtain⟨u,ru,l⟩:=jq i x v hNi hσ jl
   refine⟨u,ru,?_⟩
   rcases l with⟨hk,_⟩|⟨hk,c,ec,z⟩
   ·rcases hpk with q|q<;>rw[hk] at q<;>cases q
   ·obtain⟨c',hc'⟩:=gf x bm
    have:c'=c:=by
     have:=bq x c' hc'
     rw[ec] at this;exact(Cd this).symm
    subst this
    have jm:nc.lookup x=none:=by
     cases q:nc.lookup x with
     |none=>rfl
     |some d=>
      have:=S.cel (x,.cell) (ncm x d q).1 rfl
      rw[hfl] at this
      cases this
    refine .inr ⟨VW hfl,c',(WW jm).trans hc',?_⟩
    ·obtain⟨o,ho,hd⟩:=z
     exact⟨o,old _ _ ho,hd⟩
  ·rcases aV e with n1|⟨_,o1⟩
   ·exact⟨none,(ncm x c n1).2.1⟩
   ·obtain⟨v,o,ho,hd⟩:=I1.cell x c (bq x c o1)
    exact⟨v,o,old _ _ ho,hd⟩
  ·rcases aV e with n1|⟨_,o1⟩
   ·exact I1.hok.fresh (Ee (ncm x c n1).2.2)
   ·exact I1.freeC x c (bq x c o1)
 have jt: ∀{pY:List (Addr×Obj)} {σ':St} {H':Hp} {s':Ag},cN (bR X N' scope (nc++cl) s1 (bA H2 s2.heap.objs.size (.lst [])) fp) pY σ' H' s'->cN X aa σ H' s':=λ{pY σ' H' s'} J'=>
  I1.call' J'.os J'.base J'.hok J'.bare λb hb=>⟨(f2 b hb).2.2.2.1,(f2 b hb).2.1,(f2 b hb).2.2.2.2.1,(f2 b hb).2.2.2.2.2⟩
 have stat: ∀{H':Hp} {pY:List (Addr×Obj)},(∀b∈fp,H' b=none)->pY=[]-> ∀b∈fp,QB (bR X N' scope (nc++cl) s1 (bA H2 s2.heap.objs.size (.lst [])) fp) pY H' b:=λ{H' pY} hn hp b hb=>by
  subst hp
  refine⟨hn b hb,(okY.exf b hb).1,okY.exfs b hb,.inl hb,(okY.exf b hb).2,λp hp=>absurd (show p∈([]:List (Addr×Obj)) from hp) (by simp)⟩
 have st1:tn 0 h₁:=T.keep 0 s2.heap h₁ st2 λb hb o e=>old b o (ji b o e)
 have fr1: ∀b∈fp,(bA H2 s2.heap.objs.size (.lst [])) b=none:=λb hb=>by
  rw[bQ (Bf (eg b hb))]
  exact(f2 b hb).1
 have loop: ∀s₃:Ag,s₃={s2 with heap:=h₁}→
   Fw (model X.prog X.w) X.A (.compLoop (.ListComp elt [⟨tg,iter,ifs,0⟩,⟨tg2,it2,ak,0⟩] scope pos) 0 (.ref it) (.ref s2.heap.objs.size) (Og scope (nc++cl) s1.heap.objs.size X.env)) (RR (.ref s2.heap.objs.size) s1.heap.objs.size) s₃:=by
  rintro s₃ rfl
  refine F5 (hs:=hs2 _) (λn s'=> ∃i σ' H' acc,cN (bR X N' scope (nc++cl) s1 (bA H2 s2.heap.objs.size (.lst [])) fp) [] σ' H' s'/\σ'.take ix.length=bC ix σ/\tn i s'.heap/\(∀b∈fp,H' b=none)/\W i n acc H') ?_ m0
   ⟨0,_,_,[],IY,by rw [Co (by simp [bC])];exact Cg (by simp [bC]),st1,fr1,w0⟩
  rintro n s' ⟨i,σ',H',acc,J',hσ,st',fr',w'⟩
  have Jc:cN (bR X N' scope (nc++cl) s1 (bA H2 s2.heap.objs.size (.lst [])) fp) [] (bC ix σ++Be nl none) H' s':=by
   refine J'.weak (by rw[dm];exact J'.len.symm) λj v e=> ?_
   have hl:(bC ix σ).length=ix.length:=by simp[bC]
   by_cases hj:j<ix.length
   ·rw [Ae (by rw [hl];exact hj),<- hσ,Cf hj] at e
    exact e
   ·rw [Bb (by rw [hl];lia),Cs] at e
    split at e<;>cases e
  rcases turn i n acc H' w' with⟨stop,q⟩|⟨go,N,hN,step⟩
  ·refine Av (T.done (bR X N' scope (nc ++ cl) s1 (bA H2 s2.heap.objs.size (.lst [])) fp) rfl rfl rfl hc i [] s' _ H' (λ_ _ => False) Jc (stat fr' rfl) st' stop) (λr s4 ⟨hr,I4⟩ => ?_) λ_ _ z => z
   subst hr
   have IX:=jt I4
   obtain⟨m,hm,_⟩:=I4.loc
   exact fin _ _ s4 H' IX ⟨m,hm⟩ (Fv I1.lt) (λx c e z=>by
    obtain⟨v,q⟩:=I1.cell x c e
    have:=q.lt
    rw[z] at this
    exact Ca _ this) (λσ'' s'' h'' I'' sb=>cN.offNew I1 I'' I4.free λb o hb e=>(sb.2 b hb).trans e) q
  ·refine Av (T.item (bR X N' scope (nc ++ cl) s1 (bA H2 s2.heap.objs.size (.lst [])) fp) rfl rfl rfl hc i [] s' _ H' (λ_ _ => False) Jc (stat fr' rfl) st' go) (λr s4 ⟨u,hr,h4⟩ => ?_) λ_ _ z => z
   subst hr
   refine Av h4 (λ_ s5 ⟨x,H5,I5,r5,y5,st5,fr5⟩=> ?_) λ_ _ z=>z
   have I5':=I5.pinned (stat fr5 rfl) (T.obj _ _ st5)
   obtain⟨btg,bts,bit,bt2,bs2,bel⟩:=blk (nc++cl) s1 (bA H2 s2.heap.objs.size (.lst [])) fp
   refine Av (btg _ s5 _ H5 x u _ I5' r5 (step x H5 y5)) (λ_ s6 ⟨σ6,H6,I6,hσ6,q6⟩=> ?_) λ_ _ z=>z
   have again: ∀{σ7:St} {H7:Hp} {s7:Ag} {ag:List V},σ7.take ix.length=bC ix σ->cN (bR X N' scope (nc++cl) s1 (bA H2 s2.heap.objs.size (.lst [])) fp) ([]++SN fp s5.heap) σ7 H7 s7->N ag H7→
     ∃m,m<n/\ ∃i σ' H' acc,cN (bR X N' scope (nc++cl) s1 (bA H2 s2.heap.objs.size (.lst [])) fp) [] σ' H' s7/\σ'.take ix.length=bC ix σ/\tn i s7.heap/\(∀b∈fp,H' b=none)/\W i m acc H':=λ{σ7 H7 s7 ag} hσ7 I7 n7=>by
    obtain⟨m',hm,w7⟩:=hN ag H7 n7
    refine⟨m',hm,i+1,σ7,H7,ag,I7.unpinned,hσ7,T.keep _ _ _ st5 λb hb o e=>(I7.pin (b,o) (At _ (At _ (Y9 hb e)))).1,λb hb=> ?_,w7⟩
    obtain⟨o,e,d⟩:=T.obj _ _ st5 b hb
    exact(I7.pin (b,o) (At _ (At _ (Y9 hb e)))).2.1
   refine Av (bts _ s6 σ6 H6 _ I6 q6) (λokb s7 ⟨H7,I7,q7⟩=> ?_) λ_ _ z=>z
   cases okb with
   | false => exact again hσ6 I7 q7
   |true=>
    refine Av (zKP (Y:=bR X N' scope (nc++cl) s1 (bA H2 s2.heap.objs.size (.lst [])) fp) hc rfl bit bt2 bs2 bel I7 q7) (λx s8 h8=>Av h8 (λi2 s9 h9=>Jj h9 λr s10 h10=> ?_) λ_ _ z=>z) λ_ _ z=>z
    cases r with
    |ok f=>
     obtain⟨ag,σ',H',I9,hσ9,n9⟩:=h10
     exact again hσ9 I9 n9
    |error e=>exact h10.elim
 have he:({newEnv scope s1.heap.objs.size X.env.globals (nc++cl) X.env.qual none .none (some X.env) builtinsNs with scope:=relabel scope X.env}:Env)=Og scope (nc++cl) s1.heap.objs.size X.env:=rfl
 exact Kt (loop _ rfl) (T.self _ 0 _ _ _ st1 (loop _ rfl))
noncomputable def NC(gg:VG)(tb:VB)(fe:VF):List dE->List dE->Ev->Option (List dE×Ev)
 |[],acc,δ=>some (acc,δ)
 |d::r,acc,δ=>(gg d δ).bind λδ1=>(tb δ1).bind λp=>if p.1=true then(fe p.2).bind λq=>if acc.length<16777216 then NC gg tb fe r (acc++[q.1]) q.2 else none else NC gg tb fe r acc p.2
noncomputable def X5(n nl:Nat)(gg:VG)(tb:VB)(fi2:VI)(gg2:VG)(tb2:VB)(fe:VF):List dE->List dE->Ev->Option (List dE×Ev)
 |[],acc,δ=>some (acc,δ)
 |d::r,acc,δ=>(gg d (δ++P1 nl)).bind λδ1=>(tb δ1).bind λp=>if p.1=true then(fi2 p.2).bind λu=>(NC gg2 tb2 fe u.1 acc u.2).bind λq=>X5 n nl gg tb fi2 gg2 tb2 fe r q.1 (q.2.take n) else X5 n nl gg tb fi2 gg2 tb2 fe r acc (p.2.take n)
noncomputable def QK(ix:List Nat)(nl:Nat)(fi:VI)(gg:VG)(tb:VB)(fi2:VI)(gg2:VG)(tb2:VB)(fe:VF):VF:=λδ=>(fi δ).bind λp=>(X5 ix.length nl gg tb fi2 gg2 tb2 fe p.1 [] (bX ix p.2)).map λq=>(.lst q.1,ZH ix q.2 p.2)
section
variable{X:Cx}{K:An}{ml:List Nat}{e a b c:Expr}{es:List Expr}{pi pt pe pi2 pt2 pu bt bi ps bs:Bool}{f:VF}{B B':Bs}{O:Nat->Option Addr}{H H0 H1 H':Hp}{σ:St}{δ δ':Ev}{v:V}{d:dE}{p:Addr}{pos:Pos}{ix:List Nat}{nl:Nat}
theorem A7{fi fi2:VI}{gg gg2:VG}{tb tb2:VB}{fe:VF}(hnd:ix.Nodup){Q:VK}(h:TN K ml (pi && (pt && pi2 && pt2 && pe)) (QK ix nl fi gg tb fi2 gg2 tb2 fe) σ H Q):
  A0 ix nl (CG K ml pi fi) (BR K (Ar ix.length) gg) (TB K (Ar ix.length) pt tb) (CG K (Ar ix.length) pi2 fi2) (BR K (Ar ix.length) gg2) (TB K (Ar ix.length) pt2 tb2) (TV K (Ar ix.length) pe true true fe) σ H Q:=by
 obtain⟨B,O,δ,d,δ2,S,q,k⟩:=h
 unfold QK at q
 cases h1:fi δ with
 | none => rw [h1] at q;cases q
 |some p=>
  obtain⟨ds,δ1⟩:=p
  rw[h1] at q
  have q : ((X5 ix.length nl gg tb fi2 gg2 tb2 fe ds [] (bX ix δ1)).map λq => (dE.lst q.1,ZH ix q.2 δ1)) = some (d,δ2) := q
  cases h2:X5 ix.length nl gg tb fi2 gg2 tb2 fe ds [] (bX ix δ1) with
  | none => rw [h2] at q;cases q
  |some z=>
   obtain⟨res,δf⟩:=z
   rw[h2] at q
   cases q
   refine⟨B,O,δ,ds,δ1,S,h1,λJ kps H0 S0 f0 p0 wk D hD=> ?_⟩
   have hDO : ∀ j,Oc ix O j ≠ some D := λj e => by
    unfold Oc at e
    cases hi:ix[j]? with
    | none => rw [hi] at e;cases e
    |some i=>
     rw[hi] at e
     obtain⟨o,q⟩:=S0.nin (.inr ⟨i,e⟩)
     rw[hD] at q
     cases q
   have di : ∀ kp j,ix.length <= j -> (Bc ix B O H0 D kp).mu j = none := λkp j hj => by
    show(ix[j]?).bind O=none
    rw[Bw hj]
    rfl
   refine⟨λi m acc H1=>m=ds.length - i/\i<=ds.length/\ ∃(ah:List dE) (δc:Ev),δc.length=ix.length/\acc.length=ah.length∧
     aS K (Ar ix.length) (Bc ix B O H0 D (kps++acc.zip ah)) (Oc ix O) H1 (bC ix σ++Be nl none) (δc++P1 nl)/\H1 D=some (.lst acc)/\((pt && pi2 && pt2 && pe)=true->a8 H0 H1)∧
     X5 ix.length nl gg tb fi2 gg2 tb2 fe (ds.drop i) ah δc=some (res,δf),
    ⟨ds.length,rfl,Dc _,[],bX ix δ1,by simp [bX],rfl,by
     rw[Jz,Dn]
     exact S0.unkeep.inner hD hnd λp hp=>S0.kep p (Bp _ hp),cH,λ_=>cZ hD,h2⟩,?_⟩
   rintro i m acc H1 ⟨rfl,hi,ah,δc,hlc,au,S1,hD1,cg,hc⟩
   have w := wk (Nn (Bc ix B O H0 D (kps ++ acc.zip ah)) (Oc ix O)) H1 λp hp => S1.kep p (Bp _ hp)
   by_cases hlt:i<ds.length
   ·obtain ⟨go,yl⟩ := w.1 i ds[i] (by simp [hlt])
    rw[Cv hlt] at hc
    simp only[X5] at hc
    cases g1:gg ds[i] (δc++P1 nl) with
    | none => rw [g1] at hc;cases hc
    |some δ3=>
     rw[g1] at hc
     simp only[Ak] at hc
     cases g2:tb δ3 with
     | none => rw [g2] at hc;cases hc
     |some z=>
      obtain⟨kk,δ4⟩:=z
      rw[g2] at hc
      simp only[Ak] at hc
      refine .inr ⟨go,λag H'=> ∃(ah:List dE) (δc:Ev),δc.length=ix.length/\ag.length=ah.length∧
       aS K (Ar ix.length) (Bc ix B O H0 D (kps++ag.zip ah)) (Oc ix O) H' (bC ix σ++Be nl none) (δc++P1 nl)/\H' D=some (.lst ag)/\((pt && pi2 && pt2 && pe)=true->a8 H0 H')∧
       X5 ix.length nl gg tb fi2 gg2 tb2 fe (ds.drop (i + 1)) ah δc = some (res,δf),λag H' w' => ⟨ds.length - (i + 1),by lia,rfl,hlt,w'⟩,λx H2 hy => ?_⟩
      obtain⟨sm,rx⟩:=yl x H2 hy
      refine⟨_,_,_,ds[i],δ3,S1.same sm,rx,g1,λσ3 O3 S3 m3=> ?_⟩
      have ln3:ix.length<=σ3.length:=by
       by_cases hz:ix.length=0
       ·lia
       ·have hj : ix.length - 1 < ix.length := by lia
        have:=m3 (ix.length - 1) (Bt.mpr hj)
        have hs:(bC ix σ++Be nl none)[ix.length - 1]? ≠none:=by
         rw [Ae (by rw [ZI];exact hj)]
         simp[bC,hj]
        rw[<- this] at hs
        have oa : ix.length - 1 < σ3.length := Ko λz => hs (Gj.mpr z)
        lia
      have hσ3:=QY ln3 m3
      refine ⟨hσ3,_,_,δ3,kk,δ4,S3,g2,λH4 R4 => ?_⟩
      have hD4 : H4 D = some (.lst acc) := R4.frm _ _ (sm _ _ hD1) λz => by
       obtain⟨j,e⟩:=z
       have:=(R4.sta.old j D e).1
       exact absurd (.inl (.inr rfl)) this
      have ln4 : ix.length <= δ4.length := by rw [<- R4.sta.len];exact ln3
      cases kk with
      |false=>
       rw[if_neg Dd] at hc
       refine PH ⟨ah,δ4.take ix.length,by rw [Ci];lia,au,R4.sta.turn (di _) (ZI ix σ) hσ3 ln4,hD4,λz => ?_,hc⟩
       simp only[Af] at z
       exact ((cg (by simp [z.1.1.1,z.1.1.2,z.1.2,z.2])).trans sm).trans (R4.pur z.1.1.1)
      |true=>
       rw[if_pos rfl] at hc
       cases g3:fi2 δ4 with
       | none => rw [g3] at hc;cases hc
       |some z=>
        obtain⟨ds2,δ5⟩:=z
        rw[g3] at hc
        simp only[Ak] at hc
        cases g4:NC gg2 tb2 fe ds2 ah δ5 with
        | none => rw [g4] at hc;cases hc
        |some z2=>
         obtain⟨iw,δ2f⟩:=z2
         rw[g4] at hc
         simp only[Ak] at hc
         refine PJ ⟨_,_,δ4,ds2,δ5,R4.sta,g3,λJ2 fj H5 S5 f5 p5 wk2=> ?_⟩
         have hD5 : H5 D = some (.lst acc) := f5 _ _ hD4 λz => by
          obtain⟨j,e⟩:=z
          have:=(R4.sta.old j D e).1
          exact absurd (.inl (.inr rfl)) this
         refine⟨λi2 m2 cr σ1 H6=>m2=ds2.length - i2/\i2<=ds2.length/\ ∃(az:List dE) (δc1:Ev) (O1:Nat->Option Addr),cr.length=az.length∧
           aS K (Ar ix.length) (Bc ix B O H0 D (fj++(kps++cr.zip az))) O1 H6 σ1 δc1/\σ1.take ix.length=bC ix σ/\ix.length<=σ1.length/\H6 D=some (.lst cr)/\((pt && pi2 && pt2 && pe)=true->a8 H0 H6)∧
           NC gg2 tb2 fe (ds2.drop i2) az δc1=some (iw,δ2f),
          ⟨ds2.length,rfl,Dc _,ah,δ5,_,au,S5,hσ3,ln3,hD5,λz => by
           simp only[Af] at z
           exact(((cg (by simp[z.1.1.1,z.1.1.2,z.1.2,z.2])).trans sm).trans (R4.pur z.1.1.1)).trans (p5 z.1.1.2),g4⟩,?_⟩
         rintro i2 m2 cr σ1 H6 ⟨rfl,hi2,az,δc1,O1,dn,S6,hσ1,ln1,hD6,jj,hc6⟩
         have w2 := wk2 (Nn (Bc ix B O H0 D (fj ++ (kps ++ cr.zip az))) O1) H6 λp hp => S6.kep p (Bp _ hp)
         by_cases dj:i2<ds2.length
         ·obtain ⟨go2,yl2⟩ := w2.1 i2 ds2[i2] (by simp [dj])
          rw[Cv dj] at hc6
          simp only[NC] at hc6
          cases k1:gg2 ds2[i2] δc1 with
          | none => rw [k1] at hc6;cases hc6
          |some δ7=>
           rw[k1] at hc6
           simp only[Ak] at hc6
           cases k2:tb2 δ7 with
           | none => rw [k2] at hc6;cases hc6
           |some z3=>
            obtain⟨kk2,δ8⟩:=z3
            rw[k2] at hc6
            simp only[Ak] at hc6
            refine .inr ⟨go2,λag σ' H'=> ∃(az:List dE) (δc1:Ev) (O1:Nat->Option Addr),ag.length=az.length∧
             aS K (Ar ix.length) (Bc ix B O H0 D (fj++(kps++ag.zip az))) O1 H' σ' δc1/\σ'.take ix.length=bC ix σ/\ix.length<=σ'.length/\H' D=some (.lst ag)/\((pt && pi2 && pt2 && pe)=true->a8 H0 H')∧
             NC gg2 tb2 fe (ds2.drop (i2 + 1)) az δc1 = some (iw,δ2f),λag σ' H' w' => ⟨ds2.length - (i2 + 1),by lia,rfl,dj,w'⟩,λx2 H7 hy2 => ?_⟩
            obtain⟨sm2,rx2⟩:=yl2 x2 H7 hy2
            refine⟨_,_,_,ds2[i2],δ7,S6.same sm2,rx2,k1,λσ7 O7 S7 m7=> ?_⟩
            have hσ7:σ7.take ix.length=bC ix σ:=by
             rw[<- hσ1]
             refine Jy λj=> ?_
             rw[Ms,Ms]
             split
             ·rename_i hj
              exact m7 j (Bt.mpr hj)
             ·rfl
            have ln7:ix.length<=σ7.length:=by
             have:(σ7.take ix.length).length=ix.length:=by rw[hσ7,ZI]
             rw[Ci] at this
             lia
            refine⟨_,_,δ7,kk2,δ8,S7,k2,λH8 R8=> ?_⟩
            have hD8 : H8 D = some (.lst cr) := R8.frm _ _ (sm2 _ _ hD6) λz => by
             obtain⟨j,e⟩:=z
             have:=(R8.sta.old j D e).1
             exact absurd (.inl (.inr rfl)) this
            cases kk2 with
            |false=>
             rw[if_neg Dd] at hc6
             refine PH ⟨az,δ8,_,dn,R8.sta,hσ7,ln7,hD8,λz=> ?_,hc6⟩
             have z0:=z
             simp only[Af] at z
             exact((jj z0).trans sm2).trans (R8.pur z.1.2)
            |true=>
             rw[if_pos rfl] at hc6
             cases k3:fe δ8 with
             | none => rw [k3] at hc6;cases hc6
             |some z4=>
              obtain⟨dv,δ9⟩:=z4
              rw[k3] at hc6
              simp only[Ak] at hc6
              split at hc6
              ·rename_i hz
               refine PJ ⟨_,_,δ8,dv,δ9,R8.sta,k3,λv H9 R9=> ?_⟩
               have hD9:H9 D=some (.lst cr):=R9.frm _ _ hD8 λz=>by
                obtain⟨j,e⟩:=z
                have:=(R9.sta.old j D e).1
                exact absurd (.inl (.inr rfl)) this
               have hv:bG K (Nn (Bc ix B O H0 D (fj++(kps++cr.zip az))) O7) H9 (Nn (Bc ix B O H0 D (fj++(kps++cr.zip az))) O7) v dv:=R9.rep.mono (λa h=>by
                rcases h with h|h
                ·exact .inl h
                ·exact .inr h) (λa h => by
                rcases h with h|h
                ·exact .inl h
                ·exact .inr h)
               have S10:=R9.sta.withKp (kp:=fj++(kps++(cr++[v]).zip (az++[dv]))) λp hp=>by
                rw[Lm dn,<- Ax,<- Ax] at hp
                rcases Bi.mp hp with z|z
                ·exact R9.sta.kep p (by rw [<- Ax];exact z)
                ·rw[As.mp (show p∈[(v,dv)] from z)]
                 exact hv
               refine⟨hD9,by rw[dn,Db];exact hz,az++[dv],δ9,O7,by simp[dn],?_,hσ7,ln7,cH,λz=> ?_,hc6⟩
               ·exact S10.writeZ (.inl (.inr rfl)) hD9 hD
               ·intro b o e
                have hb:b≠D:=λz=>by rw[z,hD] at e;cases e
                rw[bQ hb]
                have z0:=z
                simp only[Af] at z
                exact(((jj z0).trans sm2).trans ((R8.pur z.1.2).trans (R9.pur z.2))) b o e
              ·cases hc6
         ·have e : i2 = ds2.length := by lia
          subst e
          rw[Eo] at hc6
          cases hc6
          refine .inl ⟨w2.2,hσ1,iw,δ2f.take ix.length,by rw[Ci,<- S6.len];lia,dn,?_,hD6,jj,hc⟩
          have S11:=S6.turn (nl:=nl) (di _) (ZI ix σ) hσ1 (by rw[<- S6.len];exact ln1)
          exact S11.withKp (kp:=kps++cr.zip iw) λp hp=>S11.kep p (At _ hp)
   ·have e : i = ds.length := by lia
    subst e
    rw[Eo] at hc
    cases hc
    refine .inl ⟨w.2,k D H1 ?_⟩
    have fP:Fr (OA (Oc ix O)) H0 H1:=S1.frm
    have hPO: ∀a,OA (Oc ix O) a->OA O a:=λa q0=>by
     obtain⟨j,e⟩:=q0
     unfold Oc at e
     cases hi:ix[j]? with
     | none => rw [hi] at e;cases e
     | some i => rw [hi] at e;exact ⟨i,e⟩
    have SL:=S0.unkeep.laid (o:= .lst acc) hD
    have fL:Fr (OA (Oc ix O)) (bA H0 D (.lst acc)) H1:=λb o e n=>by
     by_cases hb:b=D
     ·subst hb
      rw[cH] at e
      cases e
      exact hD1
     ·rw[bQ hb] at e
      exact fP b o e n
    refine⟨SL.call (X2) (λi=> ?_) fL hPO,f0.trans (fP.mono hPO),λz=> ?_,.lst hD1 (VY au λp hp=>(S1.kep p (At _ hp)).mono VV VV),S0.unkeep.new hD,S0.fresh hD⟩
    ·by_cases dk:i<δ1.length
     ·rcases W5 (ix:=ix) (ss:=δf) (δ:=δ1) i dk hlc.symm with⟨j,x,e1,e2,e3⟩|⟨e1,e2⟩
      ·have e4:(δf++P1 nl)[j]? =some (.ow x):=by
        rw[Ae (Ad.mp e2).1]
        exact e2
       obtain⟨a,e5,_,w⟩:=S1.ow j x e4
       refine .inr ⟨a,x,?_,e3,w.mono VV⟩
       unfold Oc at e5
       rw[e1] at e5
       exact e5
      ·refine .inl ⟨e2,λa ea ⟨j,ej⟩ => ?_⟩
       obtain⟨x,ex⟩:=S1.dom j a ej
       unfold Oc at ej
       cases hi:ix[j]? with
       |none=>rw[hi] at ej;cases ej
       |some i'=>
        rw[hi] at ej
        have:i=i':=S0.inj i i' a ea ej
        subst this
        have hj:j<δf.length:=by rw[hlc];exact(Ad.mp hi).1
        rw[Ae hj] at ex
        exact e1 j x hi ex
     ·refine .inl ⟨?_,λa ea => ?_⟩
      ·rw [Bw (by rw [X2];lia),Bw (by lia)]
      ·obtain⟨x,ex⟩:=S0.dom i a ea
       exact absurd (Ad.mp ex).1 dk
    ·rw[Af] at z
     exact(p0 z.1).trans (cg z.2)
end
section
variable{X:Cx}{K:An}{ml:List Nat}{pi pt pe pi2 pt2 pu:Bool}{pos:Pos}{ix:List Nat}{nl:Nat}{f:VF}
theorem zA9{i:Nat}{y:Str}{py bu:Pos}{tg iter tg2 it2 elt:Expr}{ifs ak:List Expr}{scope:Scope}{N':List Str}{wi wi2:TI}{g g2:TG}{tt tt2:TT}{te:TE}
  (hN:X.N.Nodup) (hi':X.N[i]? =some y) (hy:X.env.scope.names.lookup y=some .local)
  (hc:X.calm=true) (S:TH X N' ix scope) (hnl:N'.length=ix.length+nl) (hi:PI X tg iter wi)
  (blk: ∀(cl:List (Str×Addr)) (s1:Ag) (H1:Hp) (fp:List Addr),Blk2 (bR X N' scope cl s1 H1 fp) tg ifs tg2 it2 ak elt g tt wi2 g2 tt2 te)
  (hsw:Fu (.ListComp elt [⟨tg,iter,ifs,0⟩,⟨tg2,it2,ak,0⟩] scope pos) (some (.Name y py)) bu.line X.env=pure true:=by rfl)
  (hs: ∀x,foldedSetIterable iter X.env x=pure x:=by intro _;rfl) (hs2: ∀(env:Env) (x:Value),foldedSetIterable it2 env x=pure x:=by intro _ _;rfl):PS X (.Assign [.Name y py] (.ListComp elt [⟨tg,iter,ifs,0⟩,⟨tg2,it2,ak,0⟩] scope pos) bu) (AY (A0 ix nl wi g tt wi2 g2 tt2 te) (IB i)):=by
 intro aa s σ H D I h
 rw[Lo _ _ _ _ hsw]
 refine Aa (Dq (Aa ?_))
 show wpAny _ X.A (do let _<- comprehension (.ListComp elt [⟨tg,iter,ifs,0⟩,⟨tg2,it2,ak,0⟩] scope pos) scope X.env _ (Ql []) false (eval iter X.env) (some (assign (.Name y py) X.env))) _ _ s
 obtain⟨cl,e1,e2,e3⟩:=KN (env:=X.env) (scope:=scope) λy hy hf=>I.ok.has y.1 (S.free y hy hf)
 refine Aa (Av (Gs (use:=some (assign (.Name y py) X.env)) (cl:=cl) (Q:=λ_ s'=>SP X aa D .next s') rfl hs e1 S.kind S.names
  (Av (hi aa s σ H _ I h) (λxv s₁ h₁=>Av h₁ (λitv s₂ h₂=> ?_) λ_ _ e=>e) λ_ _ e=>e)) (λ_ s' hq=>Ai (Ai hq)) λ_ _ e=>e)
 obtain⟨it,fp,tn,J,H2,e,I2,T,st2,f2,q⟩:=h₂
 subst e
 refine F4 (Q:=λv H'=>D.nx (σ.set i (some v)) H') (RR:=λacc C=>compPost (model X.prog X.w) X.A X.xe (some (assign (.Name y py) X.env)) (λ_ s'=>SP X aa D .next s') acc C) hs2 hc S hnl e2 e3 blk I2 T st2 f2 q ?_
 intro Dl C s' H' I' hm hC1 hC2 hb hq
 obtain⟨m,hm⟩:=hm
 show wpAny _ X.A (assign (.Name y py) X.env (.ref Dl)) _ _ _
 refine Gb (QX I' hN hi' (.inl hy) (v:= .ref Dl) rfl (λs'' I'' ⟨a,hsb,ha⟩=> ?_) (.inr hy))
 have hCa:C≠a:=by
  rcases ha with z|z
  ·rw[z];exact hC1
  ·exact Dk (hC2 y a z)
 exact⟨m,hm.sameBut hsb hCa,λh'' sb=>⟨_,H',hb _ s'' h'' I'' sb,hq⟩⟩
theorem BK{i:Nat}{y:Str}{py bu:Pos}{tg iter tg2 it2 elt:Expr}{ifs ak:List Expr}{scope:Scope}{N':List Str}{fi fi2:VI}{gg gg2:VG}{tb tb2:VB}{fe:VF}(o:Bool)
  (hN:X.N.Nodup) (hi':X.N[i]? =some y) (hy:X.env.scope.names.lookup y=some .local)
  (hc:X.calm=true) (hk:scope.kind= .function) (hok:QG X.N N' ix scope.names X.env.kindOf=true) (hnl:N'.length=ix.length+nl) (hnd:ix.Nodup) (hi:PI X tg iter (CG K ml pi fi))
  (blk: ∀(cl:List (Str×Addr)) (s1:Ag) (H1:Hp) (fp:List Addr),Blk2 (bR X N' scope cl s1 H1 fp) tg ifs tg2 it2 ak elt (BR K (Ar ix.length) gg) (TB K (Ar ix.length) pt tb) (CG K (Ar ix.length) pi2 fi2) (BR K (Ar ix.length) gg2) (TB K (Ar ix.length) pt2 tb2) (TV K (Ar ix.length) pe true true fe))
  (hm:i∉ml:=by decide)
  (hsw:Fu (.ListComp elt [⟨tg,iter,ifs,0⟩,⟨tg2,it2,ak,0⟩] scope pos) (some (.Name y py)) bu.line X.env=pure true:=by rfl)
  (hs: ∀x,foldedSetIterable iter X.env x=pure x:=by intro _;rfl) (hs2: ∀(env:Env) (x:Value),foldedSetIterable it2 env x=pure x:=by intro _ _;rfl):PS X (.Assign [.Name y py] (.ListComp elt [⟨tg,iter,ifs,0⟩,⟨tg2,it2,ak,0⟩] scope pos) bu) (TM K ml (aC i (if o then xO (QK ix nl fi gg tb fi2 gg2 tb2 fe) else xV (QK ix nl fi gg tb fi2 gg2 tb2 fe)))):=
 (zA9 hN hi' hy hc (X4 hk hok) hnl hi blk hsw hs hs2).imp λD σ H h=>HB (λσ H Q z=>A7 hnd (A9 (pu:=pi && (pt && pi2 && pt2 && pe)) z)) hm h
end
end L2
namespace TS
open PySem PySem.W PyProof.Rows
structure En where
 prog:Bn
 w:World
 A:Cy
 s:Ag
 κ:Oh
 it:Array Keyed
def En.Ok(n:Nat)(ck:Nat->Nat->Bool)(e:En):Prop:= ∀i j,i<n->j<n-> ∀C:Bool->Ag->Prop,C (ck i j) e.s->kas_cmp e.prog e.w e.A e.κ e.it i j C e.s
abbrev En.at(e:En)(i:Nat):Keyed:=Ie e.it i
abbrev En.of(e:En)(p:Array Nat):Array Keyed:=p.map (Ie e.it)
structure Pu where
 p:Array Nat
 pd:Array (Nat×Nat×Nat)
 g:Nat
def DR(e:En)(x:Pu):Fh:=Ii e.κ (e.of x.p) x.pd x.g none
section
variable{n:Nat}{ck:Nat->Nat->Bool}
def D(n:Nat)(ck:Nat->Nat->Bool){α:Type}(f:En->StateT Fh Sem α)(x:Pu)(a:En->α)(y:Pu):Prop:=
 ∀e:En,e.Ok n ck-> ∀(E:Value->Ag->Prop) (Q:α->Fh->Ag->Prop),Q (a e) (DR e y) e.s->kasC (model e.prog e.w) e.A E (f e) Q (DR e x) e.s
def X(n:Nat)(ck:Nat->Nat->Bool){α τ:Type}(f:En->StateT Fh Sem α)(x:Pu)(v:τ->En->α)(R:τ->Pu->Prop):Prop:= ∃t y,R t y/\D n ck f x (v t) y
theorem D.pure{α:Type}{a:En->α}{x:Pu}:D n ck (λe=>Fz (a e)) x a x:=λe _ E Q h=>kasC_pure h
theorem D.bind{α β:Type}{f:En->StateT Fh Sem α}{k:En->α->StateT Fh Sem β}{x y z:Pu}{a:En->α}{b:En->β}(h1:D n ck f x a y)(h2:D n ck (λe=>k e (a e)) y b z):D n ck (λe=>f e>>=k e) x b z:=
 λe o E Q h=>Pf (h1 e o E _ (h2 e o E Q h))
theorem D.get{x:Pu}:D n ck (λ_=>MonadState.get) x (λe=>DR e x) x:=λe _ E Q h=>kasC_get h
theorem D.modify{F:En->Fh->Fh}{x y:Pu}(h: ∀e,F e (DR e x)=DR e y):D n ck (λe=>modify (F e)) x (λ_=>⟨⟩) y:=λe _ E Q q=>Pg (by rw[h e];exact q)
theorem D.rule{r:String}{x:Pu}:D n ck (λ_=>(liftM (PySem.rule r):StateT Fh Sem Unit)) x (λ_=>()) x:=λe _ E Q q=>kasC_lift (Gc q)
theorem D.elem{q:Array Nat}{i:Nat}{x:Pu}(hi:i<q.size):D n ck (λe=>elem' (e.of q) i) x (λe=>e.at (q.getD i 0)) x:=λe _ E Q h=>by
 have e1:(e.of q)[i]? =some (e.at (q.getD i 0)):=by
  have e2:q.getD i 0=q[i]:=by simp[Kc,hi]
  rw[e2]
  simp[En.of,En.at,hi]
 show kasC _ _ _ (elem' (e.of q) i) Q _ _
 rw[elem'_eq,e1]
 exact kasC_pure h
theorem D.lt{i j:Nat}{x:Pu}(hi:i<n)(hj:j<n):D n ck (λe=>lt' (e.at i) (e.at j)) x (λ_=>some (ck i j)) x:=λe o E Q h=>by
 show kasC _ _ _ (lt' (e.at i) (e.at j)) Q _ _
 rw[lt'_eq]
 refine Pf (kasC_get ?_)
 refine Pf (kasC_lift (Mp (Av (o i j hi hj (λc s'=>c=ck i j/\s'=e.s) ⟨rfl,rfl⟩) (λc s' hc=> ?_) λ_ _ hF=>hF.elim)))
 obtain⟨rfl,rfl⟩:=hc
 exact kasC_pure h
theorem D.ltAt{i j:Nat}{x:Pu}(hi:i<x.p.size)(hj:j<x.p.size)(bi:x.p.getD i 0<n)(bj:x.p.getD j 0<n):D n ck (λ_=>ltAt' i j) x (λ_=>some (ck (x.p.getD i 0) (x.p.getD j 0))) x:=λe o E Q h=>by
 show kasC _ _ _ (ltAt' i j) Q _ _
 rw[ltAt'_eq]
 refine Pf (kasC_get ?_)
 exact(D.bind (D.elem hi) (D.bind (D.elem hj) (D.lt bi bj)):D n ck (λe=>elem' (e.of x.p) i>>=λu=>elem' (e.of x.p) j>>=λv=>lt' u v) x _ x) e o E Q h
theorem D.rev{i j:Nat}{x:Pu}:D n ck (λ_=>reverseSlice' i j) x (λ_=>()) {x with p:=kas_rev x.p i j}:=λe o E Q h=>by
 show kasC _ _ _ (reverseSlice' i j) Q _ _
 rw[reverseSlice'_eq]
 refine Pg ?_
 have e1:mirror (e.of x.p) i j ((j - i)/2)=e.of (mirror x.p i j ((j - i)/2)):=kas_swaps_map (Ie e.it) (λk=>i+k) (λk=>j - 1 - k) _ x.p
 show Q () (Ii e.κ (mirror (e.of x.p) i j ((j - i)/2)) x.pd x.g none) e.s
 rw[e1]
 exact h
theorem D.move{k l:Nat}{x:Pu}:D n ck (λ_=>moveDown' k l) x (λ_=>()) {x with p:=bubble x.p k (k - l)}:=λe o E Q h=>by
 show kasC _ _ _ (moveDown' k l) Q _ _
 rw[moveDown'_eq]
 refine Pg ?_
 have e1:bubble (e.of x.p) k (k - l)=e.of (bubble x.p k (k - l)):=kas_swaps_map (Ie e.it) (λi=>k - i) (λi=>k - i - 1) _ x.p
 show Q () (Ii e.κ (bubble (e.of x.p) k (k - l)) x.pd x.g none) e.s
 rw[e1]
 exact h
theorem X.ret{α τ:Type}{a:En->α}{x:Pu}{v:τ->En->α}{R:τ->Pu->Prop}(t:τ)(h:R t x)(ha: ∀e,a e=v t e:=by intro e;rfl):X n ck (λe=>Fz (a e)) x v R:=
 ⟨t,x,h,by rw[show a=v t from funext ha];exact D.pure⟩
theorem X.go{α β τ:Type}{f:En->StateT Fh Sem α}{k:En->α->StateT Fh Sem β}{x y:Pu}{a:En->α}{v:τ->En->β}{R:τ->Pu->Prop}(h1:D n ck f x a y)(h2:X n ck (λe=>k e (a e)) y v R):X n ck (λe=>f e>>=k e) x v R:=by
 obtain⟨t,z,h,d⟩:=h2
 exact⟨t,z,h,D.bind h1 d⟩
theorem X.bind{α β τ υ:Type}{f:En->StateT Fh Sem α}{k:En->α->StateT Fh Sem β}{x:Pu}{u:υ->En->α}{S:υ->Pu->Prop}{v:τ->En->β}{R:τ->Pu->Prop}(h1:X n ck f x u S)(h2: ∀t y,S t y->X n ck (λe=>k e (u t e)) y v R):X n ck (λe=>f e>>=k e) x v R:=by
 obtain⟨t,y,h,d⟩:=h1
 exact X.go d (h2 t y h)
noncomputable def sv{β τ:Type}(v:τ->En->β):τ ⊕ τ->En->ForInStep β
 | .inl t,e=> .yield (v t e)
 | .inr t,e=> .done (v t e)
def sR{τ:Type}(I J:τ->Pu->Prop):τ ⊕ τ->Pu->Prop
 | .inl t,x=>I t x
 | .inr t,x=>J t x
theorem X.loop{β τ:Type}{v:τ->En->β}{I:Nat->τ->Pu->Prop}{J:τ->Pu->Prop}{f:En->Nat->β->StateT Fh Sem (ForInStep β)}
  (he : ∀ t x,I 0 t x -> J t x) : ∀ (l : List Nat) (t : τ) (x : Pu),(∀ i ∈ l,∀ (k : Nat) (t : τ) (x : Pu),I (k + 1) t x -> X n ck (λe => f e i (v t e)) x (sv v) (sR (I k) J)) -> I l.length t x -> X n ck (λe => forIn l (v t e) (f e)) x v J
 | [],t,x,_,h => ⟨t,x,he t x h,λe o E Q q => kasC_nil q⟩
 | i :: l,t,x,hs,h => by
  obtain⟨r,y,hr,d⟩:=hs i Ba l.length t x h
  cases r with
  |inr t'=>exact⟨t',y,hr,λe o E Q q=>kasC_cons (d e o E _ q)⟩
  |inl t'=>
   obtain⟨u,z,hu,d2⟩:=X.loop he l t' y (λi hi=>hs i (Ao _ hi)) hr
   exact⟨u,z,hu,λe o E Q q=>kasC_cons (d e o E _ (d2 e o E Q q))⟩
theorem X.range{β τ:Type}{v:τ->En->β}{I:Nat->τ->Pu->Prop}{J:τ->Pu->Prop}{f:En->Nat->β->StateT Fh Sem (ForInStep β)}{a b:Nat}{t:τ}{x:Pu}{c:En->β}
  (he: ∀t x,I 0 t x->J t x) (h0:I (b - a) t x) (hs: ∀i,a<=i->i<b-> ∀(k:Nat) (t:τ) (x:Pu),I (k+1) t x->X n ck (λe=>f e i (v t e)) x (sv v) (sR (I k) J)) (hc: ∀e,c e=v t e:=by intro e;rfl):X n ck (λe=>forIn [a:b] (c e) (f e)) x v J:=by
 rw[show c=v t from funext hc]
 obtain⟨u,z,hu,d⟩:=X.loop he (List.range' a (b - a)) t x (λi hi=>by
  have:=List.mem_range'_1.mp hi
  exact hs i this.1 (by omega)) (by rw[List.length_range'];exact h0)
 exact⟨u,z,hu,λe o E Q q=>kasC_range (d e o E Q q)⟩
theorem X.yield{β τ:Type}{v:τ->En->β}{I J:τ->Pu->Prop}{a:En->β}{x:Pu}(t:τ)(h:I t x)(ha: ∀e,a e=v t e:=by intro e;rfl):X n ck (λe=>Fz (Cp (a e))) x (sv v) (sR I J):=
 X.ret (.inl t) h λe=>by rw[ha e];rfl
theorem X.done{β τ:Type}{v:τ->En->β}{I J:τ->Pu->Prop}{a:En->β}{x:Pu}(t:τ)(h:J t x)(ha: ∀e,a e=v t e:=by intro e;rfl):X n ck (λe=>Fz (ForInStep.done (a e))) x (sv v) (sR I J):=
 X.ret (.inr t) h λe=>by rw[ha e];rfl
end
section
variable{n:Nat}{ck:Nat->Nat->Bool}
theorem X.ite{α τ:Type}{c:Prop}{dc:En->Decidable c}{a b:En->StateT Fh Sem α}{x:Pu}{v:τ->En->α}{R:τ->Pu->Prop}(h1:c->X n ck a x v R)(h2: ¬c->X n ck b x v R):X n ck (λe=> @_root_.ite _ c (dc e) (a e) (b e)) x v R:=by
 by_cases h:c
 ·simpa only[if_pos h] using h1 h
 ·simpa only[if_neg h] using h2 h
def Pm(n:Nat)(p:Array Nat):Prop:=p.toList.Perm (Ar n)
theorem Pm.sz{p:Array Nat}(h:Pm n p):p.size=n:=by
 have:=h.length_eq
 simpa using this
theorem Pm.lt{p:Array Nat}(h:Pm n p){i:Nat}(hi:i<n):p.getD i 0<n:=by
 have hs:=h.sz
 have hi':i<p.size:=by lia
 have e:p.getD i 0=p[i]:=by simp[Kc,hi']
 rw[e]
 exact Bt.mp (h.mem_iff.mp (by simp))
theorem Pm.rev{p:Array Nat}(h:Pm n p)(i j:Nat):Pm n (kas_rev p i j):=Jb (Ji.mp (mirror_perm p i j _)) h
theorem Pm.move{p:Array Nat}(h:Pm n p)(i j:Nat):Pm n (bubble p i j):=Jb (Ji.mp (bubble_perm p i j)) h
theorem Pm.cmp{x:Pu}(h:Pm n x.p){i j:Nat}(hi:i<n)(hj:j<n):D n ck (λ_=>ltAt' i j) x (λ_=>some (ck (x.p.getD i 0) (x.p.getD j 0))) x:=
 D.ltAt (by rw[h.sz];exact hi) (by rw[h.sz];exact hj) (h.lt hi) (h.lt hj)
theorem X.st{α τ:Type}{f:En->StateT Fh Sem α}{x z:Pu}{v:τ->En->α}{R:τ->Pu->Prop}{P:Pu->Pu->Prop}(h: ∀z,P x z->X n ck f z v R)(hz:P x z):X n ck f z v R:=h z hz
def Kp(n:Nat)(x y:Pu):Prop:=Pm n y.p/\y.pd=x.pd
theorem zKS{lo m:Nat}{x:Pu}(hp:Pm n x.p)(h1:1<=m)(hm:lo+m<=n):X n ck (λ_=>countRun' lo m) x (λt _=>some t) (λt y=>1<=t/\t<=m/\Kp n x y):=by
 refine X.bind (u:=λ(t:Nat) _=>(none,t)) (S:=λt y=>1<=t/\t<=m/\y=x) ?_ ?_
 ·refine X.range (I := λk t y => 1 <= t /\ t + k = m /\ y = x) (t := 1) (λt y h => ⟨h.1,by lia,h.2.2⟩) ⟨by lia,by lia,rfl⟩ λi _ _ k t y ⟨g1,g2,g3⟩ => ?_
  subst g3
  refine X.go (hp.cmp (by lia) (by lia)) ?_
  refine X.ite (λ_=>X.done t ⟨g1,by lia,rfl⟩) λ_=>X.yield (t+1) ⟨by lia,by lia,rfl⟩
 ·rintro t y ⟨g1,g2,rfl⟩
  have k0:Kp n y y:=⟨hp,rfl⟩
  refine X.ite (λ_=>X.ret t ⟨g1,g2,k0⟩) λq0=> ?_
  have q1:t+1<=m:=by
   have:t≠m:=λz=>q0 (by rw[z];exact beq_self_eq_true _)
   lia
  refine X.ite (λq2=>X.go (hp.cmp (by lia) (by lia)) (X.ite (λ_=>X.ret t ⟨g1,g2,k0⟩) λ_=>X.go D.rev (X.st (P:=Kp n) (x:=y) ?_ ⟨hp.rev _ _,rfl⟩))) λq2=>X.st (P:=Kp n) (x:=y) ?_ k0
  all_goals
   intro z hz
   refine X.go D.rule ?_
   refine X.bind (u:=λ(t:Nat×Nat) _=>(none,t)) (S:=λt z=>1<=t.1/\t.1<=m/\Kp n y z) ?_ ?_
   ·refine X.range (I := λk t z => 1 <= t.1 /\ t.1 + k = m /\ Kp n y z) (t := (t + 1,0)) (λt y h => ⟨h.1,by lia,h.2.2⟩) ⟨by lia,by dsimp only;lia,hz⟩ λi _ _ k t y ⟨g1,g2,g3⟩ => ?_
    obtain⟨t,q⟩:=t
    dsimp only at g1 g2
    refine X.go (g3.1.cmp (by dsimp only;lia) (by dsimp only;lia)) ?_
    refine X.ite (λ_=>X.ite (λ_=>X.go D.rev (X.yield (t+1,0) ⟨by dsimp only;lia,by dsimp only;lia,g3.1.rev _ _,g3.2⟩)) λ_=>X.yield (t+1,0) ⟨by dsimp only;lia,by dsimp only;lia,g3⟩) λ_=> ?_
    refine X.go (g3.1.cmp (by dsimp only;lia) (by dsimp only;lia)) ?_
    exact X.ite (λ_=>X.done (t,q) ⟨g1,by dsimp only;lia,g3⟩) λ_=>X.yield (t+1,q+1) ⟨by dsimp only;lia,by dsimp only;lia,g3⟩
   ·rintro ⟨t,q⟩ z ⟨g1,g2,g3⟩
    dsimp only at g1 g2
    refine X.ite (λ_=>X.go D.rev (X.st (P:=Kp n) (x:=y) ?_ ⟨g3.1.rev _ _,g3.2⟩)) λ_=>X.st (P:=Kp n) (x:=y) ?_ g3
    all_goals
     intro z hz
     refine X.go D.rev ?_
     refine X.bind (u:=λ(t:Nat) _=>(none,t)) (S:=λt z=>1<=t/\t<=m/\Kp n y z) ?_ λt z h=>X.ret t h
     refine X.range (I:=λk t z=>1<=t/\t+k=m/\Kp n y z) (t:=t) (λt y h=>⟨h.1,by lia,h.2.2⟩) ⟨by lia,by dsimp only;lia,hz.1.rev _ _,hz.2⟩ λi _ _ k t y ⟨g1,g2,g3⟩=> ?_
     refine X.go (g3.1.cmp (by lia) (by lia)) ?_
     exact X.ite (λ_=>X.done t ⟨g1,by lia,g3⟩) λ_=>X.yield (t+1) ⟨by lia,by lia,g3⟩
theorem bin{lo m ok:Nat}{x:Pu}(hp:Pm n x.p)(hm:lo+m<=n):X n ck (λ_=>binarySort' lo m ok) x (λ(_:Unit) _=>true) (λ_ y=>Kp n x y):=by
 refine X.bind (u:=λ(_:Unit) _=>(none,())) (S:=λ_ y=>Kp n x y) ?_ λt z h=>X.ret () h
 refine X.range (I:=λ_ _ z=>Kp n x z) (t:=()) (λt y h=>h) ⟨hp,rfl⟩ λj j1 j2 k t y g3=> ?_
 refine X.bind (u:=λ(t:Nat×Nat) _=>(none,t)) (S:=λt z=>t.2<=j/\z=y) ?_ ?_
 ·refine X.range (I := λ_ t z => t.2 <= j /\ z = y) (t := (0,j)) (λt y h => h) ⟨Ap _,rfl⟩ λi _ _ k t z ⟨g1,g2⟩ => ?_
  obtain⟨l,r⟩:=t
  dsimp only at g1
  subst g2
  refine X.ite (λ_=>X.done (l,r) ⟨g1,rfl⟩) λq=> ?_
  refine X.go (g3.1.cmp (by dsimp only at q⊢;lia) (by dsimp only at q⊢;lia)) ?_
  exact X.ite (λ_=>X.yield (l,(l+r)/2) ⟨by dsimp only at q⊢;lia,rfl⟩) λ_=>X.yield ((l+r)/2+1,r) ⟨g1,rfl⟩
 ·rintro ⟨l,r⟩ z ⟨g1,rfl⟩
  exact X.go D.move (X.yield () ⟨g3.1.move _ _,g3.2⟩)
end
def EE:Bool->Keyed->Array Keyed->Nat->Nat->Nat->StateT Fh Sem (Option Nat):=sortPriv% PySem.Builtin.gallop
def IL:Array Keyed->Array Keyed->StateT Fh Sem (Array Keyed):=sortPriv% PySem.Builtin.mergeLo
def IK:Array Keyed->Array Keyed->StateT Fh Sem (Array Keyed):=sortPriv% PySem.Builtin.mergeHi
section
variable{n:Nat}{ck:Nat->Nat->Bool}
noncomputable def bey(left:Bool)(key:Nat)(q:Array Nat)(i:Nat)(e:En):StateT Fh Sem (Option Bool):=
 elem' (e.of q) i>>=λz=>if left=true then lt' z (e.at key) else lt' (e.at key) z>>=λr=>pure (r.map (λb=> !b))
theorem zIF{left:Bool}{key:Nat}{q:Array Nat}{x:Pu}(hk:key<n){i:Nat}(hi:i<q.size)(hq:q.getD i 0<n): ∃c,D n ck (bey left key q i) x (λ_=>some c) x:=by
 cases left with
 |true=>exact⟨_,D.bind (D.elem hi) (D.lt hq hk)⟩
 |false=>exact⟨_,D.bind (D.elem hi) (D.bind (D.lt hk hq) D.pure)⟩
theorem gal{left:Bool}{key:Nat}{q:Array Nat}{b m h:Nat}{x:Pu}(hk:key<n)(hh:h<m)(hb:b+m<=q.size)(hq: ∀i,i<q.size->q.getD i 0<n):
  X n ck (λe=>EE left (e.at key) (e.of q) b m h) x (λt _=>some t) (λt y=>t<=m/\y=x):=by
 have ask: ∀i,i<m-> ∃c,D n ck (bey left key q (b+i)) x (λ_=>some c) x:=λi hi=>zIF hk (by lia) (hq _ (by lia))
 obtain⟨c,hc⟩:=ask h hh
 refine X.go hc ?_
 refine X.ite (λ_=> ?_) λ_=> ?_
 ·refine X.bind (u := λ(t : Nat × Nat) _ => (none,t)) (S := λt z => z = x) ?_ ?_
  ·refine X.range (I := λ_ t z => z = x) (t := (0,1)) (λt y h => h) rfl λi _ _ k t z g => ?_
   obtain⟨l,o⟩:=t
   subst g
   refine X.ite (λ_=>X.done (l,o) rfl) λq=> ?_
   obtain⟨c,hc⟩:=ask (h+o) (by dsimp only at q;lia)
   exact X.go hc (X.ite (λ_=>X.done (l,o) rfl) λ_=>X.yield (o,2*o+1) rfl)
  ·rintro ⟨l,o⟩ z rfl
   refine X.bind (u:=λ(t:Nat×Nat) _=>(none,t)) (S:=λt y=>t.2<=m/\y=z) ?_ λt y h=>X.ret t.2 h
   refine X.range (I:=λ_ t y=>t.2<=m/\y=z) (t:=(h+l+1,h+min o (m - h))) (λt y h=>h) ⟨by dsimp only;lia,rfl⟩ λi _ _ k t y ⟨g1,g2⟩=> ?_
   obtain⟨lo,hi⟩:=t
   subst g2
   dsimp only at g1
   refine X.ite (λ_=>X.done (lo,hi) ⟨g1,rfl⟩) λq=> ?_
   obtain⟨c,hc⟩:=ask (lo+(hi - lo)/2) (by dsimp only at q;lia)
   exact X.go hc (X.ite (λ_=>X.yield (lo+(hi - lo)/2+1,hi) ⟨g1,rfl⟩) λ_=>X.yield (lo,lo+(hi - lo)/2) ⟨by dsimp only at q⊢;lia,rfl⟩)
 ·refine X.bind (u := λ(t : Nat × Nat) _ => (none,t)) (S := λt z => z = x) ?_ ?_
  ·refine X.range (I := λ_ t z => z = x) (t := (0,1)) (λt y h => h) rfl λi _ _ k t z g => ?_
   obtain⟨l,o⟩:=t
   subst g
   refine X.ite (λ_=>X.done (l,o) rfl) λq=> ?_
   obtain⟨c,hc⟩:=ask (h - o) (by lia)
   exact X.go hc (X.ite (λ_=>X.done (l,o) rfl) λ_=>X.yield (o,2*o+1) rfl)
  ·rintro ⟨l,o⟩ z rfl
   refine X.bind (u:=λ(t:Nat×Nat) _=>(none,t)) (S:=λt y=>t.2<=m/\y=z) ?_ λt y h=>X.ret t.2 h
   refine X.range (I:=λ_ t y=>t.2<=m/\y=z) (t:=(h+1 - min o (h+1),h - l)) (λt y h=>h) ⟨by dsimp only;lia,rfl⟩ λi _ _ k t y ⟨g1,g2⟩=> ?_
   obtain⟨lo,hi⟩:=t
   subst g2
   dsimp only at g1
   refine X.ite (λ_=>X.done (lo,hi) ⟨g1,rfl⟩) λq=> ?_
   obtain⟨c,hc⟩:=ask (lo+(hi - lo)/2) (by dsimp only at q;lia)
   exact X.go hc (X.ite (λ_=>X.yield (lo+(hi - lo)/2+1,hi) ⟨g1,rfl⟩) λ_=>X.yield (lo,lo+(hi - lo)/2) ⟨by dsimp only at q⊢;lia,rfl⟩)
theorem galE{left:Bool}{key:Nat}{q:Array Nat}{b h:Nat}{m:En->Nat}{x:Pu}(m0:Nat)(hm: ∀e,m e=m0)(hk:key<n)(hh:h<m0)(hb:b+m0<=q.size)(hq: ∀i,i<q.size->q.getD i 0<n):
  X n ck (λe=>EE left (e.at key) (e.of q) b (m e) h) x (λt _=>some t) (λt y=>t<=m0/\y=x):=by
 rw[show m=λ_=>m0 from funext hm]
 exact gal hk hh hb hq
theorem X.eqSize{α τ:Type}{m:Nat}{q:Array Nat}{a b:En->StateT Fh Sem α}{x:Pu}{v:τ->En->α}{R:τ->Pu->Prop}(h1:m=q.size->X n ck a x v R)(h2:m≠q.size->X n ck b x v R):X n ck (λe=>if(m==(e.of q).size)=true then a e else b e) x v R:=by
 simp only[En.of,Array.size_map]
 exact X.ite (λh=>h1 (by simpa using h)) λh=>h2 (by simpa using h)
theorem X.rangeE{β τ:Type}{v:τ->En->β}{I:Nat->τ->Pu->Prop}{J:τ->Pu->Prop}{f:En->Nat->β->StateT Fh Sem (ForInStep β)}{b:En->Nat}{t:τ}{x:Pu}{c:En->β}(b0:Nat)(hb: ∀e,b e=b0)
  (he: ∀t x,I 0 t x->J t x) (h0:I b0 t x) (hs: ∀(k:Nat) (t:τ) (x:Pu),k<b0->I (k+1) t x-> ∀i,X n ck (λe=>f e i (v t e)) x (sv v) (sR (I k) J)) (hc: ∀e,c e=v t e:=by intro e;rfl):X n ck (λe=>forIn [0:b e] (c e) (f e)) x v J:=by
 rw[show b=λ_=>b0 from funext hb]
 refine X.range (I:=λk t x=>k<=b0/\I k t x) (λt x h=>he t x h.2) ⟨by lia,h0⟩ (λi _ _ k t x h=> ?_) hc
 obtain⟨r,y,hr,d⟩:=hs k t x (by lia) h.2 i
 refine⟨r,y,?_,d⟩
 cases r with
 |inl t=>exact⟨by lia,hr⟩
 |inr t=>exact hr
def zC8:Nat->StateT Fh Sem Unit:=sortPriv% PySem.Builtin.setMinGallop
theorem D.setMin{g:Nat}{x:Pu}:D n ck (λ_=>zC8 g) x (λ_=>()) {x with g:=g}:=D.modify (F:=λ_ s=>_) λe=>rfl
def Iv(a b o:Array Nat)(ia ib:Nat):Prop:=o.toList.Perm (a.toList.take ia++b.toList.take ib)
theorem JT{a:Array Nat}{i:Nat}(h:i<a.size):a.toList.take (i+1)=a.toList.take i++[a.getD i 0]:=by
 have e:a.getD i 0=a[i]:=by simp[Kc,h]
 rw[e,Pr]
 simp[h]
theorem Iv.pushB{a b o:Array Nat}{ia ib:Nat}(h:Iv a b o ia ib)(hb:ib<b.size):Iv a b (o.push (b.getD ib 0)) ia (ib+1):=by
 unfold Iv at h⊢
 rw[JT hb,Gf,<- Ax]
 exact h.append_right _
theorem Iv.pushA{a b o:Array Nat}{ia ib:Nat}(h:Iv a b o ia ib)(ha:ia<a.size):Iv a b (o.push (a.getD ia 0)) (ia+1) ib:=by
 unfold Iv at h⊢
 rw[JT ha,Gf,Ax]
 refine(h.append_right _).trans ?_
 rw[Ax]
 exact Df _ Cq
theorem MX(l:List Nat)(i k:Nat):l.take (i+k)=l.take i++(l.take (i+k)).drop i:=by
 have e:=Dg i (l.take (i+k))
 rw[Ma,Hg (by lia)] at e
 exact e.symm
theorem XV(a:Array Nat)(i j:Nat):(a.extract i j).toList=(a.toList.take j).drop i:=by simp[Ps]
theorem Iv.extB{a b o:Array Nat}{ia ib:Nat}(h:Iv a b o ia ib)(k:Nat):Iv a b (o++b.extract ib (ib+k)) ia (ib+k):=by
 unfold Iv at h⊢
 rw[MX b.toList ib k,Cm,XV,<- Ax]
 exact h.append_right _
theorem Iv.extA{a b o:Array Nat}{ia ib:Nat}(h:Iv a b o ia ib)(k:Nat):Iv a b (o++a.extract ia (ia+k)) (ia+k) ib:=by
 unfold Iv at h⊢
 rw[MX a.toList ia k,Cm,XV,Ax]
 refine(h.append_right _).trans ?_
 rw[Ax]
 exact Df _ Cq
theorem OW(a:Array Nat)(i:Nat):(a.extract i a.size).toList=a.toList.drop i:=by rw[XV,show a.size=a.toList.length from rfl,List.take_length]
theorem Iv.all{a b o:Array Nat}{ia ib:Nat}(h:Iv a b o ia ib):(o.toList++(a.toList.drop ia++b.toList.drop ib)).Perm (a.toList++b.toList):=by
 refine(h.append_right _).trans ?_
 have e1:=Dg ia a.toList
 have e2:=Dg ib b.toList
 generalize a.toList.take ia=a1 at*
 generalize a.toList.drop ia=a2 at*
 generalize b.toList.take ib=b1 at*
 generalize b.toList.drop ib=b2 at*
 rw[<- e1,<- e2,Ax,Ax]
 refine Df _ ?_
 rw[<- Ax,<- Ax]
 exact Fq _ Cq
theorem Iv.done{a b o:Array Nat}{ia ib:Nat}(h:Iv a b o ia ib):(o++a.extract ia a.size++b.extract ib b.size).toList.Perm (a.toList++b.toList):=by
 rw[Cm,Cm,OW,OW,Ax]
 exact h.all
theorem Iv.lastA{a b o:Array Nat}{ia ib:Nat}(h:Iv a b o ia ib):(o++b.extract ib b.size++a.extract ia a.size).toList.Perm (a.toList++b.toList):=by
 rw[Cm,Cm,OW,OW,Ax]
 exact(Df _ Cq).trans h.all
end
section
variable{n:Nat}{ck:Nat->Nat->Bool}
def Sd(x y:Pu):Prop:=y.p=x.p/\y.pd=x.pd
def Al(n:Nat)(a:Array Nat):Prop:= ∀i,i<a.size->a.getD i 0<n
def Lf(a b:Array Nat)(x:Pu)(m:Nat)(r:Option (Array Nat))(o:Array Nat)(ia ib:Nat)(y:Pu):Prop:=r=none/\Iv a b o ia ib/\ia+1<a.size/\ib<b.size/\m<=ia+ib/\Sd x y
def Td(a b:Array Nat)(x:Pu)(r:Option (Array Nat))(y:Pu):Prop:= ∃t,r=some t/\t.toList.Perm (a.toList++b.toList)/\Sd x y
noncomputable def vG{β:Type}(t:Option (Array Nat)×Array Nat×β)(e:En):Option (Array Keyed)×Array Keyed×β:=(t.1.map e.of,e.of t.2.1,t.2.2)
theorem bE(e:En)(o:Array Nat)(i:Nat):(e.of o).push (e.at i)=e.of (o.push i):=by simp[En.of,En.at]
theorem ZD(e:En)(o:Array Nat)(q:Array Nat):e.of o++e.of q=e.of (o++q):=by simp[En.of]
theorem Z3(e:En)(o:Array Nat)(i j:Nat):(e.of o).extract i j=e.of (o.extract i j):=by simp[En.of]
theorem VC(e:En)(o:Array Nat):(e.of o).size=o.size:=by simp[En.of]
theorem SM(e:En)(o:Array Nat):(e.of o).reverse=e.of o.reverse:=by simp[En.of]
theorem QT(e:En)(i:Nat): #[e.at i]=e.of #[i]:=by simp[En.of,En.at]
theorem X.yieldG{β:Type}{tail:β}{o:Array Nat}{O:En->Array Keyed}{I J:Option (Array Nat)×Array Nat×β->Pu->Prop}{y:Pu}(h:I (none,o,tail) y)(hO: ∀e,O e=e.of o):X n ck (λe=>Fz (Cp (none,O e,tail))) y (sv vG) (sR I J):=
 X.yield (none,o,tail) h λe=>by rw[hO];rfl
theorem X.doneG{β:Type}{tail:β}{o:Array Nat}{O:En->Array Keyed}{I J:Option (Array Nat)×Array Nat×β->Pu->Prop}{y:Pu}(h:J (none,o,tail) y)(hO: ∀e,O e=e.of o):X n ck (λe=>Fz (ForInStep.done (none,O e,tail))) y (sv vG) (sR I J):=
 X.done (none,o,tail) h λe=>by rw[hO];rfl
theorem X.tellD{β:Type}{tail:β}{a b o:Array Nat}{ia ib:Nat}{O:En->Array Keyed}{I J:Option (Array Nat)×Array Nat×β->Pu->Prop}{x y:Pu}(q:Iv a b o ia ib)(hs:Sd x y)(hO: ∀e,O e=e.of o)(hJ: ∀t,Td a b x t.1 y->J t y):
  X n ck (λe=>Fz (ForInStep.done (some (O e++(e.of a).extract ia (e.of a).size++(e.of b).extract ib (e.of b).size),O e,tail))) y (sv vG) (sR I J):=
 X.done (some (o++a.extract ia a.size++b.extract ib b.size),o,tail) (hJ _ ⟨_,rfl,q.done,hs⟩) λe=>by rw[hO,VC,VC,Z3,Z3,ZD,ZD];rfl
theorem X.tellL{β:Type}{tail:β}{a b o:Array Nat}{ia ib:Nat}{O:En->Array Keyed}{I J:Option (Array Nat)×Array Nat×β->Pu->Prop}{x y:Pu}(q:Iv a b o ia ib)(hs:Sd x y)(hO: ∀e,O e=e.of o)(hJ: ∀t,Td a b x t.1 y->J t y):
  X n ck (λe=>Fz (ForInStep.done (some (O e++(e.of b).extract ib (e.of b).size++(e.of a).extract ia (e.of a).size),O e,tail))) y (sv vG) (sR I J):=
 X.done (some (o++b.extract ib b.size++a.extract ia a.size),o,tail) (hJ _ ⟨_,rfl,q.lastA,hs⟩) λe=>by rw[hO,VC,VC,Z3,Z3,ZD,ZD];rfl
theorem zK4 {a b : Array Nat} {x : Pu} (ha : Al n a) (hb : Al n b) (a1 : 1 <= a.size) (b1 : 1 <= b.size) : X n ck (λe => IL (e.of a) (e.of b)) x (λt e => e.of t) (λt y => t.toList.Perm (a.toList ++ b.toList) /\ Sd x y) := by
 have i1:Iv a b #[b.getD 0 0] 0 1:=by
  have e : Iv a b #[] 0 0 := by unfold Iv;simp
  exact e.pushB (by lia)
 refine X.go D.rule ?_
 refine X.go (D.elem (q := b) (i := 0) (by lia)) ?_
 refine X.eqSize (λh => X.ret (#[b.getD 0 0] ++ a.extract 0 a.size ++ b.extract 1 b.size) ⟨i1.done,rfl,rfl⟩ λe => ?_) λh => ?_
 ·simp only[<- ZD,<- Z3,VC,QT]
 refine X.eqSize (λh => X.ret (#[b.getD 0 0] ++ b.extract 1 b.size ++ a.extract 0 a.size) ⟨i1.lastA,rfl,rfl⟩ λe => ?_) λh2 => ?_
 ·simp only[<- ZD,<- Z3,VC,QT]
 refine X.go D.get ?_
 have tot : ∀ e : En,(e.of a).size + (e.of b).size = a.size + b.size := λe => by simp only [VC]
 refine X.bind (u := vG) (S := λt y => Td a b x t.1 y) ?_ ?_
 ·refine X.rangeE (v := vG) (I := λk t y => Lf a b x (a.size + b.size - k) t.1 t.2.1 t.2.2.1 t.2.2.2.1 y) (t := (none,#[b.getD 0 0],0,1,x.g)) (a.size + b.size) tot ?_ ⟨rfl,i1,by dsimp only;lia,by dsimp only;lia,by dsimp only;lia,rfl,rfl⟩ ?_ λe => ?_
  ·rintro t y ⟨_,_,h3,h4,h5,_⟩
   exact absurd h5 (by lia)
  ·rintro k ⟨r,o,ia,ib,g⟩ y hk ⟨rfl,h2,h3,h4,h5,h6⟩ i
   dsimp only at h2 h3 h4 h5
   dsimp only[vG]
   refine X.bind (u:=vG) (S:=λt z=>Td a b x t.1 z∨Lf a b x (ia+ib+1) t.1 t.2.1 t.2.2.1 t.2.2.2.1 z) ?_ ?_
   ·refine X.rangeE (v := vG) (I := λk t y => Lf a b x (ia + ib + if k < a.size + b.size then 1 else 0) t.1 t.2.1 t.2.2.1 t.2.2.2.1 y) (t := (none,o,ia,ib,0,0)) (a.size + b.size) tot ?_ ⟨rfl,h2,h3,h4,by rw [if_neg (by lia)];exact Ap _,h6⟩ ?_
    ·intro t y h
     rw [if_pos (by lia)] at h
     exact .inr h
    ·rintro k ⟨r,o,ja,jb,ac,bc⟩ y hk ⟨rfl,g2,g3,g4,g5,g6⟩ i
     dsimp only at g2 g3 g4 g5
     dsimp only[vG]
     have g5':ia+ib<=ja+jb:=by split at g5<;>lia
     refine X.go (D.elem (q:=b) (i:=jb) g4) (X.go (D.elem (q:=a) (i:=ja) (by lia)) (X.go (D.lt (hb _ g4) (ha _ (by lia))) ?_))
     refine X.ite (λ_=> ?_) λ_=> ?_
     ·refine X.go (D.elem (q:=b) (i:=jb) g4) ?_
      have q:=g2.pushB g4
      refine X.eqSize (λ_=>X.tellD q g6 (λe=>bE e _ _) λt h=> .inl h) λz=> ?_
      exact X.ite (λ_=>X.doneG (.inr ⟨rfl,q,g3,by dsimp only;lia,by dsimp only;lia,g6⟩) λe=>bE e _ _) λ_=>X.yieldG ⟨rfl,q,g3,by dsimp only;lia,by dsimp only;rw[if_pos hk];lia,g6⟩ λe=>bE e _ _
     ·refine X.go (D.elem (q := a) (i := ja) (by lia)) ?_
      have q:=g2.pushA (show ja<a.size by lia)
      refine X.eqSize (λ_=>X.tellL q g6 (λe=>bE e _ _) λt h=> .inl h) λz=> ?_
      exact X.ite (λ_=>X.doneG (.inr ⟨rfl,q,by dsimp only;lia,g4,by dsimp only;lia,g6⟩) λe=>bE e _ _) λ_=>X.yieldG ⟨rfl,q,by dsimp only;lia,g4,by dsimp only;rw[if_pos hk];lia,g6⟩ λe=>bE e _ _
   ·rintro ⟨r,o,ja,jb,ac,bc⟩ z (⟨t,e1,ht⟩|⟨e1,g2,g3,g4,g5,g6⟩)
    ·dsimp only at e1
     subst e1
     exact X.done (some t,o,ja,jb,g) ⟨t,rfl,ht⟩
    ·dsimp only at e1 g2 g3 g4 g5
     subst e1
     dsimp only[vG]
     refine X.go D.rule ?_
     refine X.bind (u:=vG) (S:=λt z=>Td a b x t.1 z∨Lf a b x (ia+ib+1) t.1 t.2.1 t.2.2.1 t.2.2.2.1 z) ?_ ?_
     ·refine X.rangeE (v := vG) (I := λ_ t y => Lf a b x (ia + ib + 1) t.1 t.2.1 t.2.2.1 t.2.2.2.1 y) (t := (none,o,ja,jb,g + 1,ac,bc)) (a.size + b.size) tot (λt y h => .inr h) ⟨rfl,g2,g3,g4,g5,g6⟩ ?_
      rintro k ⟨r,o,ja,jb,g,ac,bc⟩ y hk ⟨rfl,g2,g3,g4,g5,g6⟩ i
      dsimp only at g2 g3 g4 g5
      dsimp only[vG]
      refine X.ite (λ_=> ?_) λ_=> ?_
      all_goals
       refine X.go D.setMin (X.go (D.elem (q:=b) (i:=jb) g4) (X.bind (galE (a.size - ja) (λe=>by simp only[VC]) (hb _ g4) (by lia) (by lia) ha) ?_))
       rintro d z ⟨hd,rfl⟩
       refine X.ite (λ_=> ?_) λ_=> ?_
       ·have q:=g2.extA d
        have qO: ∀e:En,e.of o++(e.of a).extract ja (ja+d)=e.of (o++a.extract ja (ja+d)):=λe=>by rw[Z3,ZD]
        refine X.eqSize (λ_=>X.tellL q g6 qO λt h=> .inl h) λz1=>X.eqSize (λ_=>X.tellD q g6 qO λt h=> .inl h) λz2=> ?_
        refine X.go (D.elem (q:=b) (i:=jb) g4) ?_
        have r:=q.pushB g4
        have rO: ∀e:En,_=e.of _:=λe=>(congrArg (λO=>O.push (e.at (b.getD jb 0))) (qO e)).trans (bE e _ _)
        refine X.eqSize (λ_=>X.tellD r g6 rO λt h=> .inl h) λz3=> ?_
        refine X.go (D.elem (q:=a) (i:=(ja+d)) (by lia)) (X.bind (galE (b.size - (jb+1)) (λe=>by simp only[VC]) (ha _ (by lia)) (by lia) (by lia) hb) ?_)
        rintro d2 z ⟨hd2,rfl⟩
        refine X.ite (λ_=> ?_) λ_=> ?_
        ·have u:=r.extB d2
         have uO: ∀e:En,_=e.of _:=λe=>((congrArg (λO=>O++(e.of b).extract (jb+1) (jb+1+d2)) (rO e)).trans (by rw[Z3])).trans (ZD e _ _)
         refine X.eqSize (λ_=>X.tellD u g6 uO λt h=> .inl h) λz4=> ?_
         refine X.go (D.elem (q:=a) (i:=(ja+d)) (by lia)) ?_
         have w:=u.pushA (show(ja+d)<a.size by lia)
         have wO: ∀e:En,_=e.of _:=λe=>(congrArg (λO=>O.push (e.at (a.getD (ja+d) 0))) (uO e)).trans (bE e _ _)
         refine X.eqSize (λ_=>X.tellL w g6 wO λt h=> .inl h) λz5=> ?_
         exact X.ite (λ_=>X.doneG (.inr ⟨rfl,w,by dsimp only;lia,by dsimp only;lia,by dsimp only;lia,g6⟩) wO) λ_=>X.yieldG ⟨rfl,w,by dsimp only;lia,by dsimp only;lia,by dsimp only;lia,g6⟩ wO
        ·skip
         refine X.go (D.elem (q:=a) (i:=(ja+d)) (by lia)) ?_
         have w:=r.pushA (show(ja+d)<a.size by lia)
         have wO: ∀e:En,_=e.of _:=λe=>(congrArg (λO=>O.push (e.at (a.getD (ja+d) 0))) (rO e)).trans (bE e _ _)
         refine X.eqSize (λ_=>X.tellL w g6 wO λt h=> .inl h) λz5=> ?_
         exact X.ite (λ_=>X.doneG (.inr ⟨rfl,w,by dsimp only;lia,by dsimp only;lia,by dsimp only;lia,g6⟩) wO) λ_=>X.yieldG ⟨rfl,w,by dsimp only;lia,by dsimp only;lia,by dsimp only;lia,g6⟩ wO
       ·have qO : ∀ e : En,e.of o = e.of o := λe => rfl
        refine X.go (D.elem (q:=b) (i:=jb) g4) ?_
        have r:=g2.pushB g4
        have rO: ∀e:En,_=e.of _:=λe=>(congrArg (λO=>O.push (e.at (b.getD jb 0))) (qO e)).trans (bE e _ _)
        refine X.eqSize (λ_=>X.tellD r g6 rO λt h=> .inl h) λz3=> ?_
        refine X.go (D.elem (q:=a) (i:=ja) (by lia)) (X.bind (galE (b.size - (jb+1)) (λe=>by simp only[VC]) (ha _ (by lia)) (by lia) (by lia) hb) ?_)
        rintro d2 z ⟨hd2,rfl⟩
        refine X.ite (λ_=> ?_) λ_=> ?_
        ·have u:=r.extB d2
         have uO: ∀e:En,_=e.of _:=λe=>((congrArg (λO=>O++(e.of b).extract (jb+1) (jb+1+d2)) (rO e)).trans (by rw[Z3])).trans (ZD e _ _)
         refine X.eqSize (λ_=>X.tellD u g6 uO λt h=> .inl h) λz4=> ?_
         refine X.go (D.elem (q:=a) (i:=ja) (by lia)) ?_
         have w:=u.pushA (show ja<a.size by lia)
         have wO: ∀e:En,_=e.of _:=λe=>(congrArg (λO=>O.push (e.at (a.getD ja 0))) (uO e)).trans (bE e _ _)
         refine X.eqSize (λ_=>X.tellL w g6 wO λt h=> .inl h) λz5=> ?_
         exact X.ite (λ_=>X.doneG (.inr ⟨rfl,w,by dsimp only;lia,by dsimp only;lia,by dsimp only;lia,g6⟩) wO) λ_=>X.yieldG ⟨rfl,w,by dsimp only;lia,by dsimp only;lia,by dsimp only;lia,g6⟩ wO
        ·skip
         refine X.go (D.elem (q:=a) (i:=ja) (by lia)) ?_
         have w:=r.pushA (show ja<a.size by lia)
         have wO: ∀e:En,_=e.of _:=λe=>(congrArg (λO=>O.push (e.at (a.getD ja 0))) (rO e)).trans (bE e _ _)
         refine X.eqSize (λ_=>X.tellL w g6 wO λt h=> .inl h) λz5=> ?_
         exact X.ite (λ_=>X.doneG (.inr ⟨rfl,w,by dsimp only;lia,by dsimp only;lia,by dsimp only;lia,g6⟩) wO) λ_=>X.yieldG ⟨rfl,w,by dsimp only;lia,by dsimp only;lia,by dsimp only;lia,g6⟩ wO
     ·rintro ⟨r,o,ja,jb,g,ac,bc⟩ z (⟨t,e1,ht⟩|⟨e1,g2,g3,g4,g5,g6⟩)
      ·dsimp only at e1
       subst e1
       exact X.done (some t,o,ja,jb,g) ⟨t,rfl,ht⟩
      ·dsimp only at e1 g2 g3 g4 g5
       subst e1
       dsimp only[vG]
       refine X.go D.setMin ?_
       exact X.yieldG ⟨rfl,g2,g3,g4,by dsimp only;lia,g6⟩ λe=>rfl
  ·simp only[QT]
   rfl
 ·rintro ⟨r,o,ia,ib,g⟩ y ⟨t,e1,h⟩
  dsimp only at e1
  subst e1
  exact X.ret t h
end
section
variable{n:Nat}{ck:Nat->Nat->Bool}
def Iw(a b o:Array Nat)(na nb:Nat):Prop:=o.toList.Perm (a.toList.drop na++b.toList.drop nb)
theorem drop_one{a:Array Nat}{i:Nat}(h0:0<i)(h:i<=a.size):a.toList.drop (i - 1)=a.getD (i - 1) 0::a.toList.drop i:=by
 have h1:i - 1<a.size:=by lia
 have e:a.getD (i - 1) 0=a[i - 1]:=by simp[Kc,h1]
 rw[e,Cv (by simpa using h1),show i - 1+1=i by lia]
 simp
theorem Iw.pushA{a b o:Array Nat}{na nb:Nat}(h:Iw a b o na nb)(h0:0<na)(h1:na<=a.size):Iw a b (o.push (a.getD (na - 1) 0)) (na - 1) nb:=by
 unfold Iw at h⊢
 rw[drop_one h0 h1,Gf,Fn]
 exact Cq.trans (Pt _ h)
theorem Iw.pushB{a b o:Array Nat}{na nb:Nat}(h:Iw a b o na nb)(h0:0<nb)(h1:nb<=b.size):Iw a b (o.push (b.getD (nb - 1) 0)) na (nb - 1):=by
 unfold Iw at h⊢
 rw[drop_one h0 h1,Gf]
 exact(Cq.trans (Pt _ h)).trans List.perm_middle.symm
theorem QI(l:List Nat)(i j:Nat)(h:i<=j):l.drop i=(l.take j).drop i++l.drop j:=by
 have e:=Dg (j - i) (l.drop i)
 rw[Pw,show i+(j - i)=j by lia,<- Ps] at e
 exact e.symm
theorem Iw.extA{a b o:Array Nat}{na nb:Nat}(h:Iw a b o na nb){t:Nat}(ht:t<=na):Iw a b (o++(a.extract t na).reverse) t nb:=by
 unfold Iw at h⊢
 rw[QI a.toList t na ht,Cm,Gh,XV,Ax]
 exact Cq.trans (Ob (Ke _) h)
theorem Iw.extB{a b o:Array Nat}{na nb:Nat}(h:Iw a b o na nb){t:Nat}(ht:t<=nb):Iw a b (o++(b.extract t nb).reverse) na t:=by
 unfold Iw at h⊢
 rw[QI b.toList t nb ht,Cm,Gh,XV]
 generalize (b.toList.take nb).drop t=u at*
 refine(Ob h (Ke u)).trans ?_
 rw[Ax]
 exact Df _ Cq
theorem Iw.all{a b o:Array Nat}{na nb:Nat}(h:Iw a b o na nb):((a.toList.take na++b.toList.take nb)++o.toList.reverse).Perm (a.toList++b.toList):=by
 refine(Df _ ((Ke _).trans h)).trans ?_
 have e1:=Dg na a.toList
 have e2:=Dg nb b.toList
 generalize a.toList.take na=a1 at*
 generalize a.toList.drop na=a2 at*
 generalize b.toList.take nb=b1 at*
 generalize b.toList.drop nb=b2 at*
 rw[<- e1,<- e2,Ax,Ax]
 refine Df _ ?_
 rw[<- Ax,<- Ax]
 exact Fq _ Cq
theorem KQ(a:Array Nat)(i:Nat):(a.extract 0 i).toList=a.toList.take i:=by rw[XV];rfl
theorem Iw.done{a b o:Array Nat}{na nb:Nat}(h:Iw a b o na nb):(a.extract 0 na++b.extract 0 nb++o.reverse).toList.Perm (a.toList++b.toList):=by
 rw[Cm,Cm,KQ,KQ,Gh]
 exact h.all
theorem Iw.first{a b o:Array Nat}{na nb:Nat}(h:Iw a b o na nb):(b.extract 0 nb++a.extract 0 na++o.reverse).toList.Perm (a.toList++b.toList):=by
 rw[Cm,Cm,KQ,KQ,Gh]
 exact(Fq _ Cq).trans h.all
def Lh(a b:Array Nat)(x:Pu)(m:Nat)(r:Option (Array Nat))(o:Array Nat)(na nb:Nat)(y:Pu):Prop:=r=none/\Iw a b o na nb/\0<na/\na<=a.size/\1<nb/\nb<=b.size/\na+nb<=m/\Sd x y
abbrev HT(β:Type):=Option (Array Nat)×Nat×Nat×Array Nat×β
noncomputable def vH{β:Type}(t:HT β)(e:En):Option (Array Keyed)×Nat×Nat×Array Keyed×β:=(t.1.map e.of,t.2.1,t.2.2.1,e.of t.2.2.2.1,t.2.2.2.2)
theorem X.yieldH{β:Type}{tail:β}{o:Array Nat}{na nb:Nat}{O:En->Array Keyed}{I J:HT β->Pu->Prop}{y:Pu}(h:I (none,na,nb,o,tail) y)(hO: ∀e,O e=e.of o):X n ck (λe=>Fz (Cp (none,na,nb,O e,tail))) y (sv vH) (sR I J):=
 X.yield (none,na,nb,o,tail) h λe=>by rw[hO];rfl
theorem X.doneH{β:Type}{tail:β}{o:Array Nat}{na nb:Nat}{O:En->Array Keyed}{I J:HT β->Pu->Prop}{y:Pu}(h:J (none,na,nb,o,tail) y)(hO: ∀e,O e=e.of o):X n ck (λe=>Fz (ForInStep.done (none,na,nb,O e,tail))) y (sv vH) (sR I J):=
 X.done (none,na,nb,o,tail) h λe=>by rw[hO];rfl
theorem X.tellE{β:Type}{tail:β}{a b o:Array Nat}{na nb:Nat}{O:En->Array Keyed}{I J:HT β->Pu->Prop}{x y:Pu}(q:Iw a b o na nb)(hs:Sd x y)(hO: ∀e,O e=e.of o)(hJ: ∀t,Td a b x t.1 y->J t y):
  X n ck (λe=>Fz (ForInStep.done (some ((e.of a).extract 0 na++(e.of b).extract 0 nb++(O e).reverse),na,nb,O e,tail))) y (sv vH) (sR I J):=
 X.done (some (a.extract 0 na++b.extract 0 nb++o.reverse),na,nb,o,tail) (hJ _ ⟨_,rfl,q.done,hs⟩) λe=>by rw[hO,Z3,Z3,SM,ZD,ZD];rfl
theorem X.tellF{β:Type}{tail:β}{a b o:Array Nat}{na nb:Nat}{O:En->Array Keyed}{I J:HT β->Pu->Prop}{x y:Pu}(q:Iw a b o na nb)(hs:Sd x y)(hO: ∀e,O e=e.of o)(hJ: ∀t,Td a b x t.1 y->J t y):
  X n ck (λe=>Fz (ForInStep.done (some ((e.of b).extract 0 nb++(e.of a).extract 0 na++(O e).reverse),na,nb,O e,tail))) y (sv vH) (sR I J):=
 X.done (some (b.extract 0 nb++a.extract 0 na++o.reverse),na,nb,o,tail) (hJ _ ⟨_,rfl,q.first,hs⟩) λe=>by rw[hO,Z3,Z3,SM,ZD,ZD];rfl
theorem X.is{α τ:Type}{m k:Nat}{dc:En->Decidable ((m==k)=true)}{a b:En->StateT Fh Sem α}{x:Pu}{v:τ->En->α}{R:τ->Pu->Prop}(h1:m=k->X n ck a x v R)(h2:m≠k->X n ck b x v R):X n ck (λe=> @_root_.ite _ ((m==k)=true) (dc e) (a e) (b e)) x v R:=
 X.ite (λh=>h1 (by simpa using h)) λh=>h2 (by simpa using h)
theorem X.iteE{α τ:Type}{c:En->Prop}{dc:(e:En)->Decidable (c e)}{a b:En->StateT Fh Sem α}{x:Pu}{v:τ->En->α}{R:τ->Pu->Prop}{c0:Prop}(hc: ∀e,c e=c0)(h1:c0->X n ck a x v R)(h2: ¬c0->X n ck b x v R):X n ck (λe=> @_root_.ite _ (c e) (dc e) (a e) (b e)) x v R:=by
 obtain rfl:c=λ_=>c0:=funext hc
 exact X.ite h1 h2
theorem zK5{a b:Array Nat}{x:Pu}(ha:Al n a)(hb:Al n b)(a1:1<=a.size)(b1:1<=b.size):X n ck (λe=>IK (e.of a) (e.of b)) x (λt e=>e.of t) (λt y=>t.toList.Perm (a.toList++b.toList)/\Sd x y):=by
 have i1:Iw a b #[a.getD (a.size - 1) 0] (a.size - 1) b.size:=by
  have e:Iw a b #[] a.size b.size:=by
   unfold Iw
   rw[show a.size=a.toList.length from rfl,show b.size=b.toList.length from rfl,Eo,Eo]
   exact .refl _
  exact e.pushA (by lia) (Ap _)
 refine X.go D.rule ?_
 simp only[VC]
 refine X.go (D.elem (q := a) (i := a.size - 1) (by lia)) ?_
 refine X.is (λh => X.ret (a.extract 0 (a.size - 1) ++ b.extract 0 b.size ++ #[a.getD (a.size - 1) 0].reverse) ⟨i1.done,rfl,rfl⟩ λe => ?_) λh => ?_
 ·simp only[<- ZD,<- Z3,<- SM,QT]
 refine X.is (λh => X.ret (b.extract 0 b.size ++ a.extract 0 (a.size - 1) ++ #[a.getD (a.size - 1) 0].reverse) ⟨i1.first,rfl,rfl⟩ λe => ?_) λh2 => ?_
 ·simp only[<- ZD,<- Z3,<- SM,QT]
 refine X.go D.get ?_
 refine X.bind (u := vH) (S := λt y => Td a b x t.1 y) ?_ ?_
 ·refine X.rangeE (v := vH) (I := λk t y => Lh a b x k t.1 t.2.2.2.1 t.2.1 t.2.2.1 y) (t := (none,a.size - 1,b.size,#[a.getD (a.size - 1) 0],x.g)) (a.size + b.size) (λe => rfl) ?_ ⟨rfl,i1,by dsimp only;lia,by dsimp only;lia,by dsimp only;lia,by dsimp only;lia,by dsimp only;lia,rfl,rfl⟩ ?_ λe => ?_
  ·rintro t y ⟨_,_,h3,h4,h5,h6,h7,_⟩
   exact absurd h7 (by lia)
  ·rintro k ⟨r,na,nb,o,g⟩ y hk ⟨rfl,h2,h3,h3',h4,h4',h5,h6⟩ i
   dsimp only at h2 h3 h3' h4 h4' h5
   dsimp only[vH]
   refine X.bind (u:=vH) (S:=λt z=>Td a b x t.1 z∨Lh a b x k t.1 t.2.2.2.1 t.2.1 t.2.2.1 z) ?_ ?_
   ·refine X.rangeE (v := vH) (I := λj t y => Lh a b x (if j < a.size + b.size then k else k + 1) t.1 t.2.2.2.1 t.2.1 t.2.2.1 y) (t := (none,na,nb,o,0,0)) (a.size + b.size) (λe => rfl) ?_ ⟨rfl,h2,h3,h3',h4,h4',by rw [if_neg (by lia)];exact h5,h6⟩ ?_
    ·intro t y h
     rw [if_pos (by lia)] at h
     exact .inr h
    ·rintro j ⟨r,ka,kb,o,ac,bc⟩ y hk ⟨rfl,g2,g3,g3',g4,g4',g5,g6⟩ i
     dsimp only at g2 g3 g3' g4 g4' g5
     dsimp only[vH]
     have g5':ka+kb<=k+1:=by split at g5<;>lia
     refine X.go (D.elem (q:=b) (i:=kb - 1) (by lia)) (X.go (D.elem (q:=a) (i:=ka - 1) (by lia)) (X.go (D.lt (hb _ (by lia)) (ha _ (by lia))) ?_))
     refine X.ite (λ_=> ?_) λ_=> ?_
     ·refine X.go (D.elem (q := a) (i := ka - 1) (by lia)) ?_
      have q:=g2.pushA g3 g3'
      refine X.is (λ_=>X.tellE q g6 (λe=>bE e _ _) λt h=> .inl h) λz=> ?_
      exact X.ite (λ_=>X.doneH (.inr ⟨rfl,q,by dsimp only;lia,by dsimp only;lia,g4,g4',by dsimp only;lia,g6⟩) λe=>bE e _ _) λ_=>X.yieldH ⟨rfl,q,by dsimp only;lia,by dsimp only;lia,g4,g4',by dsimp only;rw[if_pos hk];lia,g6⟩ λe=>bE e _ _
     ·refine X.go (D.elem (q := b) (i := kb - 1) (by lia)) ?_
      have q:=g2.pushB (by lia) g4'
      refine X.is (λ_=>X.tellF q g6 (λe=>bE e _ _) λt h=> .inl h) λz=> ?_
      exact X.ite (λ_=>X.doneH (.inr ⟨rfl,q,g3,g3',by dsimp only;lia,by dsimp only;lia,by dsimp only;lia,g6⟩) λe=>bE e _ _) λ_=>X.yieldH ⟨rfl,q,g3,g3',by dsimp only;lia,by dsimp only;lia,by dsimp only;rw[if_pos hk];lia,g6⟩ λe=>bE e _ _
   ·rintro ⟨r,ka,kb,o,ac,bc⟩ z (⟨t,e1,ht⟩|⟨e1,g2,g3,g3',g4,g4',g5,g6⟩)
    ·dsimp only at e1
     subst e1
     exact X.done (some t,ka,kb,o,g) ⟨t,rfl,ht⟩
    ·dsimp only at e1 g2 g3 g3' g4 g4' g5
     subst e1
     dsimp only[vH]
     refine X.go D.rule ?_
     refine X.bind (u:=vH) (S:=λt z=>Td a b x t.1 z∨Lh a b x k t.1 t.2.2.2.1 t.2.1 t.2.2.1 z) ?_ ?_
     ·refine X.rangeE (v := vH) (I := λ_ t y => Lh a b x k t.1 t.2.2.2.1 t.2.1 t.2.2.1 y) (t := (none,ka,kb,o,g + 1,ac,bc)) (a.size + b.size) (λe => rfl) (λt y h => .inr h) ⟨rfl,g2,g3,g3',g4,g4',g5,g6⟩ ?_
      rintro j ⟨r,ka,kb,o,g,ac,bc⟩ y hk ⟨rfl,g2,g3,g3',g4,g4',g5,g6⟩ i
      dsimp only at g2 g3 g3' g4 g4' g5
      dsimp only[vH]
      refine X.ite (λ_=> ?_) λ_=> ?_
      all_goals
       refine X.go D.setMin (X.go (D.elem (q:=b) (i:=kb - 1) (by lia)) (X.bind (gal (hb _ (by lia)) (by lia) (by lia) ha) ?_))
       rintro d z ⟨hd,rfl⟩
       refine X.ite (λ_=> ?_) λ_=> ?_
       ·have q:=g2.extA hd
        have qO: ∀e:En,e.of o++((e.of a).extract d ka).reverse=e.of (o++(a.extract d ka).reverse):=λe=>by rw[Z3,SM,ZD]
        refine X.is (λ_=>X.tellE q g6 qO λt h=> .inl h) λz1=> ?_
        refine X.go (D.elem (q:=b) (i:=kb - 1) (by lia)) ?_
        have r:=q.pushB (show 0<kb by lia) g4'
        have rO: ∀e:En,_=e.of _:=λe=>(congrArg (λO=>O.push (e.at (b.getD (kb - 1) 0))) (qO e)).trans (bE e _ _)
        refine X.is (λ_=>X.tellF r g6 rO λt h=> .inl h) λz3=> ?_
        refine X.go (D.elem (q:=a) (i:=d - 1) (by lia)) (X.bind (gal (ha _ (by lia)) (by lia) (by lia) hb) ?_)
        rintro d2 z ⟨hd2,rfl⟩
        refine X.ite (λ_=> ?_) λ_=> ?_
        ·have u:=r.extB hd2
         have uO: ∀e:En,_=e.of _:=λe=>((congrArg (λO=>O++((e.of b).extract d2 (kb - 1)).reverse) (rO e)).trans (by rw[Z3,SM])).trans (ZD e _ _)
         refine X.is (λ_=>X.tellF u g6 uO λt h=> .inl h) λz4=>X.is (λ_=>X.tellE u g6 uO λt h=> .inl h) λz4'=> ?_
         refine X.go (D.elem (q:=a) (i:=d - 1) (by lia)) ?_
         have w:=u.pushA (show 0<d by lia) (by lia)
         have wO: ∀e:En,_=e.of _:=λe=>(congrArg (λO=>O.push (e.at (a.getD (d - 1) 0))) (uO e)).trans (bE e _ _)
         refine X.is (λ_=>X.tellE w g6 wO λt h=> .inl h) λz5=> ?_
         exact X.iteE (c0:=(decide (ka - d<7) && decide (kb - 1 - d2<7))=true) (λe=>rfl) (λ_=>X.doneH (.inr ⟨rfl,w,by dsimp only;lia,by dsimp only;lia,by dsimp only;lia,by dsimp only;lia,by dsimp only;lia,g6⟩) wO) λ_=>X.yieldH ⟨rfl,w,by dsimp only;lia,by dsimp only;lia,by dsimp only;lia,by dsimp only;lia,by dsimp only;lia,g6⟩ wO
        ·skip
         refine X.go (D.elem (q:=a) (i:=d - 1) (by lia)) ?_
         have w:=r.pushA (show 0<d by lia) (by lia)
         have wO: ∀e:En,_=e.of _:=λe=>(congrArg (λO=>O.push (e.at (a.getD (d - 1) 0))) (rO e)).trans (bE e _ _)
         refine X.is (λ_=>X.tellE w g6 wO λt h=> .inl h) λz5=> ?_
         exact X.iteE (c0:=(decide (ka - d<7) && decide (kb - 1 - d2<7))=true) (λe=>rfl) (λ_=>X.doneH (.inr ⟨rfl,w,by dsimp only;lia,by dsimp only;lia,by dsimp only;lia,by dsimp only;lia,by dsimp only;lia,g6⟩) wO) λ_=>X.yieldH ⟨rfl,w,by dsimp only;lia,by dsimp only;lia,by dsimp only;lia,by dsimp only;lia,by dsimp only;lia,g6⟩ wO
       ·have qO : ∀ e : En,e.of o = e.of o := λe => rfl
        refine X.go (D.elem (q:=b) (i:=kb - 1) (by lia)) ?_
        have r:=g2.pushB (show 0<kb by lia) g4'
        have rO: ∀e:En,_=e.of _:=λe=>(congrArg (λO=>O.push (e.at (b.getD (kb - 1) 0))) (qO e)).trans (bE e _ _)
        refine X.is (λ_=>X.tellF r g6 rO λt h=> .inl h) λz3=> ?_
        refine X.go (D.elem (q:=a) (i:=ka - 1) (by lia)) (X.bind (gal (ha _ (by lia)) (by lia) (by lia) hb) ?_)
        rintro d2 z ⟨hd2,rfl⟩
        refine X.ite (λ_=> ?_) λ_=> ?_
        ·have u:=r.extB hd2
         have uO: ∀e:En,_=e.of _:=λe=>((congrArg (λO=>O++((e.of b).extract d2 (kb - 1)).reverse) (rO e)).trans (by rw[Z3,SM])).trans (ZD e _ _)
         refine X.is (λ_=>X.tellF u g6 uO λt h=> .inl h) λz4=>X.is (λ_=>X.tellE u g6 uO λt h=> .inl h) λz4'=> ?_
         refine X.go (D.elem (q:=a) (i:=ka - 1) (by lia)) ?_
         have w:=u.pushA (show 0<ka by lia) (by lia)
         have wO: ∀e:En,_=e.of _:=λe=>(congrArg (λO=>O.push (e.at (a.getD (ka - 1) 0))) (uO e)).trans (bE e _ _)
         refine X.is (λ_=>X.tellE w g6 wO λt h=> .inl h) λz5=> ?_
         exact X.iteE (c0:=(decide (ka - d<7) && decide (kb - 1 - d2<7))=true) (λe=>rfl) (λ_=>X.doneH (.inr ⟨rfl,w,by dsimp only;lia,by dsimp only;lia,by dsimp only;lia,by dsimp only;lia,by dsimp only;lia,g6⟩) wO) λ_=>X.yieldH ⟨rfl,w,by dsimp only;lia,by dsimp only;lia,by dsimp only;lia,by dsimp only;lia,by dsimp only;lia,g6⟩ wO
        ·skip
         refine X.go (D.elem (q:=a) (i:=ka - 1) (by lia)) ?_
         have w:=r.pushA (show 0<ka by lia) (by lia)
         have wO: ∀e:En,_=e.of _:=λe=>(congrArg (λO=>O.push (e.at (a.getD (ka - 1) 0))) (rO e)).trans (bE e _ _)
         refine X.is (λ_=>X.tellE w g6 wO λt h=> .inl h) λz5=> ?_
         exact X.iteE (c0:=(decide (ka - d<7) && decide (kb - 1 - d2<7))=true) (λe=>rfl) (λ_=>X.doneH (.inr ⟨rfl,w,by dsimp only;lia,by dsimp only;lia,by dsimp only;lia,by dsimp only;lia,by dsimp only;lia,g6⟩) wO) λ_=>X.yieldH ⟨rfl,w,by dsimp only;lia,by dsimp only;lia,by dsimp only;lia,by dsimp only;lia,by dsimp only;lia,g6⟩ wO
     ·rintro ⟨r,ka,kb,o,g,ac,bc⟩ z (⟨t,e1,ht⟩|⟨e1,g2,g3,g3',g4,g4',g5,g6⟩)
      ·dsimp only at e1
       subst e1
       exact X.done (some t,ka,kb,o,g) ⟨t,rfl,ht⟩
      ·dsimp only at e1 g2 g3 g3' g4 g4' g5
       subst e1
       dsimp only[vH]
       refine X.go D.setMin ?_
       exact X.yieldH ⟨rfl,g2,g3,g3',g4,g4',g5,g6⟩ λe=>rfl
  ·simp only[QT]
   rfl
 ·rintro ⟨r,na,nb,o,g⟩ y ⟨t,e1,h⟩
  dsimp only at e1
  subst e1
  exact X.ret t h
end
section
variable{n:Nat}{ck:Nat->Nat->Bool}
def Ch:List (Nat×Nat×Nat)->Nat->Nat->Prop
 |[],s,e=>s=e
 |u::l,s,e=>u.1=s/\1<=u.2.1/\Ch l (s+u.2.1) e
theorem Ch.le: ∀{l:List (Nat×Nat×Nat)} {s e:Nat},Ch l s e->s<=e
 |[],s,e,h=>Nat.le_of_eq h
 |u::l,s,e,h=>by have:=Ch.le h.2.2;lia
theorem Ch.two: ∀{l:List (Nat×Nat×Nat)} {s e i:Nat} {u v:Nat×Nat×Nat},Ch l s e->l[i]? =some u->l[i+1]? =some v->v.1=u.1+u.2.1/\1<=u.2.1/\1<=v.2.1/\v.1+v.2.1<=e
 |[],s,e,i,u,v,h,h1,h2=>by simp at h1
 |[w],s,e,i,u,v,h,h1,h2=>by simp at h2
 |w::w'::l,s,e,0,u,v,h,h1,h2=>by
  simp at h1 h2
  subst h1 h2
  obtain⟨a1,a2,a3,a4,a5⟩:=h
  have:=a5.le
  exact⟨by lia,a2,a4,by lia⟩
 |w::w'::l,s,e,i+1,u,v,h,h1,h2=>by exact Ch.two (l:=w'::l) h.2.2 (by simpa using h1) (by simpa using h2)
theorem Ch.join: ∀{l:List (Nat×Nat×Nat)} {s e i:Nat} {u v:Nat×Nat×Nat},Ch l s e->l[i]? =some u->l[i+1]? =some v->Ch ((l.set i (u.1,u.2.1+v.2.1,u.2.2)).eraseIdx (i+1)) s e
 |[],s,e,i,u,v,h,h1,h2=>by simp at h1
 |[w],s,e,i,u,v,h,h1,h2=>by simp at h2
 |w::w'::l,s,e,0,u,v,h,h1,h2=>by
  simp at h1 h2
  subst h1 h2
  obtain⟨a1,a2,a3,a4,a5⟩:=h
  exact⟨a1,by dsimp only;lia,by rw[Qn] at a5;exact a5⟩
 |w::w'::l,s,e,i+1,u,v,h,h1,h2=>by
  have ih:=Ch.join (l:=w'::l) h.2.2 (by simpa using h1) (by simpa using h2)
  exact⟨h.1,h.2.1,ih⟩
theorem Ch.more: ∀{l:List (Nat×Nat×Nat)} {s e m:Nat},Ch l s e->1<=m->Ch (l++[(e,m,0)]) s (e+m)
 |[],s,e,m,h,h1=>⟨h.symm,h1,by rw[h];rfl⟩
 |u::l,s,e,m,h,h1=>⟨h.1,h.2.1,Ch.more h.2.2 h1⟩
theorem Ch.mod{f:Nat×Nat×Nat->Nat×Nat×Nat}(hf: ∀u,(f u).1=u.1/\(f u).2.1=u.2.1): ∀{l:List (Nat×Nat×Nat)} {s e:Nat} (i:Nat),Ch l s e->Ch (l.modify i f) s e
 |[],s,e,i,h=>by simpa using h
 |u::l,s,e,0,h=>by
  rw[List.modify_zero_cons]
  exact⟨(hf u).1.trans h.1,by rw[(hf u).2];exact h.2.1,by rw[(hf u).2];exact h.2.2⟩
 |u::l,s,e,i+1,h=>by
  rw[List.modify_succ_cons]
  exact⟨h.1,h.2.1,Ch.mod hf i h.2.2⟩
def put{α:Type}(p:Array α)(s:Nat)(l:List α)(k:Nat):Array α:=(l.zipIdx k).foldl (λa x=>a.setIfInBounds (s+x.2) x.1) p
theorem E4{α β:Type}(f:α->β)(s:Nat): ∀(l:List α) (k:Nat) (p:Array α),put (p.map f) s (l.map f) k=(put p s l k).map f
 |[],k,p=>rfl
 |q::l,k,p=>by
  have e:(p.map f).setIfInBounds (s+k) (f q)=(p.setIfInBounds (s+k) q).map f:=by simp
  show put ((p.map f).setIfInBounds (s+k) (f q)) s (l.map f) (k+1)=_
  rw[e]
  exact E4 f s l (k+1) _
theorem JF{α:Type}(s:Nat): ∀(l:List α) (k:Nat) (p:Array α),s+k+l.length<=p.size->(put p s l k).toList=p.toList.take (s+k)++l++p.toList.drop (s+k+l.length)
 | [],k,p,h => by simp [put]
 | q :: l,k,p,h => by
  simp only[Bo] at h
  have ih:=JF s l (k+1) (p.setIfInBounds (s+k) q) (by simp;lia)
  show(put (p.setIfInBounds (s+k) q) s l (k+1)).toList=_
  have hk:s+k<p.toList.length:=by simp;lia
  rw[ih,Array.toList_setIfInBounds,show s+(k+1)=s+k+1 by lia,List.drop_set_of_lt (by lia),List.take_set,Pr,Br hk]
  simp only[Bo,Option.toList_some]
  rw[show s+k+(l.length+1)=s+k+1+l.length by lia]
  have e2:(p.toList.take (s+k)++[p.toList[s+k]]).set (s+k) q=p.toList.take (s+k)++[q]:=by
   have ai:(p.toList.take (s+k)).length=s+k:=by rw[Ci];lia
   rw[Ek _ _ (by lia),ai,Jn]
   rfl
  rw[e2]
  simp
def Wf(n:Nat)(lo:Nat)(x:Pu):Prop:=Pm n x.p/\Ch x.pd.toList 0 lo/\lo<=n
theorem Pm.put{p:Array Nat}(hp:Pm n p){s m e:Nat}{t:Array Nat}(h1:s<=m)(h2:m<=e)(h3:e<=n)(ht:t.toList.Perm ((p.extract s m).toList++(p.extract m e).toList)):Pm n (TS.put p s t.toList 0):=by
 have hs:=hp.sz
 have hl:t.toList.length=e - s:=by
  rw[ht.length_eq]
  simp
  lia
 unfold Pm
 rw[JF s t.toList 0 p (by lia)]
 refine Jb ?_ hp
 rw[hl,show s+0+(e - s)=e by lia,Nat.add_zero]
 have e0:=Dg e p.toList
 have e1:=Dg s (p.toList.take e)
 have e2:=QI (p.toList.take e) s m h1
 rw[Ma,Hg h2] at e2
 rw[Ma,Hg (by lia)] at e1
 rw[XV,XV,<- e2] at ht
 have e3:p.toList=p.toList.take s++(p.toList.take e).drop s++p.toList.drop e:=by rw[e1,e0]
 refine Jb (Fq _ (Df _ ht)) ?_
 rw[<- e3]
theorem D.set{F:En->Fh}{x y:Pu}(h: ∀e,F e=DR e y):D n ck (λe=>(MonadStateOf.set (F e):StateT Fh Sem PUnit)) x (λ_=>⟨⟩) y:=λe _ E Q q=>by
 show kasC _ _ _ (MonadStateOf.set (F e):StateT Fh Sem PUnit) Q _ _
 rw[h e]
 unfold kasC
 exact Ai q
theorem zHM{a b:Array Nat}{x:Pu}{A B:En->Array Keyed}(hA: ∀e,A e=e.of a)(hB: ∀e,B e=e.of b)(ha:Al n a)(hb:Al n b)(a1:1<=a.size)(b1:1<=b.size):X n ck (λe=>IL (A e) (B e)) x (λt e=>e.of t) (λt y=>t.toList.Perm (a.toList++b.toList)/\Sd x y):=by
 rw[show A=λe=>e.of a from funext hA,show B=λe=>e.of b from funext hB]
 exact zK4 ha hb a1 b1
theorem zHN{a b:Array Nat}{x:Pu}{A B:En->Array Keyed}(hA: ∀e,A e=e.of a)(hB: ∀e,B e=e.of b)(ha:Al n a)(hb:Al n b)(a1:1<=a.size)(b1:1<=b.size):X n ck (λe=>IK (A e) (B e)) x (λt e=>e.of t) (λt y=>t.toList.Perm (a.toList++b.toList)/\Sd x y):=by
 rw[show A=λe=>e.of a from funext hA,show B=λe=>e.of b from funext hB]
 exact zK5 ha hb a1 b1
theorem Pm.al{p:Array Nat}(h:Pm n p):Al n p:=λi hi=>h.lt (by rw[<- h.sz];exact hi)
theorem Al.ext{p:Array Nat}(h:Al n p)(i j:Nat):Al n (p.extract i j):=λk hk=>by
 have hk':k<min j p.size - i:=by simpa using hk
 have e:(p.extract i j).getD k 0=p.getD (i+k) 0:=by
  have h1:i+k<p.size:=by lia
  have e1:p.getD (i+k) 0=p[i+k]:=by simp[Kc,h1]
  have e2:(p.extract i j).getD k 0=(p.extract i j)[k]:=by simp[Kc,hk']
  rw[e1,e2,Array.getElem_extract]
 rw[e]
 exact h _ (by lia)
theorem zB0{i lo:Nat}{x:Pu}(h:Wf n lo x)(hi:i+1<x.pd.size):X n ck (λ_=>mergeAt' i) x (λ(_:Unit) _=>true) (λ_ y=>Wf n lo y):=by
 obtain⟨hp,hc,hl⟩:=h
 have hsz:=hp.sz
 obtain⟨sa,na,pw,hu⟩: ∃sa na pw,x.pd[i]'(by lia)=(sa,na,pw):=⟨_,_,_,rfl⟩
 obtain⟨sb,nb,qw,hv⟩: ∃sb nb qw,x.pd[i+1]'hi=(sb,nb,qw):=⟨_,_,_,rfl⟩
 have eu:x.pd[i]? =some (sa,na,pw):=by rw[<- hu];simp
 have ev:x.pd[i+1]? =some (sb,nb,qw):=by rw[<- hv];simp
 have eu':x.pd.toList[i]? =some (sa,na,pw):=by rw[<- eu];simp
 have ev':x.pd.toList[i+1]? =some (sb,nb,qw):=by rw[<- ev];simp
 obtain⟨c1,c2,c3,c4⟩:=hc.two eu' ev'
 dsimp only at c1 c2 c3 c4
 have hj:=hc.join eu' ev'
 dsimp only at hj
 have hW:Wf n lo {x with pd:=(x.pd.setIfInBounds i (sa,na+nb,pw)).eraseIdxIfInBounds (i+1)}:=⟨hp,by
  show Ch ((x.pd.setIfInBounds i (sa,na+nb,pw)).eraseIdxIfInBounds (i+1)).toList 0 lo
  rw[show((x.pd.setIfInBounds i (sa,na+nb,pw)).eraseIdxIfInBounds (i+1)).toList=(x.pd.toList.set i (sa,na+nb,pw)).eraseIdx (i+1) by simp[Ka,hi]]
  exact hj,hl⟩
 generalize hy:({x with pd:=(x.pd.setIfInBounds i (sa,na+nb,pw)).eraseIdxIfInBounds (i+1)}:Pu)=y at hW
 refine X.go D.get ?_
 have epd: ∀e:En,pendingOf (DR e x)=x.pd:=λe=>rfl
 simp only[epd,eu,ev]
 refine X.go (D.set (y:=y) λe=>by rw[<- hy];rfl) ?_
 have hyp:y.p=x.p:=by rw[<- hy]
 refine X.go (D.elem (q:=x.p) (i:=sb) (by lia)) (X.bind (gal (hp.lt (by lia)) (by lia) (by lia) hp.al) ?_)
 rintro k z ⟨hk,rfl⟩
 refine X.is (λ_=>X.ret () hW) λhk2=> ?_
 refine X.go (D.elem (q:=x.p) (i:=sa+k+(na - k) - 1) (by lia)) (X.bind (gal (hp.lt (by lia)) (by lia) (by lia) hp.al) ?_)
 rintro m z ⟨hm,rfl⟩
 refine X.is (λ_=>X.ret () hW) λhm2=> ?_
 have fin: ∀(t:Array Nat) (z':Pu),t.toList.Perm ((x.p.extract (sa+k) sb).toList++(x.p.extract sb (sb+m)).toList)->Sd z z'->Wf n lo {z' with p:=TS.put z'.p (sa+k) t.toList 0}:=λt z' ht hs=>by
  refine⟨?_,by rw[hs.2];exact hW.2.1,hl⟩
  rw[hs.1,hyp]
  exact hp.put (by lia) (by lia) (by lia) ht
 have WS: ∀(e:En) (t:Array Nat) (z':Pu),((e.of t).toList.zipIdx.foldl (λa x=>a.setIfInBounds (sa+k+x.2) x.1) (e.of z'.p))=e.of (TS.put z'.p (sa+k) t.toList 0):=λe t z'=>by
  have h:=E4 (Ie e.it) (sa+k) t.toList 0 z'.p
  rw[show t.toList.map (Ie e.it)=(e.of t).toList by simp[En.of]] at h
  exact h
 refine X.ite (λ_=>X.bind (zHM (a:=x.p.extract (sa+k) sb) (b:=x.p.extract sb (sb+m)) (λe=>Z3 e _ _ _) (λe=>Z3 e _ _ _) (hp.al.ext _ _) (hp.al.ext _ _) (by simp;lia) (by simp;lia)) ?_) λ_=>X.bind (zHN (a:=x.p.extract (sa+k) sb) (b:=x.p.extract sb (sb+m)) (λe=>Z3 e _ _ _) (λe=>Z3 e _ _ _) (hp.al.ext _ _) (hp.al.ext _ _) (by simp;lia) (by simp;lia)) ?_
 all_goals
  rintro t z' ⟨ht,hs⟩
  refine X.go (D.modify (y:={z' with p:=TS.put z'.p (sa+k) t.toList 0}) λe=> ?_) (X.go D.get (X.ret () (fin t z' ht hs)))
  show Ii e.κ ((e.of t).toList.zipIdx.foldl (λa x=>a.setIfInBounds (sa+k+x.2) x.1) (e.of z'.p)) z'.pd z'.g none=_
  rw[WS]
  rfl
end
section
variable{n:Nat}{ck:Nat->Nat->Bool}
theorem Wf.pw{x:Pu}{lo:Nat}(h:Wf n lo x)(i pw:Nat):Wf n lo {x with pd:=x.pd.modify i λu=>(u.1,u.2.1,pw)}:=by
 refine⟨h.1,?_,h.2.2⟩
 show Ch (x.pd.modify i λu=>(u.1,u.2.1,pw)).toList 0 lo
 rw[Array.toList_modify]
 exact Ch.mod (f:=λu=>(u.1,u.2.1,pw)) (λu=>⟨rfl,rfl⟩) i h.2.1
theorem Wf.more{x:Pu}{lo m:Nat}(h:Wf n lo x)(h1:1<=m)(h2:lo+m<=n):Wf n (lo+m) {x with pd:=x.pd.push (lo,m,0)}:=by
 refine⟨h.1,?_,h2⟩
 show Ch (x.pd.push (lo,m,0)).toList 0 (lo+m)
 rw[Gf]
 exact h.2.1.more h1
theorem runs{x:Pu}(h:Wf n 0 x):X n ck (λ_=>sortRuns') x (λ(_:Unit) _=>()) (λ_ y=>Pm n y.p):=by
 refine X.go D.get ?_
 have esz : ∀ e : En,(arrOf (DR e x)).size = n := λe => by
  show(e.of x.p).size=n
  rw[VC,h.1.sz]
 have epd : ∀ (e : En) (y : Pu),pendingOf (DR e y) = y.pd := λe y => rfl
 simp only[esz]
 generalize (sortPriv% PySem.Builtin.minRun) n n 0=mr
 refine X.bind (u:=λ(t:Nat) _=>(none,t)) (S:=λt y=>Wf n t y) ?_ ?_
 ·refine X.range (I := λ_ t y => Wf n t y) (t := 0) (λt y h => h) h λi _ _ k lo y hw => ?_
  refine X.ite (λ_=>X.done lo hw) λq=> ?_
  dsimp only at q
  refine X.bind (zKS hw.1 (by dsimp only;omega) (by dsimp only;omega)) ?_
  rintro m z ⟨m1,m2,hz⟩
  have hz' : Wf n lo z := ⟨hz.1,by rw [hz.2];exact hw.2.1,hw.2.2⟩
  dsimp only at m2
  have last : ∀ (m : Nat) (z : Pu),1 <= m -> lo + m <= n -> Wf n lo z -> 1 <= m /\ lo + m <= n /\ Wf n lo z := λm z a b c => ⟨a,b,c⟩
  refine X.ite (λ_=>X.go D.rule (X.bind (bin hz'.1 (by dsimp only;omega)) λ_ z2 hz2=>X.ite (λhf=>absurd hf (by simp)) λ_=> ?_)) λ_=> ?_
  ·have w := last (min (n - lo) mr) z2 (by omega) (by omega) ⟨hz2.1,by rw [hz2.2];exact hz'.2.1,hz'.2.2⟩
   obtain⟨w1,w2,w3⟩:=w
   refine X.go D.get ?_
   simp only[epd]
   cases hb:z2.pd.back? with
   | none => exact X.go (D.modify (y := { z2 with pd := z2.pd.push (lo,(min (n - lo) mr),0) }) λe => rfl) (X.yield (lo + (min (n - lo) mr)) (w3.more w1 w2))
   |some u=>
    obtain⟨s1,n1,q1⟩:=u
    dsimp only
    generalize hpw:(sortPriv% PySem.Builtin.power) n (2*s1+n1) (2*s1+n1+n1+min (n - lo) mr) n=pw
    refine X.bind (u:=λ(_:Unit) _=>(none,())) (S:=λ_ y=>Wf n lo y) ?_ λ_ y hy=> ?_
    ·refine X.range (I := λ_ _ y => Wf n lo y) (t := ()) (λt y h => h) w3 λi _ _ k _ y hy => ?_
     refine X.go D.get ?_
     simp only[epd]
     by_cases hs:y.pd.size>1
     ·rw[if_pos hs]
      cases ho:y.pd[y.pd.size - 2]? with
      |none=>exact X.done () hy
      |some u=>
       obtain⟨o1,o2,o3⟩:=u
       dsimp only
       exact X.ite (λ_=>X.done () hy) λ_=>X.bind (zB0 hy (by omega)) λ_ y h=>X.ite (λhf=>absurd hf (by simp)) λ_=>X.yield () h
     ·rw[if_neg hs]
      exact X.done () hy
    ·refine X.go (D.modify (y := { y with pd := y.pd.modify (y.pd.size - 1) λu => (u.1,u.2.1,pw) }) λe => rfl) ?_
     exact X.go (D.modify (y:={y with pd:=(y.pd.modify (y.pd.size - 1) λu=>(u.1,u.2.1,pw)).push (lo,(min (n - lo) mr),0)}) λe=>rfl) (X.yield (lo+min (n - lo) mr) ((hy.pw _ pw).more w1 w2))
  ·have w := last m z m1 (by omega) hz'
   obtain⟨w1,w2,w3⟩:=w
   refine X.go D.get ?_
   simp only[epd]
   cases hb:z.pd.back? with
   | none => exact X.go (D.modify (y := { z with pd := z.pd.push (lo,m,0) }) λe => rfl) (X.yield (lo + m) (w3.more w1 w2))
   |some u=>
    obtain⟨s1,n1,q1⟩:=u
    dsimp only
    generalize hpw:(sortPriv% PySem.Builtin.power) n (2*s1+n1) (2*s1+n1+n1+m) n=pw
    refine X.bind (u:=λ(_:Unit) _=>(none,())) (S:=λ_ y=>Wf n lo y) ?_ λ_ y hy=> ?_
    ·refine X.range (I := λ_ _ y => Wf n lo y) (t := ()) (λt y h => h) w3 λi _ _ k _ y hy => ?_
     refine X.go D.get ?_
     simp only[epd]
     by_cases hs:y.pd.size>1
     ·rw[if_pos hs]
      cases ho:y.pd[y.pd.size - 2]? with
      |none=>exact X.done () hy
      |some u=>
       obtain⟨o1,o2,o3⟩:=u
       dsimp only
       exact X.ite (λ_=>X.done () hy) λ_=>X.bind (zB0 hy (by omega)) λ_ y h=>X.ite (λhf=>absurd hf (by simp)) λ_=>X.yield () h
     ·rw[if_neg hs]
      exact X.done () hy
    ·refine X.go (D.modify (y := { y with pd := y.pd.modify (y.pd.size - 1) λu => (u.1,u.2.1,pw) }) λe => rfl) ?_
     exact X.go (D.modify (y:={y with pd:=(y.pd.modify (y.pd.size - 1) λu=>(u.1,u.2.1,pw)).push (lo,m,0)}) λe=>rfl) (X.yield (lo+m) ((hy.pw _ pw).more w1 w2))
 ·intro lo y hw
  refine X.bind (u:=λ(_:Unit) _=>(none,())) (S:=λ_ y=>Wf n lo y) ?_ λ_ y h=>X.ret () h.1
  refine X.range (I:=λ_ _ y=>Wf n lo y) (t:=()) (λt y h=>h) hw λi _ _ k _ y hw=> ?_
  refine X.go D.get ?_
  simp only[epd]
  refine X.ite (λ_=>X.done () hw) λq=> ?_
  have hle: ∀(c:Prop) [Decidable c],(if c then y.pd.size - 2 - 1 else y.pd.size - 2)+1<y.pd.size:=by
   intro c _
   split<;>omega
  exact X.bind (zB0 hw (hle _)) λ_ y h=>X.ite (λhf=>absurd hf (by simp)) λ_=>X.yield () h
end
theorem Pm.id(n:Nat):Pm n (Ar n).toArray:=by
 unfold Pm
 simp
def xS(n:Nat):Pu:=⟨(Ar n).toArray,#[],7⟩
theorem JJ(n:Nat)(ck:Nat->Nat->Bool): ∃y:Pu,Pm n y.p/\D n ck (λ_=>sortRuns') (xS n) (λ_=>()) y:=by
 obtain⟨t,y,h,d⟩:=runs (n:=n) (ck:=ck) (x:=xS n) ⟨Pm.id n,rfl,Dc _⟩
 exact⟨y,h,d⟩
noncomputable def srt(n:Nat)(ck:Nat->Nat->Bool):List Nat:=if 2<=n then(JJ n ck).choose.p.toList else Ar n
theorem JR(n:Nat)(ck:Nat->Nat->Bool):(srt n ck).Perm (Ar n):=by
 unfold srt
 split
 ·exact(JJ n ck).choose_spec.1
 ·exact .refl _
section
variable{prog:Bn}{w:World}{A:Cy}{E:Value->Ag->Prop}{s:Ag}
theorem DL(vs:List Value):(Ar vs.length).map (λi=>vs.getD i Value.none)=vs:=by
 refine Jy λi=> ?_
 by_cases h:i<vs.length
 ·simp[h]
 ·simp[h]
theorem DQ{a:Addr}{vs:List Value}{nn:Nat}{κ:Oh}{ck:Nat->Nat->Bool}{P:PySem.Fin->Ag->Prop}(ho:s.heap.get? a=some (Gu "list" vs.toArray nn)) (hz:vs.length<=sizeLine)
  (hk:2<=vs.length-> ∀h':Heap,(∀b o,b≠a->s.heap.get? b=some o->h'.get? b=some o)-> ∀Q':Oh->Ag->Prop,Q' κ {s with heap:=h'}->wpAny (model prog w) A (keyKind' vs.toArray) Q' E {s with heap:=h'})
  (hc : ∀ h' : Heap,(∀ b o,b ≠ a -> s.heap.get? b = some o -> h'.get? b = some o) -> ∀ i j,i < vs.length -> j < vs.length -> ∀ C : Bool -> Ag -> Prop,C (ck i j) { s with heap := h' } -> wpAny (model prog w) A (keyLt' κ (vs.getD i Value.none) (vs.getD j Value.none)) C (λ_ _ => False) { s with heap := h' })
  (h : P (.done (.ret .none)) { s with heap := sortedHeap s.heap a vs ((srt vs.length ck).map λi => vs.getD i Value.none).toArray }) :
  wpAny (model prog w) A (Mf.«list.sort» ⟨[.ref a],[]⟩) P E s:=by
 have lt:=Am ho
 have hsz:vs.toArray.size=vs.length:=by simp
 obtain⟨e1,ho1⟩: ∃k,(s.heap.update a (El λ_=> #[])).get? a=some (Gu "list" #[] k):=⟨_,get?_update_seq ho (λ_=> #[])⟩
 have keep: ∀b o,b≠a->s.heap.get? b=some o->(((s.heap.update a (El λ_=> #[])).push (Gu "tuple" vs.toArray 0)).push (Gu "list" #[] 0)).get? b=some o:=λb o hb hbo=>
  Ac _ (Ac _ (by rw[Mh _ _ _ _ hb];exact hbo))
 have ho6:(((s.heap.update a (El λ_=> #[])).push (Gu "tuple" vs.toArray 0)).push (Gu "list" #[] 0)).get? a=some (Gu "list" #[] e1):=Ac _ (Ac _ ho1)
 have r6: ∀l:List Value,l.length=vs.length->l.toArray.size<=sizeLine+1:=λl hl=>by rw[Aq];lia
 rw[list_sort_plain]
 refine(Aa (listItems_at ho rfl ?_))
 refine(Aa (Mt ho rfl ?_ (by rw[Aq];lia) (Dc _)))
 refine(Aa (Ph ho1 rfl ?_))
 refine(Aa (wpAny_newTuple ?_ (by show vs.length<=_;exact hz)))
 refine(Aa (wpAny_newList (Ce ?_) (Dc _)))
 ·show (wpAny (model prog w) A _ P E { s with heap := (((s.heap.update a (El λ_ => #[])).push (Gu "tuple" vs.toArray 0)).push (Gu "list" #[] 0)) })
  dsimp only
  have ai:((srt vs.length ck).map λi=>vs.getD i Value.none).length=vs.length:=by rw[Ck,(JR _ _).length_eq,Ho]
  by_cases h2:vs.toArray.size<2
  ·have he : ((srt vs.length ck).map λi => vs.getD i Value.none) = vs := by
    unfold srt
    rw[if_neg (by lia)]
    exact DL vs
   rw[he] at h
   rw[if_pos h2,if_pos h2]
   refine(Aa (Ai ?_))
   rw[StateT.run_pure]
   refine(Aa (Ai ?_))
   dsimp only
   have hm:(vs.toArray.zip vs.toArray).map (·.2)=vs.toArray:=by
    apply Od.mp
    simp
    exact List.map_snd_zip (Ap _)
   rw[hm]
   refine(Aa (Ph ho6 rfl (Aa (Mt ho6 rfl ?_ (hsz2:=by rw[Aq];lia)))))
   simp only[bne_self_eq_false,Fd,if_false]
   exact Ai h
  ·rw[if_neg h2,if_neg h2]
   refine(Aa (hk (by lia) _ keep _ ?_))
   have n2:2<=vs.length:=by lia
   have spec:=(JJ vs.length ck).choose_spec
   have o8:srt vs.length ck=(JJ vs.length ck).choose.p.toList:=by unfold srt;rw[if_pos n2]
   generalize (JJ vs.length ck).choose=y at spec o8
   let e:En:=⟨prog,w,A,{s with heap:=(((s.heap.update a (El λ_=> #[])).push (Gu "tuple" vs.toArray 0)).push (Gu "list" #[] 0))},κ,Ng vs⟩
   have eok:e.Ok vs.length ck:=λi j hi hj C q=>by
    show wpAny (model prog w) A (keyLt' κ (Ie (Ng vs) i).1 (Ie (Ng vs) j).1) C _ _
    rw[Pj,Pj]
    exact hc _ keep i j hi hj C q
   have est:Ii κ (vs.toArray.zip vs.toArray) #[] 7 none=DR e (xS vs.length):=by
    have q:=kas_range (Ng vs)
    rw[pairsOf_size] at q
    show Ii κ (Ng vs) #[] 7 none=Ii κ ((List.toArray (Ar vs.length)).map (Ie (Ng vs))) #[] 7 none
    rw[q]
   rw[est]
   have ql:(e.of y.p).map (·.2)=((srt vs.length ck).map λi=>vs.getD i Value.none).toArray:=by
    apply Od.mp
    rw[o8,Array.map_map,Array.toList_map]
    exact Go λi _=>by show(Ie (Ng vs) i).2=_;rw[Pj]
   have run:=spec.2 e eok E (λ_ st' s'=>st'=DR e y/\s'=e.s) ⟨rfl,rfl⟩
   refine(Aa (Av run ?_ λ_ _ x=>x))
   rintro ⟨⟨⟩,st'⟩ s' ⟨rfl,rfl⟩
   show(wpAny (model prog w) A _ P E {s with heap:=(((s.heap.update a (El λ_=> #[])).push (Gu "tuple" vs.toArray 0)).push (Gu "list" #[] 0))})
   dsimp only
   rw[show(arrOf (DR e y))=e.of y.p from rfl,ql]
   refine(Aa (Ph ho6 rfl (Aa (Mt ho6 rfl ?_ (hsz2:=by rw[Aq];lia)))))
   rw[show failedOf (DR e y)=none from rfl]
   simp only[bne_self_eq_false,Fd,if_false]
   exact Ai h
end
section
variable{prog:Bn}{w:World}{A:Cy}{E:Value->Ag->Prop}{s:Ag}
theorem JP{l:Addr}{vs:List Value}{κ:Oh}{ck:Nat->Nat->Bool}{Q:Value->Ag->Prop}(hl:s.heap.IsList l vs.toArray)(hz:vs.length<=sizeLine)
  (hk:2<=vs.length-> ∀(A:Cy) (E:Value->Ag->Prop) (h':Heap),(∀b o,s.heap.get? b=some o->h'.get? b=some o)-> ∀Q':Oh->Ag->Prop,Q' κ {s with heap:=h'}->wpAny (model prog w) A (keyKind' vs.toArray) Q' E {s with heap:=h'})
  (hc: ∀(A:Cy) (h':Heap),(∀b o,s.heap.get? b=some o->h'.get? b=some o)-> ∀i j,i<vs.length->j<vs.length-> ∀C:Bool->Ag->Prop,C (ck i j) {s with heap:=h'}->wpAny (model prog w) A (keyLt' κ (vs.getD i Value.none) (vs.getD j Value.none)) C (λ_ _=>False) {s with heap:=h'})
  (h:Q (.ref (s.heap.objs.size+1)) {s with heap:=sortedAll s.heap vs ((srt vs.length ck).map λi=>vs.getD i Value.none).toArray}):
  wpAny (model prog w) A (call (.builtin "sorted") [.ref l]) Q E s:=by
 refine(Calls.call_function_entry kind_sorted plain_sorted entry_sorted (args_sorted1 _) ?_)
 unfold Mf.«sorted»
 refine(Aa (m:=checkCount "sorted" 1 1 _) (Ai (Aa (collect_list hl (Aa (wpAny_newList ?_ (by exact hz))) hz))))
 have hs1:((s.heap.push (Gu "list" #[] 0)).update s.heap.objs.size (El (· ++vs.toArray))).objs.size=s.heap.objs.size+1:=by rw[Heap.size_update,size_push']
 have hoL:(((s.heap.push (Gu "list" #[] 0)).update s.heap.objs.size (El (· ++vs.toArray))).push (Gu "list" vs.toArray 0)).get? (s.heap.objs.size+1)=some (Gu "list" vs.toArray 0):=by rw[<- hs1];exact Au _ rfl
 have keep: ∀b o,s.heap.get? b=some o->(((s.heap.push (Gu "list" #[] 0)).update s.heap.objs.size (El (· ++vs.toArray))).push (Gu "list" vs.toArray 0)).get? b=some o/\b≠s.heap.objs.size+1:=λb o q=>by
  have hlt:b<s.heap.objs.size:=Am q
  refine⟨?_,Bf (Nh hlt)⟩
  rw[Hq _ _ _ (by rw[hs1];exact(Bf (Nh hlt))),Mh _ _ _ _ (Bf hlt),Hq _ _ _ (Bf hlt)]
  exact q
 show(wpAny _ _ _ _ _ {s with heap:=((s.heap.push (Gu "list" #[] 0)).update s.heap.objs.size (El (· ++vs.toArray))).push (Gu "list" vs.toArray 0)})
 rw[hs1]
 refine(Aa (Ce (Ec slot_list_sort ⟨_,hoL,rfl⟩ entry_list_sort (DQ (κ:=κ) (ck:=ck) hoL hz (λn2 h' k'=>hk n2 _ _ h' λb o q=>k' b o (keep b o q).2 (keep b o q).1) (λh' k'=>hc _ h' λb o q=>k' b o (keep b o q).2 (keep b o q).1) ⟨_,rfl,?_⟩) (args_list_sort _))))
 exact(Ai ⟨_,rfl,h⟩)
def IH(p q:Int×Int):Bool:=if p.1=q.1 then decide (p.2<q.2) else decide (p.1<q.1)
theorem zB6{x y:Addr}{a b c d:Int}{t u t' u':Tok}{C:Bool->Ag->Prop}(hx:IsTup s.heap x #[.int a t,.int b u])(hy:IsTup s.heap y #[.int c t',.int d u'])(h:C (IH (a,b) (c,d)) s):wpAny (model prog w) A (keyLt' (tuples' true) (.ref x) (.ref y)) C E s:=by
 obtain⟨ox,hx,_,n,dx⟩:=hx
 obtain⟨oy,hy,_,m,dy⟩:=hy
 refine kat_lt hx dx hy dy ?_
 refine kat_cons (Km (kat_go (λe=>kat_yes ?_) λe=>kat_no ?_))
 ·have e : a = c := by simpa using e
  refine kat_cons (Km (kat_go (λe2=>kat_yes (kat_nil ?_)) λe2=>kat_no ?_))
  ·have e2 : b = d := by simpa using e2
   have:IH (a,b) (c,d)=false:=by simp[IH,e,e2]
   rw[this] at h
   exact h
  ·refine kat_one _ _ (lt_int ?_)
   have:IH (a,b) (c,d)=decide (b<d):=by simp[IH,e]
   rw[this] at h
   exact h
 ·have e : ¬ a = c := by simpa using e
  have:IH (a,b) (c,d)=decide (a<c):=by simp[IH,e]
  rw[this] at h
  exact oneLt_int h
def PrI(h:Heap):List Value->List (Int×Int)->Prop
 |[],[]=>True
 |v::vs,p::ps=>(∃a t u,v= .ref a/\IsTup h a #[.int p.1 t,.int p.2 u])/\PrI h vs ps
 |_,_=>False
theorem PrI.keep{h h':Heap}(k: ∀b o,h.get? b=some o->h'.get? b=some o): ∀{vs:List Value} {ps:List (Int×Int)},PrI h vs ps->PrI h' vs ps
 |[],[],_=>trivial
 |_::_,_::_,⟨⟨a,t,u,e,q⟩,r⟩=>⟨⟨a,t,u,e,q.keeps k⟩,PrI.keep k r⟩
 |[],_::_,r=>r.elim
 |_::_,[],r=>r.elim
theorem PrI.at{h:Heap}: ∀{vs:List Value} {ps:List (Int×Int)} {i:Nat},PrI h vs ps->i<vs.length-> ∃a t u,vs.getD i Value.none= .ref a/\IsTup h a #[.int (ps.getD i (0,0)).1 t,.int (ps.getD i (0,0)).2 u]
 |[],[],i,_,hi=>by simp at hi
 |_::_,_::_,0,r,_=>r.1
 |v::vs,p::ps,i+1,r,hi=>by
  have:=PrI.at (i:=i) r.2 (by simpa using hi)
  simpa using this
 |[],_::_,i,r,_=>r.elim
 |_::_,[],i,r,_=>r.elim
theorem PrI.tups{h:Heap}: ∀{vs:List Value} {ps:List (Int×Int)},PrI h vs ps-> ∃fs,KatTups h vs fs/\fs.length=vs.length/\ ∀v∈fs,∃i t,v= .int i t
 |[],[],_=>⟨[],trivial,rfl,λ_ h=>by cases h⟩
 |_::_,_::_,⟨⟨a,t,u,e,o,ho,hcl,n,hd⟩,r⟩=>by
  obtain⟨fs,h1,h2,h3⟩:=PrI.tups r
  subst e
  refine⟨.int _ t::fs,KatTups.cons ho hcl hd rfl h1,by simp[h2],λv hv=> ?_⟩
  rcases Aj.mp hv with rfl|hv
  ·exact⟨_,_,rfl⟩
  ·exact h3 v hv
 |[],_::_,r=>r.elim
 |_::_,[],r=>r.elim
def ckP(ps:List (Int×Int))(i j:Nat):Bool:=IH (ps.getD i (0,0)) (ps.getD j (0,0))
theorem LL{l:Addr}{vs:List Value}{ps:List (Int×Int)}{Q:Value->Ag->Prop}(hl:s.heap.IsList l vs.toArray)(hz:vs.length<=sizeLine)(hp:PrI s.heap vs ps)
  (h:Q (.ref (s.heap.objs.size+1)) {s with heap:=sortedAll s.heap vs ((srt vs.length (ckP ps)).map λi=>vs.getD i Value.none).toArray}):
  wpAny (model prog w) A (call (.builtin "sorted") [.ref l]) Q E s:=by
 refine JP (κ:=tuples' true) hl hz (λn2 A E h' k' Q' q=> ?_) (λA h' k' i j hi hj C q=> ?_) h
 ·obtain⟨fs,h1,h2,h3⟩:=(hp.keep k').tups
  refine kat_kind (s:={s with heap:=h'}) (T:= .type "int") h1 (by lia) (λv hv=> ?_) (by decide) q
  obtain⟨i,t,rfl⟩:=h3 v hv
  exact Looks.now
 ·obtain⟨a,t,u,e1,t1⟩:=(hp.keep k').at hi
  obtain⟨b,t',u',e2,t2⟩:=(hp.keep k').at hj
  rw[e1,e2]
  exact zB6 (s:={s with heap:=h'}) t1 t2 q
end
end TS
namespace L2
open PySem PySem.Spec PyProof.Rows
variable{X:Cx}{K:An}
noncomputable def prD:dE->Option (Int×Int)
 | .tup [.int a,.int b]=>some (a,b)
 |_=>none
noncomputable def OH:List dE->Option (List (Int×Int))
 |[]=>some []
 |d::ds=>(prD d).bind λp=>(OH ds).map λps=>p::ps
def PrV(K:An)(H:Hp):List V->List (Int×Int)->Prop
 |[],[]=>True
 |v::vs,p::ps=>(∃a,v= .ref a/\WC K H a [.int p.1,.int p.2])/\PrV K H vs ps
 |_,_=>False
theorem zFU{d:dE}{p:Int×Int}(h:prD d=some p):d= .tup [.int p.1,.int p.2]:=by
 unfold prD at h
 split at h
 ·cases h;rfl
 ·cases h
theorem E1{H:Hp}{N:Addr->Prop}: ∀{xs:List V} {ds:List dE} {ps:List (Int×Int)},cO K N H xs ds->OH ds=some ps->PrV K H xs ps
 | _,_,_,.nil,h => by cases h;trivial
 | _,_,ps,@cO.cons _ _ _ v vs d ds h t,e => by
  have e : (prD d).bind (λp => (OH ds).map λps => p :: ps) = some ps := e
  cases h1:prD d with
  | none => rw [h1] at e;cases e
  |some p=>
   rw[h1] at e
   have e:(OH ds).map (λps=>p::ps)=some ps:=e
   cases h2:OH ds with
   | none => rw [h2] at e;cases e
   |some qs=>
    rw[h2] at e
    cases e
    have:=zFU h1
    subst this
    refine⟨?_,E1 t h2⟩
    cases h with
    |tup sq r=>
     cases r with
     |cons r1 r=>
      cases r1
      cases r with
      |cons r2 r=>
       cases r2
       cases r
       exact⟨_,rfl,sq⟩
theorem PrV.prI{H:Hp}{aa:List (Addr×Obj)}{σ:St}{s:Ag}(I:cN X aa σ H s): ∀{xs:List V} {us:List Value} {ps:List (Int×Int)},PrV X.K H xs ps->bT xs us->TS.PrI s.heap us ps
 | [],_,[],_,.nil => trivial
 | _ :: _,_,_ :: _,⟨⟨a,e,q⟩,r⟩,.cons h t => by
  subst e
  cases h
  obtain⟨its,rv,ht,_⟩:=I.tuple q
  cases rv with
  |cons r1 rv=>
   obtain⟨t1,rfl⟩:=r1
   cases rv with
   |cons r2 rv=>
    obtain⟨t2,rfl⟩:=r2
    cases rv
    exact⟨⟨a,t1,t2,rfl,ht⟩,PrV.prI I r t⟩
 |[],_,_::_,h,_=>h.elim
 |_::_,_,[],h,_=>h.elim
theorem PrV.len{H:Hp}: ∀{xs:List V} {ps:List (Int×Int)},PrV K H xs ps->xs.length=ps.length
 |[],[],_=>rfl
 |_::_,_::_,r=>by simp[PrV.len r.2]
 |[],_::_,r=>r.elim
 |_::_,[],r=>r.elim
theorem M0{xs:List V}{us:List Value}(r:bT xs us): ∀l:List Nat,(∀i∈l,i<xs.length)->bT (l.map λi=>xs.getD i .non) (l.map λi=>us.getD i Value.none)
 |[],_=> .nil
 |i::l,h=>by
  have hi:=h i Ba
  obtain⟨u,h1,h2⟩:=bT.get (i:=i) (x:=xs[i]) r (by simp[hi])
  refine .cons ?_ (M0 r l λj hj=>h j (Ao _ hj))
  have e1:xs.getD i .non=xs[i]:=by simp[hi]
  have e2:us.getD i Value.none=u:=by simp[h1]
  show bZ (xs.getD i .non) (us.getD i Value.none)
  rw[e1,e2]
  exact h2
noncomputable def JQ(ps:List (Int×Int)):List Nat:=TS.srt ps.length (TS.ckP ps)
theorem UB(ps:List (Int×Int)):(JQ ps).Perm (Ar ps.length):=TS.JR _ _
def zA2(K:An):RC:=λxs H Q=> ∃(p:Addr) (ys:List V) (ps:List (Int×Int)),xs=[.ref p]/\W8 K H p ys/\PrV K H ys ps/\ ∀l:Addr,H l=none->Q (.ref l) (bA H l (.lst ((JQ ps).map λi=>ys.getD i .non)))
theorem zHW(h:X.K=K):Z4 X (.builtin "sorted") (zA2 K):=by
 subst h
 intro aa s σ H xs us Q I r h
 obtain⟨p,ys,ps,rfl,hq,hp,q⟩:=h
 obtain⟨u,rfl,rx⟩:=SX r
 cases rx
 obtain⟨its,rv,pl,hz⟩:=I.list hq
 have ai:=rv.length
 have hpl:=hp.len
 have hn:H (s.heap.objs.size+1)=none:=I.hok.fresh (Fm _)
 refine TS.LL pl.isList (by lia) (hp.prI I rv) ?_
 rw[show its.length=ps.length by lia]
 obtain⟨e,he⟩:=sortedAll_at s.heap its ((TS.srt ps.length (TS.ckP ps)).map λi=>its.getD i Value.none).toArray
 refine⟨.ref (s.heap.objs.size+1),_,I.laid (a:=s.heap.objs.size+1) (o:= .lst ((JQ ps).map λi=>ys.getD i .non)) (t':=s.toks) (λb o=>sortedAll_old) (Fm _) ?_,rfl,q _ hn⟩
 refine⟨by rw[Ck,(UB ps).length_eq,Ho];lia,(JQ ps).map λi=>its.getD i Value.none,e,M0 rv _ λi hi=> ?_,?_⟩
 ·have:=Bt.mp ((UB ps).mem_iff.mp hi)
  lia
 ·rw[he]
  rfl
noncomputable def GL:dE->Option dE
 | .lst ds=>(OH ds).bind λps=>some (.lst ((JQ ps).map λi=>ds.getD i .non))
 |_=>none
theorem MQ{H:Hp}{N:Addr->Prop}{xs:List V}{ds:List dE}(r:cO K N H xs ds): ∀l:List Nat,cO K N H (l.map λi=>xs.getD i .non) (l.map λi=>ds.getD i .non)
 | [] => .nil
 | i :: l => by
  have one: ∀{xs:List V} {ds:List dE} (i:Nat),cO K N H xs ds->bG K N H N (xs.getD i .non) (ds.getD i .non):=by
   intro xs ds i r
   induction r using cO.rec (motive_1:=λ_ _ _ _=>True) generalizing i with
   |nil=>simpa using bG.non
   |cons h t _ ih=>cases i with
    |zero=>simpa using h
    |succ i=>simpa using ih i
   |_=>trivial
  exact .cons (one i r) (MQ r l)
theorem zCZ:CalN K (zA2 K) GL:=by
 intro H N M x d c Q hx h k
 cases d with
 |lst ds=>
  have h:((OH ds).bind λps=>some (dE.lst ((JQ ps).map λi=>ds.getD i .non)))=some c:=h
  cases h1:OH ds with
  |none=>rw[h1] at h;cases h
  |some ps=>
   rw[h1] at h
   cases h
   obtain⟨a,xs,rfl,sq,r⟩:=hx.lstE
   exact⟨a,xs,ps,rfl,sq,E1 r h1,λl hl'=>k l _ _ hl' (MQ r _) rfl⟩
 |_=>cases h
theorem C8:typeLookup (.type "list") ("keys":Str)=pure none:=am_miss_of_fast (by decide+kernel)
section
variable{prog:Bn}{w:World}{A:Cy}{E:Value->Ag->Prop}{s:Ag}
theorem C4{a:Addr}{o:Obj}{xs:Array Value}{k:Nat}{Q:Option Value->Ag->Prop}(hx:s.heap.get? a=some o)(hc:o.cls= .type "list") (da:o.data= .seq xs k) (hd:o.dict=none) (hA:A.handled=none)
  (h: ∀h' tk,(∀b ob,s.heap.get? b=some ob->h'.get? b=some ob)->Q none {s with heap:=h',toks:=tk}):wpAny (model prog w) A (getAttr? (.ref a) "keys") Q E s:=by
 obtain⟨c,dct,dat,sl⟩:=o
 simp only at hc da hd
 subst hc da hd
 obtain⟨hp,g,d,tk,os⟩:=s
 have hT: ∀tk',(⟨hp,g,d,tk',os⟩:Ag).TypeIs (.ref a) "list":=λ_=>⟨_,hx,rfl⟩
 have f1:=sub_AttributeError
 have f3:=F.slot_list_getattribute.lookup
 have f4:=F.slot_list_getattribute.bind (.ref a)
 have f5:=am_list_getattr_none
 unfold getAttr? getAttrBy? getAttrBy
 (repeat (any_goals (first|assumption|exact hT _|((with_reducible show wpAny _ _ (call (Value.builtin "list.__getattribute__") _ _) _ _ _);refine Mz F.slot_list_getattribute (hT _) am_entry_list_getattribute (F.args_list_getattribute_2 _ _) (meets_getattribute_miss_list a xs k sl "keys" _ C8 (by decide) (by size_fits)) ⟨hx,hA,λh' tk' e hx'=> ?_⟩)|wp_step)))
 obtain⟨t1,u1,he⟩:=hx'.there
 show(wpAny _ _ (Mu _ _ _ _ _ _ _) _ _ _)
 unfold Mu
 (repeat (any_goals (first|assumption|wp_step)))
 exact h _ _ hx'.keeps
end
theorem L7:entryFor table "dict.update.loop"=some Mf.«dict.update.loop» :=entryFor_of_tree (by kernel_rfl)
theorem T9:plainId "dict.update.loop"=true:=by decide+kernel
def PrK(prog:Bn)(w:World)(h:Heap):List Value->List (aR×Value)->Prop
 |[],[]=>True
 |v::vs,p::ps=>(∃a key,v= .ref a/\IsTup h a #[key,p.2]/\(a7 prog w).is p.1 key=true)/\PrK prog w h vs ps
 |_,_=>False
section
variable{prog:Bn}{w:World}{A:Cy}{E:Value->Ag->Prop}{s:Ag}
theorem PrK.keep{h h':Heap}{C:Addr->Prop}(k: ∀b o,C b->h.get? b=some o->h'.get? b=some o): ∀{vs:List Value} {ps:List (aR×Value)},(∀a,Bq a∈vs->C a)->PrK prog w h vs ps->PrK prog w h' vs ps
 |[],[],_,_=>trivial
 |_::_,_::_,hC,⟨⟨a,key,e,⟨o,ho,r⟩,q⟩,r2⟩=>⟨⟨a,key,e,⟨o,k a o (hC a (by rw[e];exact Ba)) ho,r⟩,q⟩,PrK.keep k (λa ha=>hC a (Ao _ ha)) r2⟩
 |[],_::_,_,r=>r.elim
 |_::_,[],_,r=>r.elim
theorem GR{a:Addr}{k v:Value}{Q:List Value->Ag->Prop}(h:IsTup s.heap a #[k,v])(q:Q [k,v] s):wpAny (model prog w) A (Ku (.ref a)) Q E s:=by
 obtain⟨o,ho,hc,n,hd⟩:=h
 unfold Ku
 refine(Aa (Jl (T:= "tuple") ⟨o,ho,hc⟩ ?_))
 rw[if_pos (by decide)]
 exact(Aa (Ep ho hd (Ai q)))
theorem zEA{R:Ot->Ag->Prop}{I D:Addr}{fp wr:List Addr}{items:Array Value}{St:Nat->Heap->Prop}(W:Walks prog w A.in1 I fp wr items.size (λi v=>items[i]? =some v) St)(hDf:D∉fp): ∀(vs:List Value) (ps:List (aR×Value)) (j:Nat) (i:Int) (s:Ag) (kvs:List (aR×Value)),items.toList.drop j=vs->j+vs.length=items.size->St j s.heap->s.heap.DictOf (a7 prog w) D kvs->kvs.length+vs.length<=sizeLine->PrK prog w s.heap vs ps->(∀a,Bq a∈vs->a∉wr/\a≠D)→
  (∀ g tk,g.DictOf (a7 prog w) D (ps.foldl (λl p => Qs l p.1 p.2) kvs) -> (∀ b o,b ∉ wr -> b ≠ D -> s.heap.get? b = some o -> g.get? b = some o) -> R (.ok (.ret .none)) { s with heap := g,toks := tk }) →
  Fw (model prog w) A (.builtin "dict.update.loop" ⟨[.ref D,.ref I,rawInt i,.none],[]⟩) R s
 | [],ps,j,i,s,kvs,e,hj,hst,hd,hz,hp,ha,hR => by
  have nDw:D∉wr:=λz=>hDf (W.sub _ z)
  cases ps with
  | cons p ps => exact hp.elim
  |nil=>
   refine codeAny_builtin L7 (by
    rw[Ls T9 _]
    show(wpAny _ A.in1 (pyNext (.ref I)>>=_) _ _ s)
    refine(Aa (W.done s _ _ (by rw[show items.size=j by simpa using hj.symm];exact hst) λg tk kept=> ?_))
    show(wpAny _ A.in1 (Builtin.Dict.addKeywords D []>>=_) _ _ _)
    refine(Aa (Ai (Ai ?_)))
    obtain⟨o,es,ep,ho,r⟩:=hd
    exact hR g tk ⟨o,es,ep,kept _ _ nDw ho,r⟩ λb o z1 _ e=>kept b o z1 e)
 | v :: vs,ps,j,i,s,kvs,e,hj,hst,hd,hz,hp,ha,hR => by
  have nDw:D∉wr:=λz=>hDf (W.sub _ z)
  cases ps with
  | nil => exact hp.elim
  |cons p ps=>
   obtain⟨⟨a,key,rfl,ht,hk⟩,hp⟩:=hp
   obtain⟨na,nD⟩:=ha a Ba
   simp only[Bo] at hj hz
   have ei:items[j]? =some (.ref a):=by
    have:=congrArg (λl=>l[0]?) e
    simpa using this
   have ed:items.toList.drop (j+1)=vs:=by
    have:=congrArg List.tail e
    simpa using this
   refine codeAny_builtin L7 (by
    rw[Ls T9 _]
    show(wpAny _ A.in1 (pyNext (.ref I)>>=_) _ _ s)
    refine(Aa (W.item j s _ _ (by lia) hst λv g tk pv qj kept=> ?_))
    obtain rfl:v= .ref a:=by rw[ei] at pv;cases pv;rfl
    obtain⟨o,ho,r⟩:=ht
    obtain⟨o2,es,ep,ho2,r2⟩:=hd
    refine(Aa (Ce (Aa (wpAny_tryCatch (GR (s:={s with heap:=g,toks:=tk}) ⟨o,kept _ _ na ho,r⟩ ?_)))))
    refine(Ce (wpAny_dictSet_pairs (s:={s with heap:=g,toks:=tk}) (kvs:=kvs) hk ⟨o2,es,ep,kept _ _ nDw ho2,r2⟩ (λg2 hd2 hs2=> ?_) (by lia)))
    have j8: ∀b o,b∉wr->b≠D->s.heap.get? b=some o->g2.get? b=some o:=λb o z1 z2 e=>(hs2.2 b z2).trans (kept b o z1 e)
    refine(Ai ⟨plainId_quiet T9 _,zEA W hDf vs ps (j+1) (i+1) _ (Qs kvs p.1 p.2) ed (by lia) (W.frame _ _ _ qj λb hb o e=>(hs2.2 b (λz=>hDf (by rw[<- z];exact hb))).trans e) hd2 ?_ (PrK.keep (C:=λb=>b∉wr/\b≠D) (λb o hb e=>j8 b o hb.1 hb.2 e) (λa h=>ha a (Ao _ h)) hp) (λa h=>ha a (Ao _ h)) ?_⟩)
    ·have:=stored_length_le kvs p.1 p.2
     lia
    ·exact λg3 tk3 hd3 o0=>hR g3 tk3 hd3 λb o z1 z2 e=>o0 b o z1 z2 (j8 b o z1 z2 e))
end
section
variable{prog:Bn}{w:World}{A:Cy}{E:Value->Ag->Prop}{s:Ag}
theorem F7{l:Addr}{vs:List Value}{ps:List (aR×Value)}{Q:Value->Ag->Prop}(hh:A.handled=none)(pl:PlainL s.heap l vs.toArray)(hz:vs.length<=sizeLine)(hp:PrK prog w s.heap vs ps)
  (h : ∀ g tk,g.DictOf (a7 prog w) s.heap.objs.size (ps.foldl (λl p => Qs l p.1 p.2) []) -> (∀ b o,s.heap.get? b = some o -> g.get? b = some o) -> Q (.ref s.heap.objs.size) { s with heap := g,toks := tk }) :
  wpAny (model prog w) A (call (.type "dict") [.ref l]) Q E s:=by
 refine(callType_codes (Q₁:=λobj s₁=>obj= .ref s.heap.objs.size/\s₁={s with heap:=s.heap.push {cls:= .type "dict",data:= .dict #[]}}) F.kt_called_dict (F.kt_typeCall_dict_1 _) F.entry_dict_init (kt_code_dict_new _ ⟨rfl,rfl⟩) ?_)
 rintro obj s₁ ⟨rfl,rfl⟩
 have dz:(s.heap.push {cls:= .type "dict",data:= .dict #[]}).DictOf (a7 prog w) s.heap.objs.size []:=Ox s.heap
 obtain⟨o,n,ho,hc,hd,da⟩:=pl
 have ho':(s.heap.push {cls:= .type "dict",data:= .dict #[]}).get? l=some o:=Ac _ ho
 refine⟨dz.typeIs,F.args_dict_init_2 _ _,?_⟩
 unfold Mf.«dict.__init__»
 refine(Aa ?_)
 unfold Builtin.Dict.selfAndRest
 refine(Aa (wpAny_notOrdered_dict dz.typeIs ?_))
 show(wpAny _ _ (pure (s.heap.objs.size,[Bq l])) _ _ _)
 refine(Ai ?_)
 show(wpAny _ _ (Kl "dict.__init__" s.heap.objs.size (.ref l) [] .none) _ _ _)
 unfold Kl
 refine(Aa (Jl (T:= "list") ⟨o,ho',hc⟩ ?_))
 rw [if_pos (by decide)]
 refine(Aa (C4 ho' hc da hd (by simp[hh]) λg1 tk1 k1=> ?_))
 simp only[Option.isNone_none,if_true]
 refine(Aa (Gc ?_))
 have o1:g1.get? l=some o:=k1 _ _ ho'
 have od:g1.get? s.heap.objs.size=some {cls:= .type "dict",data:= .dict #[]}:=k1 _ _ (Au _ rfl)
 have lts:s.heap.objs.size<g1.objs.size:=Am od
 have ltl:l<s.heap.objs.size:=Am ho
 have hl1:g1.IsList l vs.toArray:=⟨o,o1,hc,n,da⟩
 have mm: ∀b ob,s.heap.get? b=some ob->g1.get? b=some ob:=λb ob q=>k1 b ob (Ac _ q)
 have ne1: ∀b ob,s.heap.get? b=some ob->b∉[g1.objs.size]/\b≠s.heap.objs.size:=λb ob q=>by
  have:=Am q
  exact⟨λz=>by rw[As.mp z] at this;exact absurd (No this lts) (Ca _),λz=>by rw[z] at this;exact Ca _ this⟩
 have hin: ∀{vs:List Value} {ps:List (aR×Value)},PrK prog w s.heap vs ps-> ∀a,Bq a∈vs-> ∃ob,s.heap.get? a=some ob:=by
  intro vs
  induction vs with
  | nil => intro ps _ a ha;cases ha
  |cons v vs ih=>
   intro ps hp a ha
   cases ps with
   | nil => exact hp.elim
   |cons p ps=>
    rcases Aj.mp ha with e|ha
    ·obtain⟨⟨b,key,e2,⟨ob,hob,_⟩,_⟩,_⟩:=hp
     rw[e2] at e
     cases e
     exact⟨ob,hob⟩
    ·exact ih hp.2 a ha
 refine(Aa (Gd (s:={s with heap:=g1,toks:=tk1}) hl1 ?_))
 have W:=Walks.list (prog:=prog) (w:=w) (A:=A.in1.in1) (by simp[hh]) g1.objs.size l (Bf (No ltl lts)) vs.toArray
 refine(Ai ⟨plainId_quiet T9 _,zEA (A:=A.in1) W (λz=> ?_) vs ps 0 0 _ [] (by simp) (by simp) ⟨⟨_,Au _ rfl,rfl,rfl⟩,hl1.push _⟩ ?_ (by simpa using hz) (PrK.keep (C:=λ_=>True) (λb ob _ q=>Ac _ (mm b ob q)) (λ_ _=>trivial) hp) (λa ha=> ?_) λg tk hdd kept=>⟨rfl,h g tk hdd λb ob q=> ?_⟩⟩)
 ·rcases Aj.mp z with z|z
  ·exact absurd lts (by rw [<- z];exact Ca _)
  ·rw[<- As.mp z] at ltl
   exact Ca _ ltl
 ·obtain⟨o2,es,ep,ho2,r2⟩:=dz
  exact⟨o2,es,ep,Ac _ (k1 _ _ ho2),r2⟩
 ·obtain⟨ob,hob⟩:=hin hp a ha
  exact ne1 a ob hob
 ·exact kept b ob (ne1 b ob q).1 (ne1 b ob q).2 (Ac _ (mm b ob q))
end
variable{X:Cx}{K:An}{H:Hp}{σ:St}{s:Ag}{aa:List (Addr×Obj)}{ml:List Nat}{pa ta ia:Bool}{fa:VF}{a:Expr}{p' pos:Pos}
noncomputable def C5:dE->Option (aR×dE)
 | .tup [k,v]=>(WJ k).map λkk=>(kk,v)
 |_=>none
noncomputable def UR:List dE->Option (List (aR×dE))
 |[]=>some []
 |d::ds=>(C5 d).bind λp=>(UR ds).map λps=>p::ps
def J8(K:An)(H:Hp):List V->List (aR×V)->Prop
 |[],[]=>True
 |v::vs,p::ps=>(∃a,v= .ref a/\WC K H a [kV p.1,p.2])/\J8 K H vs ps
 |_,_=>False
theorem zD4{d:dE}{p:aR×dE}(h:C5 d=some p): ∃k,d= .tup [k,p.2]/\WJ k=some p.1:=by
 unfold C5 at h
 split at h
 ·rename_i k v
  cases e:WJ k with
  |none=>rw[e] at h;cases h
  |some kk=>rw[e] at h;cases h;exact⟨k,rfl,e⟩
 ·cases h
theorem IF{N:Addr->Prop}: ∀{xs:List V} {ds:List dE} {kds:List (aR×dE)},cO K N H xs ds->UR ds=some kds-> ∃kvs:List (aR×V),J8 K H xs kvs/\kvs.map Dj=kds.map Dj/\cO K N H (kvs.map Eg) (kds.map Eg)
 | _,_,_,.nil,h => by cases h;exact ⟨[],trivial,rfl,.nil⟩
 | _,_,kds,@cO.cons _ _ _ v vs d ds h t,e => by
  have e : (C5 d).bind (λp => (UR ds).map λps => p :: ps) = some kds := e
  cases h1:C5 d with
  | none => rw [h1] at e;cases e
  |some p=>
   rw[h1] at e
   have e:(UR ds).map (λps=>p::ps)=some kds:=e
   cases h2:UR ds with
   | none => rw [h2] at e;cases e
   |some qs=>
    rw[h2] at e
    cases e
    obtain⟨kvs,r1,r2,r3⟩:=IF t h2
    obtain⟨k,rfl,hk⟩:=zD4 h1
    cases h with
    |tup sq r=>
     cases r with
     |cons w1 r=>
      cases r with
      |cons w2 r=>
       cases r
       have ek:=w1.key hk
       subst ek
       exact⟨(p.1,_)::kvs,⟨⟨_,rfl,sq⟩,r1⟩,by simp[r2],.cons w2 r3⟩
theorem J8.prK(I:cN X aa σ H s): ∀{xs:List V} {us:List Value} {kvs:List (aR×V)},J8 X.K H xs kvs->bT xs us-> ∃ps:List (aR×Value),KV kvs ps/\PrK X.prog X.w s.heap us ps
 | [],_,[],_,.nil => ⟨[],.nil,trivial⟩
 | _ :: _,_,p :: _,⟨⟨b,e,q⟩,r⟩,.cons h t => by
  subst e
  cases h
  obtain⟨ps,r1,r2⟩:=J8.prK I r t
  obtain⟨its,rv,ht,_⟩:=I.tuple q
  cases rv with
  |cons w1 rv=>
   cases rv with
   |cons w2 rv=>
    cases rv
    exact⟨(p.1,_)::ps,.cons ⟨rfl,w2⟩ r1,⟨b,_,rfl,ht,MF w1⟩,r2⟩
 |[],_,_::_,h,_=>h.elim
 |_::_,_,[],h,_=>h.elim
theorem J8.len: ∀{xs:List V} {ps:List (aR×V)},J8 K H xs ps->xs.length=ps.length
 |[],[],_=>rfl
 |_::_,_::_,r=>by simp[J8.len r.2]
 |[],_::_,r=>r.elim
 |_::_,[],r=>r.elim
def zA4(K:An):RC:=λxs H Q=> ∃(p:Addr) (ys:List V) (kvs:List (aR×V)),xs=[.ref p]/\W8 K H p ys/\J8 K H ys kvs/\(kvs.map Dj).Nodup/\ ∀l:Addr,H l=none->Q (.ref l) (bA H l (.dK kvs))
theorem zHY(h:X.K=K)(hc:X.calm=true):Z4 X (.type "dict") (zA4 K):=by
 subst h
 intro aa s σ H xs us Q I r h
 obtain⟨p,ys,kvs,rfl,hq,hp,nd,q⟩:=h
 obtain⟨u,rfl,rx⟩:=SX r
 cases rx
 obtain⟨its,rv,pl,hz⟩:=I.list hq
 have ai:=rv.length
 have hpl:=hp.len
 obtain⟨ps,r1,r2⟩:=hp.prK I rv
 refine F7 (I.ok.hd hc) pl (by lia) r2 λg tk hd kept=> ?_
 have hm:N9 [] kvs=kvs:=MH (acc:=[]) (by simpa using nd)
 have rel:=KV.merge r1 (kvs:=[]) (vs:=[]) .nil
 rw[hm] at rel
 exact⟨.ref s.heap.objs.size,_,I.laid (a:=s.heap.objs.size) (o:= .dK kvs) (t':=tk) kept (Ap _) (zBJ (by lia) (beq_eq_false_iff_ne.mpr (Dk (Bf I.big))) rel hd),rfl,q _ (I.hok.fresh (Ap _))⟩
noncomputable def ES:dE->Option dE
 | .lst ds=>(UR ds).bind λkds=>if(kds.map Dj).Nodup then some (.dct (kds.map Dj) (kds.map Eg)) else none
 |_=>none
def CalD(K:An)(r:RC)(o:dE->Option dE):Prop:= ∀(H:Hp) (N M:Addr->Prop) (x:V) (d c:dE) (Q:VK),bG K N H M x d->o d=some c→
 (∀p (kvs:List (aR×V)) ds,H p=none->cO K N H (kvs.map Eg) ds->c= .dct (kvs.map Dj) ds->Q (.ref p) (bA H p (.dK kvs)))->r [x] H Q
theorem zD0:CalD K (zA4 K) ES:=by
 intro H N M x d c Q hx h k
 cases d with
 |lst ds=>
  have h:((UR ds).bind λkds=>if(kds.map Dj).Nodup then some (dE.dct (kds.map Dj) (kds.map Eg)) else none)=some c:=h
  cases h1:UR ds with
  | none => rw [h1] at h;cases h
  |some kds=>
   rw[h1] at h
   have h:(if(kds.map Dj).Nodup then some (dE.dct (kds.map Dj) (kds.map Eg)) else none)=some c:=h
   split at h
   ·rename_i nd
    cases h
    obtain⟨a,xs,rfl,sq,r⟩:=hx.lstE
    obtain⟨kvs,r1,r2,r3⟩:=IF r h1
    exact⟨a,xs,kvs,rfl,sq,r1,by rw[r2];exact nd,λl hl'=>k l kvs _ hl' r3 (by rw[r2])⟩
   ·cases h
 |_=>cases h
theorem mkDK{B:Bs}{O:Nat->Option Addr}{H1:Hp}{δ':Ev}{p:Addr}{pu:Bool}{kvs:List (aR×V)}{ds:List dE}(S:aS K ml B O H1 σ δ')(f:Fr (OA O) H H1)(s:pu=true->a8 H H1)(hp:H1 p=none)(r:cO K (Nn B O) H1 (kvs.map Eg) ds):ResN K ml B O H σ pu (bA H1 p (.dK kvs)) δ' p (.dct (kvs.map Dj) ds):=
 ⟨S.laid hp,f.trans (cZ hp).fr,λz=>(s z).trans (cZ hp),.dct cH ((r.away hp _ _ WP).same (cZ hp)),S.new hp,S.fresh hp⟩
theorem D1(hK:X.K=K)(hc:X.calm=true)(hg:Gl X "dict") (hm:X.mg "dict"=none) (hv:Bg "dict"=some (.type "dict")) (ha:PE X a (TV K ml pa ta true fa)) (hn:("dict":Str)≠ "__name__":=by decide) (hdb:(("dict":Str)==("__debug__":Str))=false:=by decide)
  (he:Ah (a::[]) X.env=(false,eval a X.env)::Ah [] X.env:=by rfl):PE X (.Call (.Name "dict" p') [a] [] pos) (TN K ml pa (f1 ES fa)):=
 (W7 (zHY hK hc) hg hm hv (bW ha ZR he) hn hdb he).imp λσ H Q h => by
  obtain⟨B,O,δ,d,δ',S,q,k⟩:=h
  obtain⟨x,h1,h2⟩:=NS q
  refine⟨B,O,δ,x,δ',S,h1,λv1 H1 R1=>zD0 H1 _ _ v1 x d Q R1.rep h2 λp kvs ds hp hr he=> ?_⟩
  subst he
  exact k p _ (mkDK R1.sta R1.frm R1.pur hp hr)
section
variable{X:Cx}{K:An}{ml:List Nat}{e a b c:Expr}{es:List Expr}{pa ta ia pb tb ib pc tc ic pu bt bi ps bs:Bool}{fa fb fc f:VF}{B B':Bs}{O:Nat->Option Addr}{H H1 H':Hp}{σ:St}{δ δ':Ev}{v:V}{d:dE}{p:Addr}{pos:Pos}
noncomputable def C7(i:Nat)(F:b9):b9:=λds=>(ds[i]?).bind λx=>(YV x).bind λes=>(F (ds.take i++[.lst es])).map λq=>(q.1,q.2.dropLast)
theorem zC5{mF:List Nat}{i:Nat}{F:b9}{vs1:List V}{Q:VK}{E:XK}(hm: ∀j∈mF,j<i)(h:spV K mF (i+1) (C7 i F) (vs1++[v]) H Q E):LD K [v] H (λu H2=>spV K (mF++[i]) (i+1) F (vs1++[u]) H2 Q E):=by
 obtain⟨Z,ds,r,os,hl,A,hF,k⟩:=h
 obtain⟨ds1,d,rfl⟩: ∃ds1 d,ds=ds1++[d]:=⟨ds.dropLast,ds.getLast (λz=>by rw[z] at hl;cases hl),(Ig _).symm⟩
 have hd1:ds1.length=i:=by simpa using hl
 have hv1:vs1.length=i:=by have:=A.len;simp at this;lia
 have at3:(vs1++[v])[i]? =some v:=by rw[Bb (by lia),hv1,Jn];rfl
 have dt3:(ds1++[d])[i]? =some d:=by rw[Bb (by lia),hd1,Jn];rfl
 unfold C7 at hF
 rw[dt3,Ak,List.take_left' hd1] at hF
 cases hs:YV d with
 | none => rw [hs] at hF;cases hF
 |some es=>
 rw[hs,Ak] at hF
 cases h0:F (ds1++[.lst es]) with
 | none => rw [h0] at hF;cases hF
 |some z=>
  obtain⟨r',os0⟩:=z
  rw[h0] at hF
  cases hF
  obtain⟨u0,e0,p9⟩:=A.va i d (λz=>absurd (hm i z) (Ca _)) dt3
  rw[at3] at e0
  cases e0
  obtain⟨a0,xs,rfl,sq,rA⟩:=p9.seq hs
  refine⟨a0,xs,rfl,sq,λp hp=> ?_⟩
  have lo: ∀(j:Nat),j<i->(vs1++[.ref p])[j]? =(vs1++[V.ref a0])[j]? :=λj hj=>by rw[Ae (by lia),Ae (by lia)]
  have at1:(vs1++[.ref p])[i]? =some (.ref p):=by rw[Bb (by lia),hv1,Jn];rfl
  have dlo: ∀(j:Nat),j<i->(ds1++[.lst es])[j]? =(ds1++[d])[j]? :=λj hj=>by rw[Ae (by lia),Ae (by lia)]
  have dt1:(ds1++[.lst es])[i]? =some (.lst es):=by rw[Bb (by lia),hd1,Jn];rfl
  have hP: ∀a,U6 (mF++[i]) (vs1++[.ref p]) a->U6 mF (vs1++[.ref a0]) a∨a=p:=λa q0=>by
   obtain⟨j,hj,e⟩:=q0
   rcases Bi.mp hj with hj|hj
   ·exact .inl ⟨j,hj,by rw [<- lo j (hm j hj)];exact e⟩
   ·rw[As.mp hj,at1] at e
    cases e
    exact .inr rfl
  have hP': ∀a,U6 mF (vs1++[.ref a0]) a->U6 (mF++[i]) (vs1++[.ref p]) a:=λa ⟨j,hj,e⟩=>⟨j,Bp _ hj,by rw[lo j (hm j hj)];exact e⟩
  have hZ: ∀a,Zp Z (mF++[i]) (vs1++[.ref p]) a->Zp Z mF (vs1++[.ref a0]) a∨a=p:=λa h=>by
   rcases h with h|h
   ·exact .inl (.inl h)
   ·exact(hP a h).imp .inr id
  have hZ': ∀a,Zp Z mF (vs1++[.ref a0]) a->Zp Z (mF++[i]) (vs1++[.ref p]) a:=λa h=>h.imp id (hP' a)
  have up: ∀{u:V} {x:dE},bG K (Zp Z mF (vs1++[.ref a0])) H (Zp Z mF (vs1++[.ref a0])) u x->bG K (Zp Z (mF++[i]) (vs1++[.ref p])) (bA H p (.lst xs)) (Zp Z (mF++[i]) (vs1++[.ref p])) u x:=λr=>(r.away hp _ _ hZ hZ).same (cZ hp)
  have nop: ∀{j:Nat},j∈mF->(vs1++[V.ref a0])[j]? ≠some (.ref p):=λ{j} hj e=>by
   have hj':=A.mem j hj
   obtain⟨a,e1,w,_⟩:=A.ow j ((ds1++[d])[j]'hj') hj (by simp)
   rw[e] at e1
   cases e1
   obtain⟨o,q,_⟩:=w.soft
   rw[hp] at q
   cases q
  refine⟨Z,ds1++[.lst es],_,os0,by simp[hd1],⟨by simp;lia,λj hj=> ?_,λj x hj e=> ?_,λj x hj e=> ?_,λj1 j2 a h1 h2 e1 e2=> ?_,λa h=>let ⟨o,q⟩:=A.zin a h;⟨o,cZ hp _ _ q⟩⟩,h0,λu H' f w rr=>k u H' (λb o hb hc=>f b o (cZ hp _ _ hb) λz=> ?_) (λkk j a o e1 e2 e3=> ?_) (rr.mono hZ' hZ')⟩
  ·rcases Bi.mp hj with hj|hj
   ·have:=hm j hj
    simp
    lia
   ·rw[As.mp hj]
    simp
    lia
  ·have hjm : j ∉ mF := λz => hj (Bp _ z)
   have hji:j≠i:=λz=>hj (At _ (As.mpr z))
   have h1:j<i:=by
    have:=(Ad.mp e).1
    simp at this
    lia
   rw[dlo j h1] at e
   obtain⟨u,e1,r1⟩:=A.va j x hjm e
   exact⟨u,by rw[lo j h1];exact e1,up r1⟩
  ·rcases Bi.mp hj with hj|hj
   ·rw[dlo j (hm j hj)] at e
    obtain⟨u,e1,w1,z1⟩:=A.ow j x hj e
    exact⟨u,by rw[lo j (hm j hj)];exact e1,w1.away hp hZ,z1⟩
   ·have:=As.mp hj
    subst this
    rw[dt1] at e
    cases e
    exact⟨p,at1,.lst cH ((rA.away hp _ _ hZ).same (cZ hp)),λz=>by
     obtain⟨o,q⟩:=A.zin p z
     rw[hp] at q
     cases q⟩
  ·rcases Bi.mp h1 with h1|h1
   ·rw[lo j1 (hm j1 h1)] at e1
    rcases Bi.mp h2 with h2|h2
    ·rw[lo j2 (hm j2 h2)] at e2
     exact A.inj j1 j2 a h1 h2 e1 e2
    ·rw[As.mp h2,at1] at e2
     cases e2
     exact absurd e1 (nop h1)
   ·rcases Bi.mp h2 with h2|h2
    ·rw[lo j2 (hm j2 h2)] at e2
     rw[As.mp h1,at1] at e1
     cases e1
     exact absurd e2 (nop h2)
    ·rw[As.mp h1,As.mp h2]
  ·rcases hP b z with z|z
   ·exact hc z
   ·rw[z,hp] at hb
    cases hb
  ·refine(w kk j a o ?_ ?_ ?_).mono hZ'
   ·rw[Ae (Ad.mp e1).1]
    exact e1
   ·rw[lo j (hm j (Eb e1))]
    exact e2
   ·rw[List.getElem?_dropLast] at e3
    split at e3
    ·exact e3
    ·cases e3
def TAGL(K:An)(ml:List Nat)(pu:Bool)(f:NH):TA:=λσ H Q=> ∃B O δ as δ',aS K ml B O H σ δ/\f δ=some (as,δ')/\ ∀vs H',ResG K ml B O H σ pu H' δ' vs as-> ∀vs1 v,vs=vs1++[v]->LD K [v] H' λu H2=>Q (vs1++[u]) H2
theorem zC0{lp:Pos}{af:Pos}(hK:X.K=K)(hg:Gl X "list") (hm:X.mg "list"=none) (hv:Bg "list"=some (.type "list")) (ha:PE X a (TV K ml pa true true fa)) (he:Ah (a::[]) X.env=(false,eval a X.env)::Ah [] X.env:=by rfl)
  (hs:Ah (.Call (.Name "list" lp) [a] [] af::[]) X.env=(false,eval (.Call (.Name "list" lp) [a] [] af) X.env)::Ah [] X.env:=by rfl):
  PA X [.Call (.Name "list" lp) [a] [] af] (TAGL K ml pa (aE fa cG)):=(bW (W7 (K5 hK) hg hm hv (bW ha ZR he) (by decide) (by decide) he) ZR hs).imp λσ H Q ⟨B,O,δ,as,δ2,S,q,k⟩=>by
 unfold aE at q
 cases h1:fa δ with
 |none=>rw[h1] at q;cases q
 |some z=>
  obtain⟨x,δ1⟩:=z
  rw[h1] at q
  cases q
  exact⟨B,O,δ,x,δ1,S,h1,λv1 H1 R1=>k [v1] H1 ⟨R1.sta,R1.frm,R1.pur,.d R1.rep .nil⟩ [] v1 rfl⟩
theorem zIL{fs:NH}(ha:PE X a (TV K ml pa true true fa))(hr:PA X es (TAGL K ml ps fs))(hs:Ah (a::es) X.env=(false,eval a X.env)::Ah es X.env:=by rfl):PA X (a::es) (TAGL K ml (pa && ps) (aE fa fs)):=(bW ha hr hs).imp λσ H Q q0=>by
 obtain⟨B,O,δ,as,δ2,S,q,k⟩:=q0
 unfold aE at q
 cases h1:fa δ with
 | none => rw [h1] at q;cases q
 |some p=>
  obtain⟨x,δ1⟩:=p
  rw[h1] at q
  have q:((fs δ1).map λq=>(AV.d x::q.1,q.2))=some (as,δ2):=q
  cases h2:fs δ1 with
  |none=>rw[h2] at q;cases q
  |some p2=>
   rw[h2] at q
   cases q
   refine⟨B,O,δ,x,δ1,S,h1,λv1 H1 R1=>⟨B,O,δ1,_,_,R1.sta,h2,λvs H2 R2 vs1 v hv=>k (v1::vs) H2 ⟨R2.sta,R1.frm.trans R2.frm,λz=> ?_,.d (R1.rep.fr R2.frm (λa z=> .inr z) λa z=> .inr z) R2.rep⟩ (v1::vs1) v (by rw[hv];rfl)⟩⟩
   obtain⟨z1,z2⟩:=(Af _ _).mp z
   exact(R1.pur z1).trans (R2.pur z2)
theorem BD{x:Str}{kk j i:Nat}{qs:List Str}{mF:List Nat}{F:b9}{ff:Addr}{p':Pos}{fs:NH}(hK:X.K=K)(D:Def X.prog X.w K X.mg X.base x kk qs (spV K (mF++[i]) (i+1) F) ff)(hm: ∀j∈mF,j<i)(hr:YJ j X.A)(hk:kk<=j)(hg:Gl X x)(ha:PA X (e::es) (TAGL K ml ps fs))(hdb:(x==("__debug__":Str))=false:=by decide)
  (he:Ah (e::es) X.env=(false,eval e X.env)::Ah es X.env:=by rfl) (hpl:(Ez pos (Ah es X.env)).any (·.1)=false:=by rfl):
  PE X (.Call (.Name x p') (e::es) [] pos) (TV K ml (ps && mF.isEmpty) true true (cV (i+1) mF (C7 i F) fs)):=by
 subst hK
 refine(IZ D hr hk hg ha hdb he hpl).imp λσ H Q h=> ?_
 obtain⟨B,O,δ,as,δ',S,q,k⟩:=PB h
 refine⟨B,O,δ,as,δ',S,q,λvs H' R vs1 v hv=> ?_⟩
 subst hv
 have z:spV X.K mF (i+1) (C7 i F) ((vs1++[v])++[]) H' Q E0:=k _ H' R
 rw[Dn] at z
 have y:=zC5 hm z
 simpa only[Dn] using y
end
end L2
namespace L2
open PySem
section
variable{α β:Type}{d x y z c:dE}{δ δ1 δ':Ev}{fa fb fc:VF}{o o':dE->dE->Option dE}{i j k n:Nat}{s:Sl}{b:Bool}{ds:List dE}
def q0(r:Option α)(δ:Ev):Option (α×Ev):=r.map λc=>(c,δ)
@[simp] theorem q0_s{a:α}:q0 (some a) δ=some (a,δ):=rfl
@[simp] theorem fC_e:fC d δ=some (d,δ):=rfl
noncomputable def qV:Option Sl->Ev->Option (dE×Ev)
 |some (.va d),δ=>some (d,δ)
 |_,_=>none
noncomputable def qO:Option Sl->Ev->Option (dE×Ev)
 |some (.va d),δ=>some (d,δ)
 |some (.ow d),δ=>some (d,δ)
 |_,_=>none
@[simp] theorem fV_e:fV i δ=qV δ[i]? δ:=by unfold fV qV;split<;>simp_all
@[simp] theorem fO_e:fO i δ=qO δ[i]? δ:=by unfold fO qO;split<;>simp_all
@[simp] theorem qV_s:qV (some (.va d)) δ=some (d,δ):=rfl
@[simp] theorem qO_v:qO (some (.va d)) δ=some (d,δ):=rfl
@[simp] theorem qO_o:qO (some (.ow d)) δ=some (d,δ):=rfl
def q1(o:dE->Option dE)(r:Option (dE×Ev)):Option (dE×Ev):=r.bind λp=>q0 (o p.1) p.2
@[simp] theorem f1_e{o:dE->Option dE}:f1 o fa δ=q1 o (fa δ):=rfl
@[simp] theorem q1_s{o:dE->Option dE}:q1 o (some (x,δ))=q0 (o x) δ:=rfl
def q2(o:dE->dE->Option dE)(r:Option (dE×Ev))(fb:VF):Option (dE×Ev):=r.bind λp=>(fb p.2).bind λq=>q0 (o p.1 q.1) q.2
def q2b(o:dE->dE->Option dE)(x:dE)(r:Option (dE×Ev)):Option (dE×Ev):=r.bind λq=>q0 (o x q.1) q.2
@[simp] theorem f2_e:f2 o fa fb δ=q2 o (fa δ) fb:=rfl
@[simp] theorem q2_s:q2 o (some (x,δ)) fb=q2b o x (fb δ):=rfl
@[simp] theorem zPQ:q2b o x (some (y,δ))=q0 (o x y) δ:=rfl
noncomputable def q3(o o':dE->dE->Option dE)(r:Option (dE×Ev))(fb fc:VF):Option (dE×Ev):=r.bind λp=>(fb p.2).bind λq=>(o p.1 q.1).bind λz=>match z with
 | .bl true=>(fc q.2).bind λs=>(o' q.1 s.1).map λu=>(u,s.2)
 | .bl false=>some (.bl false,q.2)
 |_=>none
def q3b(o o':dE->dE->Option dE)(x:dE)(r:Option (dE×Ev))(fc:VF):Option (dE×Ev):=q3 o o' (some (x,[])) (λ_=>r) fc
noncomputable def q3c(o':dE->dE->Option dE)(y:dE)(δ:Ev)(fc:VF):Option dE->Option (dE×Ev)
 |some (.bl true)=>q2b o' y (fc δ)
 |some (.bl false)=>some (.bl false,δ)
 |_=>none
@[simp] theorem f3_e:f3 o o' fa fb fc δ=q3 o o' (fa δ) fb fc:=rfl
@[simp] theorem q3_s:q3 o o' (some (x,δ)) fb fc=q3b o o' x (fb δ) fc:=rfl
@[simp] theorem zPP:q3b o o' x (some (y,δ)) fc=q3c o' y δ fc (o x y):=by
 simp only[q3b,q3,Ak]
 cases o x y with
 |none=>rfl
 |some z=>cases z with
  |bl b=>cases b<;>rfl
  |_=>rfl
@[simp] theorem zPN:q3c o' y δ fc (some (.bl true))=q2b o' y (fc δ):=rfl
@[simp] theorem zPO:q3c o' y δ fc (some (.bl false))=some (.bl false,δ):=rfl
noncomputable def qc(r:Option (dE×Ev))(fs:NM):Option (List dE×Ev):=r.bind λp=>(fs p.2).map λq=>(p.1::q.1,q.2)
noncomputable def qcb(x:dE)(r:Option (List dE×Ev)):Option (List dE×Ev):=r.map λq=>(x::q.1,q.2)
@[simp] theorem zOD:cB δ=some ([],δ):=rfl
@[simp] theorem zLY{fs:NM}:c7 fa fs δ=qc (fa δ) fs:=rfl
@[simp] theorem qc_s{fs:NM}:qc (some (x,δ)) fs=qcb x (fs δ):=rfl
@[simp] theorem zP4:qcb x (some (ds,δ))=some (x::ds,δ):=rfl
noncomputable def qT(g:List dE->dE)(r:Option (List dE×Ev)):Option (dE×Ev):=r.bind λp=>if p.1.length<=16777216 then some (g p.1,p.2) else none
@[simp] theorem zOB{fs:NM}:aG fs δ=qT .tup (fs δ):=rfl
@[simp] theorem zOE{fs:NM}:YN fs δ=qT .lst (fs δ):=rfl
@[simp] theorem qT_s{g:List dE->dE}:qT g (some (ds,δ))=if ds.length<=16777216 then some (g ds,δ) else none:=rfl
noncomputable def qB:Option (dE×Ev)->Option (Bool×Ev)
 |some (.bl k,δ)=>some (k,δ)
 |_=>none
@[simp] theorem fB_e:fB fa δ=qB (fa δ):=by
 unfold fB qB
 cases fa δ with
 |none=>rfl
 |some p=>
  obtain⟨d,e⟩:=p
  cases d<;>rfl
@[simp] theorem qB_s:qB (some (.bl b,δ))=some (b,δ):=rfl
variable{tb tb':VB}{g g':VS}
noncomputable def qAnd(r:Option (Bool×Ev))(y:VB):Option (Bool×Ev):=r.bind λp=>if p.1=true then y p.2 else some (false,p.2)
noncomputable def qOr(r:Option (Bool×Ev))(y:VB):Option (Bool×Ev):=r.bind λp=>if p.1=true then some (true,p.2) else y p.2
noncomputable def qNot(r:Option (Bool×Ev)):Option (Bool×Ev):=r.map λp=>(!p.1,p.2)
@[simp] theorem zOM:RW tb tb' δ=qAnd (tb δ) tb':=rfl
@[simp] theorem zQ8:D7 tb tb' δ=qOr (tb δ) tb':=rfl
@[simp] theorem zOL:U7 tb δ=qNot (tb δ):=rfl
@[simp] theorem F0:WY δ=some (true,δ):=rfl
@[simp] theorem zN8:qAnd (some (true,δ)) tb=tb δ:=rfl
@[simp] theorem zN9:qAnd (some (false,δ)) tb=some (false,δ):=rfl
@[simp] theorem zP9:qOr (some (true,δ)) tb=some (true,δ):=rfl
@[simp] theorem zPA:qOr (some (false,δ)) tb=tb δ:=rfl
@[simp] theorem zN2:qNot (some (b,δ))=some (!b,δ):=rfl
noncomputable def qA(r:Option (dE×Ev))(y:VF):Option (dE×Ev):=r.bind λp=>match p.1 with
 | .bl true=>y p.2
 | .bl false=>some (.bl false,p.2)
 |_=>none
noncomputable def qR(r:Option (dE×Ev))(y:VF):Option (dE×Ev):=r.bind λp=>match p.1 with
 | .bl false=>y p.2
 | .bl true=>some (.bl true,p.2)
 |_=>none
noncomputable def qN(r:Option (dE×Ev)):Option (dE×Ev):=r.bind λp=>match p.1 with
 | .bl k=>some (.bl (!k),p.2)
 |_=>none
@[simp] theorem zOF:TC fa fb δ=qA (fa δ) fb:=rfl
@[simp] theorem zQ6:fOr fa fb δ=qR (fa δ) fb:=rfl
@[simp] theorem zOC:fNot fa δ=qN (fa δ):=rfl
@[simp] theorem qA_t:qA (some (.bl true,δ)) fb=fb δ:=rfl
@[simp] theorem qA_f:qA (some (.bl false,δ)) fb=some (.bl false,δ):=rfl
@[simp] theorem qR_t:qR (some (.bl true,δ)) fb=some (.bl true,δ):=rfl
@[simp] theorem qR_f:qR (some (.bl false,δ)) fb=fb δ:=rfl
@[simp] theorem qN_s:qN (some (.bl b,δ))=some (.bl (!b),δ):=rfl
def qI(r:Option (Bool×Ev))(x y:VF):Option (dE×Ev):=r.bind λp=>if p.1=true then x p.2 else y p.2
@[simp] theorem zQ7:F9 tb fa fb δ=qI (tb δ) fa fb:=rfl
@[simp] theorem qI_t:qI (some (true,δ)) fa fb=fa δ:=rfl
@[simp] theorem qI_f:qI (some (false,δ)) fa fb=fb δ:=rfl
def qS(r:Option Ou)(g:VS):Option Ou:=r.bind λo=>match o with
 | .nx δ'=>g δ'
 |o=>some o
@[simp] theorem zMK:aH δ=some (.nx δ):=rfl
@[simp] theorem AH:cK g g' δ=qS (g δ) g':=rfl
@[simp] theorem qS_n:qS (some (.nx δ)) g=g δ:=rfl
@[simp] theorem qS_r:qS (some (.rt d δ)) g=some (.rt d δ):=rfl
@[simp] theorem qS_b:qS (some (.bk δ)) g=some (.bk δ):=rfl
@[simp] theorem qS_c:qS (some (.ct δ)) g=some (.ct δ):=rfl
def qJ(r:Option (Bool×Ev))(x y:VS):Option Ou:=r.bind λp=>if p.1=true then x p.2 else y p.2
@[simp] theorem zOR:XR tb g g' δ=qJ (tb δ) g g':=rfl
@[simp] theorem qJ_t:qJ (some (true,δ)) g g'=g δ:=rfl
@[simp] theorem qJ_f:qJ (some (false,δ)) g g'=g' δ:=rfl
noncomputable def qRet(r:Option (dE×Ev)):Option Ou:=r.map λp=> .rt p.1 p.2
def zDV(r:Option (dE×Ev)):Option Ou:=r.map λp=> .nx p.2
@[simp] theorem zMJ:cC fa δ=qRet (fa δ):=rfl
@[simp] theorem zMY:qRet (some (d,δ))=some (.rt d δ):=rfl
@[simp] theorem zL4:MR fa δ=zDV (fa δ):=rfl
@[simp] theorem zL6:zDV (some (d,δ))=some (.nx δ):=rfl
noncomputable def qx(f:dE->Sl)(r:Option (dE×Ev)):Option (Sl×Ev):=r.map λp=>(f p.1,p.2)
@[simp] theorem xV_e:xV fa δ=qx .va (fa δ):=rfl
@[simp] theorem xO_e:xO fa δ=qx .ow (fa δ):=rfl
@[simp] theorem qx_s{f:dE->Sl}:qx f (some (d,δ))=some (f d,δ):=rfl
noncomputable def qSet(i:Nat)(r:Option (Sl×Ev)):Option Ou:=r.bind λp=>if i<p.2.length then some (.nx (p.2.set i p.1)) else none
@[simp] theorem zMI{x:VX}:aC i x δ=qSet i (x δ):=rfl
@[simp] theorem zMV:qSet i (some (s,δ))=if i<δ.length then some (.nx (δ.set i s)) else none:=rfl
noncomputable def qP2(i j:Nat)(r:Option (Sl×Ev))(y:VX):Option Ou:=r.bind λp=>(y p.2).bind λq=>if i<q.2.length/\j<q.2.length then some (.nx ((q.2.set j q.1).set i p.1)) else none
noncomputable def qP2b(i j:Nat)(s:Sl)(r:Option (Sl×Ev)):Option Ou:=r.bind λq=>if i<q.2.length/\j<q.2.length then some (.nx ((q.2.set j q.1).set i s)) else none
@[simp] theorem zL3{x y:VX}:JM i j x y δ=qP2 i j (x δ) y:=rfl
@[simp] theorem zP8{y:VX}:qP2 i j (some (s,δ)) y=qP2b i j s (y δ):=rfl
@[simp] theorem zN1{s':Sl}:qP2b i j s (some (s',δ))=if i<δ.length/\j<δ.length then some (.nx ((δ.set j s').set i s)) else none:=rfl
noncomputable def qP3(i j k:Nat)(r:Option (Sl×Ev))(y z:VX):Option Ou:=r.bind λp=>(y p.2).bind λq=>(z q.2).bind λr=>if i<r.2.length/\j<r.2.length/\k<r.2.length then some (.nx (((r.2.set k r.1).set j q.1).set i p.1)) else none
noncomputable def qP3b(i j k:Nat)(s:Sl)(r:Option (Sl×Ev))(z:VX):Option Ou:=r.bind λq=>(z q.2).bind λr=>if i<r.2.length/\j<r.2.length/\k<r.2.length then some (.nx (((r.2.set k r.1).set j q.1).set i s)) else none
noncomputable def qP3c(i j k:Nat)(s s':Sl)(r:Option (Sl×Ev)):Option Ou:=r.bind λr=>if i<r.2.length/\j<r.2.length/\k<r.2.length then some (.nx (((r.2.set k r.1).set j s').set i s)) else none
@[simp] theorem zL2{x y z:VX}:OK i j k x y z δ=qP3 i j k (x δ) y z:=rfl
@[simp] theorem zP7{y z:VX}:qP3 i j k (some (s,δ)) y z=qP3b i j k s (y δ) z:=rfl
@[simp] theorem zN0{s':Sl}{z:VX}:qP3b i j k s (some (s',δ)) z=qP3c i j k s s' (z δ):=rfl
@[simp] theorem zMZ{s' s'':Sl}:qP3c i j k s s' (some (s'',δ))=if i<δ.length/\j<δ.length/\k<δ.length then some (.nx (((δ.set k s'').set j s').set i s)) else none:=rfl
@[simp] theorem KU:gN i d δ=some (δ.set i (.va d)):=rfl
def qg(r:Option Ev)(gs:BS)(ds:List dE):Option Ev:=r.bind λδ1=>gs ds δ1
@[simp] theorem zLX:YU [] δ=some δ:=rfl
@[simp] theorem zKH{gg:VG}{gs:BS}:b6 gg gs (d::ds) δ=qg (gg d δ) gs ds:=rfl
@[simp] theorem qg_s{gs:BS}:qg (some δ) gs ds=gs ds δ:=rfl
@[simp] theorem zQ3{gs:BS}:NU n gs (.tup ds) δ=if ds.length=n then gs ds δ else none:=rfl
@[simp] theorem zQ4{gs:BS}:NU n gs (.lst ds) δ=if ds.length=n then gs ds δ else none:=rfl
noncomputable def qAsg(r:Option (dE×Ev))(gg:VG):Option Ou:=r.bind λp=>(gg p.1 p.2).map Ou.nx
@[simp] theorem zMM{gg:VG}:NE fa gg δ=qAsg (fa δ) gg:=rfl
@[simp] theorem zN7{gg:VG}:qAsg (some (d,δ)) gg=(gg d δ).map Ou.nx:=rfl
noncomputable def qM(i:Nat)(m:List dE->List dE->Option (List dE))(r:Option (List dE))(δ:Ev)(fs:NM):Option Ou:=r.bind λ_=>(fs δ).bind λp=>(XE p.2 i).bind λds=>(m ds p.1).map λds'=> .nx (p.2.set i (.ow (.lst ds')))
noncomputable def qMb(i:Nat)(m:List dE->List dE->Option (List dE))(r:Option (List dE×Ev)):Option Ou:=r.bind λp=>(XE p.2 i).bind λds=>(m ds p.1).map λds'=> .nx (p.2.set i (.ow (.lst ds')))
noncomputable def qMc(i:Nat)(m:List dE->List dE->Option (List dE))(es:List dE)(δ:Ev)(r:Option (List dE)):Option Ou:=r.bind λds=>(m ds es).map λds'=> .nx (δ.set i (.ow (.lst ds')))
noncomputable def qMd(i:Nat)(δ:Ev)(r:Option (List dE)):Option Ou:=r.map λds'=> .nx (δ.set i (.ow (.lst ds')))
@[simp] theorem zML{m:List dE->List dE->Option (List dE)}{fs:NM}:UW i m fs δ=qM i m (XE δ i) δ fs:=rfl
@[simp] theorem qM_s{m:List dE->List dE->Option (List dE)}{fs:NM}:qM i m (some ds) δ fs=qMb i m (fs δ):=rfl
@[simp] theorem zPF{m:List dE->List dE->Option (List dE)}{es:List dE}:qMb i m (some (es,δ))=qMc i m es δ (XE δ i):=rfl
@[simp] theorem zPE{m:List dE->List dE->Option (List dE)}{es:List dE}:qMc i m es δ (some ds)=qMd i δ (m ds es):=rfl
@[simp] theorem zPD:qMd i δ (some ds)=some (.nx (δ.set i (.ow (.lst ds)))):=rfl
noncomputable def qOl:Option Sl->Option (List dE)
 |some (.ow (.lst ds))=>some ds
 |_=>none
@[simp] theorem zNC:XE δ i=qOl δ[i]? :=by unfold XE qOl;split<;>simp_all
@[simp] theorem zPB:qOl (some (.ow (.lst ds)))=some ds:=rfl
@[simp] theorem zNW:TD ds [d]=if ds.length<16777216 then some (ds++[d]) else none:=rfl
noncomputable def qOd:Option Sl->Option (List aR×List dE)
 |some (.ow (.dct ks ds))=>some (ks,ds)
 |_=>none
@[simp] theorem zND:XO δ i=qOd δ[i]? :=by unfold XO qOd;split<;>simp_all
@[simp] theorem zPC{ks:List aR}:qOd (some (.ow (.dct ks ds)))=some (ks,ds):=rfl
noncomputable def qL(i:Nat)(r:Option (dE×Ev))(fi:VF):Option Ou:=r.bind λp=>(XE p.2 i).bind λ_=>(fi p.2).bind λq=>(XE q.2 i).bind λds=>match q.1 with
 | .int k=>(ME ds.length k).map λj=> .nx (q.2.set i (.ow (.lst (ds.set j p.1))))
 |_=>none
noncomputable def qLb(i:Nat)(x:dE)(r:Option (List dE))(δ:Ev)(fi:VF):Option Ou:=r.bind λ_=>(fi δ).bind λq=>(XE q.2 i).bind λds=>match q.1 with
 | .int k=>(ME ds.length k).map λj=> .nx (q.2.set i (.ow (.lst (ds.set j x))))
 |_=>none
noncomputable def qLc(i:Nat)(x:dE)(r:Option (dE×Ev)):Option Ou:=r.bind λq=>(XE q.2 i).bind λds=>match q.1 with
 | .int k=>(ME ds.length k).map λj=> .nx (q.2.set i (.ow (.lst (ds.set j x))))
 |_=>none
noncomputable def qLd(i:Nat)(x:dE)(k:Int)(δ:Ev)(r:Option (List dE)):Option Ou:=r.bind λds=>(ME ds.length k).map λj=> .nx (δ.set i (.ow (.lst (ds.set j x))))
@[simp] theorem zL1{fi fv:VF}:FI i fi fv δ=qL i (fv δ) fi:=rfl
@[simp] theorem qL_s{fi:VF}:qL i (some (x,δ)) fi=qLb i x (XE δ i) δ fi:=rfl
@[simp] theorem zPI{fi:VF}:qLb i x (some ds) δ fi=qLc i x (fi δ):=rfl
@[simp] theorem zPH{k:Int}:qLc i x (some (.int k,δ))=qLd i x k δ (XE δ i):=rfl
@[simp] theorem zPG{k:Int}:qLd i x k δ (some ds)=(ME ds.length k).map λj=> .nx (δ.set i (.ow (.lst (ds.set j x)))):=rfl
noncomputable def qi(r:Option (dE×Ev)):Option (List dE×Ev):=r.bind λp=>(YV p.1).map λds=>(ds,p.2)
@[simp] theorem zO9:UP fa δ=qi (fa δ):=rfl
@[simp] theorem qi_t:qi (some (.tup ds,δ))=some (ds,δ):=rfl
@[simp] theorem qi_l:qi (some (.lst ds,δ))=some (ds,δ):=rfl
noncomputable def qr1:Option (dE×Ev)->Option (List dE×Ev)
 |some (.int j,δ)=>if -4611686018427387904<=j/\j<4611686018427387904 then some (bD 0 j.toNat,δ) else none
 |_=>none
@[simp] theorem zQ2:BU fa δ=qr1 (fa δ):=by
 unfold BU qr1
 cases fa δ with
 |none=>rfl
 |some p=>
  obtain⟨d,e⟩:=p
  cases d<;>rfl
@[simp] theorem zOY{j:Int}:qr1 (some (.int j,δ))=if -4611686018427387904<=j/\j<4611686018427387904 then some (bD 0 j.toNat,δ) else none:=rfl
noncomputable def qe(r:Option (dE×Ev)):Option (List dE×Ev):=r.bind λp=>(YV p.1).map λds=>(YW 0 ds,p.2)
@[simp] theorem zLW:PX fa δ=qe (fa δ):=rfl
@[simp] theorem qe_t:qe (some (.tup ds,δ))=some (YW 0 ds,δ):=rfl
@[simp] theorem qe_l:qe (some (.lst ds,δ))=some (YW 0 ds,δ):=rfl
noncomputable def qz(r:Option (dE×Ev))(g:VF):Option (List dE×Ev):=r.bind λp=>(g p.2).bind λq=>(YV p.1).bind λds=>(YV q.1).map λes=>(XT ds es,q.2)
noncomputable def qzb(x:dE)(r:Option (dE×Ev)):Option (List dE×Ev):=r.bind λq=>(YV x).bind λds=>(YV q.1).map λes=>(XT ds es,q.2)
@[simp] theorem zO8:CZ fa fb δ=qz (fa δ) fb:=rfl
@[simp] theorem qz_s:qz (some (x,δ)) fb=qzb x (fb δ):=rfl
@[simp] theorem zOS:qzb x (some (y,δ))=(YV x).bind λds=>(YV y).map λes=>(XT ds es,δ):=rfl
@[simp] theorem zMG:YV (.tup ds)=some ds:=rfl
@[simp] theorem zMH:YV (.lst ds)=some ds:=rfl
def qF(r:Option (List dE×Ev))(gg:VG)(g:VS):Option Ou:=r.bind λp=>XN gg g p.1 p.2
@[simp] theorem zFH{fi:VI}{gg:VG}:OJ fi gg g δ=qF (fi δ) gg g:=rfl
@[simp] theorem qF_s{gg:VG}:qF (some (ds,δ)) gg g=XN gg g ds δ:=rfl
noncomputable def qK(ix:List Nat)(nl:Nat)(r:Option (List dE×Ev))(gg:VG)(tb:VB)(fe:VF):Option (dE×Ev):=r.bind λp=>(aF ix.length nl gg tb fe p.1 [] (bX ix p.2)).map λq=>(.lst q.1,ZH ix q.2 p.2)
noncomputable def qKb(ix:List Nat)(δ:Ev)(r:Option (List dE×Ev)):Option (dE×Ev):=r.map λq=>(.lst q.1,ZH ix q.2 δ)
@[simp] theorem zLZ{ix:List Nat}{nl:Nat}{fi:VI}{gg:VG}:ZZ ix nl fi gg tb fa δ=qK ix nl (fi δ) gg tb fa:=rfl
@[simp] theorem qK_s{ix:List Nat}{nl:Nat}{gg:VG}:qK ix nl (some (ds,δ)) gg tb fa=qKb ix δ (aF ix.length nl gg tb fa ds [] (bX ix δ)):=rfl
@[simp] theorem zPJ{ix:List Nat}:qKb ix δ (some (ds,δ1))=some (.lst ds,ZH ix δ1 δ):=rfl
variable{as:List AV}{fs:NH}{mF:List Nat}{F:b9}
noncomputable def qa(r:Option (dE×Ev))(fs:NH):Option (List AV×Ev):=r.bind λp=>(fs p.2).map λq=>(.d p.1::q.1,q.2)
noncomputable def qab(x:AV)(r:Option (List AV×Ev)):Option (List AV×Ev):=r.map λq=>(x::q.1,q.2)
@[simp] theorem zIH:cG δ=some ([],δ):=rfl
@[simp] theorem HM:aE fa fs δ=qa (fa δ) fs:=rfl
@[simp] theorem qa_s:qa (some (x,δ)) fs=qab (.d x) (fs δ):=rfl
@[simp] theorem zA5{a:AV}:qab a (some (as,δ))=some (a::as,δ):=rfl
def qao(j:Nat)(r:Option dE)(δ:Ev)(fs:NH):Option (List AV×Ev):=r.bind λ_=>qab (.o j) (fs δ)
@[simp] theorem aO_e:aO j fs δ=qao j (slot δ j) δ fs:=rfl
@[simp] theorem zJF:qao j (some d) δ fs=qab (.o j) (fs δ):=rfl
noncomputable def qsl:Option Sl->Option dE
 |some (.va d)=>some d
 |some (.ow d)=>some d
 |_=>none
@[simp] theorem zMF:slot δ j=qsl δ[j]? :=by unfold slot qsl;split<;>simp_all
@[simp] theorem zOW:qsl (some (.va d))=some d:=rfl
@[simp] theorem zOX:qsl (some (.ow d))=some d:=rfl
@[simp] theorem zM9:WX δ []=some []:=rfl
@[simp] theorem zMA:WX δ (.d d::as)=(WX δ as).map λds=>d::ds:=rfl
@[simp] theorem zM8:WX δ (.o j::as)=(slot δ j).bind λd=>(WX δ as).map λds=>d::ds:=rfl
noncomputable def zDW(n:Nat)(mF:List Nat)(F:b9)(r:Option (List AV×Ev)):Option (dE×Ev):=r.bind λp=>(WX p.2 p.1).bind λds=>if ds.length=n/\VN mF p.1 p.2=true then(F ds).bind λq=>if WF mF p.1 q.1 q.2=true then some (q.1,WS p.1 mF q.2 p.2) else none else none
noncomputable def qCb(n:Nat)(mF:List Nat)(F:b9)(as:List AV)(δ:Ev)(r:Option (List dE)):Option (dE×Ev):=r.bind λds=>if ds.length=n/\VN mF as δ=true then(F ds).bind λq=>if WF mF as q.1 q.2=true then some (q.1,WS as mF q.2 δ) else none else none
noncomputable def qCc(mF:List Nat)(as:List AV)(δ:Ev)(r:Option (dE×List dE)):Option (dE×Ev):=r.bind λq=>if WF mF as q.1 q.2=true then some (q.1,WS as mF q.2 δ) else none
@[simp] theorem OX:cV n mF F fs δ=zDW n mF F (fs δ):=rfl
@[simp] theorem zCD:zDW n mF F (some (as,δ))=qCb n mF F as δ (WX δ as):=rfl
@[simp] theorem zJH:qCb n mF F as δ (some ds)=if ds.length=n/\VN mF as δ=true then qCc mF as δ (F ds) else none:=rfl
@[simp] theorem zJG{os:List dE}:qCc mF as δ (some (d,os))=if WF mF as d os=true then some (d,WS as mF os δ) else none:=rfl
@[simp] theorem zLV:EQ δ as i=(match as[i]? with
 |some (.o j)=>match δ[j]? with
  |some (.ow _)=>true
  |_=>false
 |_=>false):=rfl
@[simp] theorem zO1:U8 []=[]:=rfl
@[simp] theorem zO2:U8 (.d d::as)=U8 as:=rfl
@[simp] theorem zO0:U8 (.o j::as)=j::U8 as:=rfl
@[simp] theorem zKT:VN mF as δ=(mF.all (EQ δ as) && decide (U8 as).Nodup):=rfl
@[simp] theorem zMC:WV mF [] i=true:=rfl
@[simp] theorem zMD:WV mF (.d d::as) i=WV mF as (i+1):=rfl
@[simp] theorem zMB:WV mF (.o j::as) i=(decide (i∈mF) && WV mF as (i+1)):=rfl
@[simp] theorem zKV{os:List dE}:WF mF as d os=((WV mF as 0 || d.hard) && (WV mF as 0 || os.all UQ) && decide (mF.length=os.length)):=rfl
@[simp] theorem zNA{os:List dE}:WS as [] os δ=δ:=by cases os<;>rfl
@[simp] theorem zNB{os:List dE}{is:List Nat}:WS as (i::is) (d::os) δ=(match as[i]? with
  |some (.o j)=>WS as is os (δ.set j (.ow d))
  |_=>WS as is os δ):=rfl
@[simp] theorem zOH:dflt F d ds=F (ds++[d]):=rfl
noncomputable def qH(n:Nat)(mF:List Nat)(tb:List (Str×b9))(fs:NH)(δ:Ev):Option Sl->Option (dE×Ev)
 |some (.va (.fn x))=>(W0 tb x).bind λF=>cV n mF F fs δ
 |_=>none
@[simp] theorem zKM{tb:List (Str×b9)}:NT n mF tb i fs δ=qH n mF tb fs δ δ[i]? :=by unfold NT qH;split<;>simp_all
@[simp] theorem qH_s{tb:List (Str×b9)}{x:Str}:qH n mF tb fs δ (some (.va (.fn x)))=(W0 tb x).bind λF=>cV n mF F fs δ:=rfl
@[simp] theorem zPS:DD δ=some (none,δ):=rfl
noncomputable def qpS:Option (dE×Ev)->Option (Option Int×Ev)
 |some (.int i,δ)=>some (some i,δ)
 |_=>none
@[simp] theorem zPR:GQ fa δ=qpS (fa δ):=by
 unfold GQ qpS
 cases fa δ with
 |none=>rfl
 |some p=>
  obtain⟨d,e⟩:=p
  cases d<;>rfl
@[simp] theorem zOZ{i:Int}:qpS (some (.int i,δ))=some (some i,δ):=rfl
noncomputable def qSl(r:Option (dE×Ev))(fl fh:VP):Option (dE×Ev):=r.bind λp=>(fl p.2).bind λl=>(fh l.2).bind λu=>(oSl p.1 l.1 u.1).map λc=>(c,u.2)
noncomputable def qSlb(x:dE)(r:Option (Option Int×Ev))(fh:VP):Option (dE×Ev):=r.bind λl=>(fh l.2).bind λu=>(oSl x l.1 u.1).map λc=>(c,u.2)
def qSlc(x:dE)(l:Option Int)(r:Option (Option Int×Ev)):Option (dE×Ev):=r.bind λu=>q0 (oSl x l u.1) u.2
@[simp] theorem zQ5{fl fh:VP}:GA fa fl fh δ=qSl (fa δ) fl fh:=rfl
@[simp] theorem zP6{fl fh:VP}:qSl (some (x,δ)) fl fh=qSlb x (fl δ) fh:=rfl
@[simp] theorem zMU{l:Option Int}{fh:VP}:qSlb x (some (l,δ)) fh=qSlc x l (fh δ):=rfl
@[simp] theorem zMT{l u:Option Int}:qSlc x l (some (u,δ))=q0 (oSl x l u) δ:=rfl
@[simp] theorem zPW{l u:Option Int}:oSl (.tup ds) l u=some (.tup (WR ds l u)):=rfl
@[simp] theorem zPX{l u:Option Int}:oSl (.lst ds) l u=some (.lst (WR ds l u)):=rfl
noncomputable def qSt(i j:Nat):Option (dE×Ev)->Option Ou
 |some (.tup (d::ds),δ)=>some (.nx ((δ.set i (.va d)).set j (.va (.lst ds))))
 |_=>none
@[simp] theorem zL0:MT i j fa δ=qSt i j (fa δ):=by
 unfold MT qSt
 cases fa δ with
 |none=>rfl
 |some p=>
  obtain⟨d,e⟩:=p
  cases d with
  |tup ds=>cases ds<;>rfl
  |_=>rfl
@[simp] theorem zP5:qSt i j (some (.tup (d::ds),δ))=some (.nx ((δ.set i (.va d)).set j (.va (.lst ds)))):=rfl
noncomputable def qDg(i:Nat)(r:Option (List aR×List dE))(δ:Ev)(fk fx:VF):Option (dE×Ev):=r.bind λ_=>(fk δ).bind λp=>(fx p.2).bind λq=>(WJ p.1).bind λk=>(XO q.2 i).map λz=>((bO z.1 z.2 k).getD q.1,q.2)
noncomputable def qDgb(i:Nat)(r:Option (dE×Ev))(fx:VF):Option (dE×Ev):=r.bind λp=>(fx p.2).bind λq=>(WJ p.1).bind λk=>(XO q.2 i).map λz=>((bO z.1 z.2 k).getD q.1,q.2)
noncomputable def qDgc(i:Nat)(x:dE)(r:Option (dE×Ev)):Option (dE×Ev):=r.bind λq=>(WJ x).bind λk=>(XO q.2 i).map λz=>((bO z.1 z.2 k).getD q.1,q.2)
@[simp] theorem zKK:KR i fa fb δ=qDg i (XO δ i) δ fa fb:=rfl
@[simp] theorem zPM{z:List aR×List dE}:qDg i (some z) δ fa fb=qDgb i (fa δ) fb:=rfl
@[simp] theorem zN6:qDgb i (some (x,δ)) fb=qDgc i x (fb δ):=rfl
@[simp] theorem zN5:qDgc i x (some (y,δ))=(WJ x).bind λk=>(XO δ i).map λz=>((bO z.1 z.2 k).getD y,δ):=rfl
noncomputable def qDp(i:Nat)(r:Option (dE×Ev))(fk:VF):Option Ou:=r.bind λp=>(XO p.2 i).bind λ_=>(fk p.2).bind λq=>(WJ q.1).bind λk=>(XO q.2 i).bind λz=>if z.1.length<16777216/\z.1.Nodup then some (.nx (q.2.set i (.ow (let r:=YF z.1 z.2 k p.1;.dct r.1 r.2)))) else none
noncomputable def qDpb(i:Nat)(x:dE)(r:Option (List aR×List dE))(δ:Ev)(fk:VF):Option Ou:=r.bind λ_=>(fk δ).bind λq=>(WJ q.1).bind λk=>(XO q.2 i).bind λz=>if z.1.length<16777216/\z.1.Nodup then some (.nx (q.2.set i (.ow (let r:=YF z.1 z.2 k x;.dct r.1 r.2)))) else none
noncomputable def qDpc(i:Nat)(x:dE)(r:Option (dE×Ev)):Option Ou:=r.bind λq=>(WJ q.1).bind λk=>(XO q.2 i).bind λz=>if z.1.length<16777216/\z.1.Nodup then some (.nx (q.2.set i (.ow (.dct (YF z.1 z.2 k x).1 (YF z.1 z.2 k x).2)))) else none
@[simp] theorem zL5{fk fv:VF}:JK i fk fv δ=qDp i (fv δ) fk:=rfl
@[simp] theorem zPL{fk:VF}:qDp i (some (x,δ)) fk=qDpb i x (XO δ i) δ fk:=rfl
@[simp] theorem zN4{z:List aR×List dE}{fk:VF}:qDpb i x (some z) δ fk=qDpc i x (fk δ):=rfl
@[simp] theorem zN3:qDpc i x (some (y,δ))=(WJ y).bind λk=>(XO δ i).bind λz=>if z.1.length<16777216/\z.1.Nodup then some (.nx (δ.set i (.ow (.dct (YF z.1 z.2 k x).1 (YF z.1 z.2 k x).2)))) else none:=rfl
@[simp] theorem zNZ{i:Int}:WJ (.int i)=some (.inl i):=rfl
@[simp] theorem zNY{s:Str}:WJ (.str s)=some (.inr s):=rfl
noncomputable def qRun(ml:List Nat):Option Ou->Option (dE×List dE)
 |some (.rt d δ)=>(UV ml δ).map λos=>(d,os)
 |some (.nx δ)=>(UV ml δ).map λos=>(.non,os)
 |_=>none
theorem cU{ml:List Nat}:bB n ml g ds=qRun ml (g (cR ml n ds)):=by
 unfold bB qRun
 cases g (cR ml n ds) with
 |none=>rfl
 |some o=>cases o<;>rfl
@[simp] theorem zMW{ml:List Nat}:qRun ml (some (.rt d δ))=(UV ml δ).map λos=>(d,os):=rfl
@[simp] theorem zMX{ml:List Nat}:qRun ml (some (.nx δ))=(UV ml δ).map λos=>(.non,os):=rfl
def qow:Option Sl->Option dE
 |some (.ow d)=>some d
 |_=>none
@[simp] theorem zNE:UV [] δ=some []:=rfl
@[simp] theorem zNF{ml:List Nat}:UV (i::ml) δ=(qow δ[i]?).bind λd=>(UV ml δ).map λos=>d::os:=by
 unfold UV
 rw[Pq]
 cases h:(δ[i]? :Option Sl) with
 | none => rfl
 | some s => cases s with
  |no=>rfl
  |va d=>rfl
  |ow d=>
   show(Option.bind _ λos=>some (d::os))=Option.map (λos=>d::os) _
   cases (List.mapM _ ml:Option (List dE))<;>rfl
@[simp] theorem zP0:qow (some (.ow d))=some d:=rfl
end
section
variable{i j:Int}{x y:Str}{ds es:List dE}
@[simp] theorem oI_e{C:Int->Int->Bool}{g:Int->Int->dE}:oI C g (.int i) (.int j)=if C i j=true then some (g i j) else none:=rfl
@[simp] theorem zLL:ZV (.int i) (.int j)=some (.int (i+j)):=rfl
@[simp] theorem zLJ:ZV (.tup ds) (.tup es)=if ds.length+es.length<=16777216 then some (.tup (ds++es)) else none:=rfl
@[simp] theorem zLK:ZV (.lst ds) (.lst es)=if ds.length+es.length<=16777216 then some (.lst (ds++es)) else none:=rfl
@[simp] theorem zPY{g:Int->Int->Int}:o2I g (.int i) (.int j)=some (.int (g i j)):=rfl
@[simp] theorem zNJ:ZB (.tup ds)=some (.int ds.length):=rfl
@[simp] theorem zNK:ZB (.lst ds)=some (.int ds.length):=rfl
@[simp] theorem zLQ:MJ (.tup ds)=some (.lst ds):=rfl
@[simp] theorem zLR:MJ (.lst ds)=some (.lst ds):=rfl
@[simp] theorem zJZ:UT (.tup ds)=some (.tup ds):=rfl
@[simp] theorem zK0:UT (.lst ds)=some (.tup ds):=rfl
@[simp] theorem zNL:cJ (.tup ds) (.int i)=WQ ds i:=rfl
@[simp] theorem zHG:cJ (.lst ds) (.int i)=WQ ds i:=rfl
@[simp] theorem zLT{ks:List aR}:cJ (.dct ks ds) (.int i)=bO ks ds (.inl i):=rfl
@[simp] theorem zLS{ks:List aR}:cJ (.dct ks ds) (.str x)=bO ks ds (.inr x):=rfl
@[simp] theorem zPU:MK (.int i)=true:=rfl
@[simp] theorem zPT:MK .non=true:=rfl
@[simp] theorem zPV{b:Bool}:MK (.bl b)=true:=rfl
@[simp] theorem zO7:RD "int" "bool"=some false:=by decide+kernel
@[simp] theorem zO6:RD "int" "int"=some true:=by decide+kernel
@[simp] theorem zO5:RD "tuple" "tuple"=some true:=by decide+kernel
@[simp] theorem zO4:RD "str" "str"=some true:=by decide+kernel
@[simp] theorem zO3:RD "list" "list"=some true:=by decide+kernel
@[simp] theorem zNP{n:String}:RH (.int i) (.ty n)=(RD "int" n).map dE.bl:=rfl
@[simp] theorem zNM{n:String}:RH (.tup ds) (.ty n)=(RD "tuple" n).map dE.bl:=rfl
@[simp] theorem zNO{n:String}:RH (.lst ds) (.ty n)=(RD "list" n).map dE.bl:=rfl
@[simp] theorem zNN{n:String}:RH (.str x) (.ty n)=(RD "str" n).map dE.bl:=rfl
@[simp] theorem zNS:K6 .non .non=some (.bl true):=rfl
@[simp] theorem zNT:K6 (.int i) .non=some (.bl false):=rfl
@[simp] theorem zNR:K6 (.str x) .non=some (.bl false):=rfl
@[simp] theorem zNQ:K6 (.tup ds) .non=some (.bl false):=rfl
@[simp] theorem zLO:US .non .non=some (.bl false):=rfl
@[simp] theorem zLP:US (.int i) .non=some (.bl true):=rfl
@[simp] theorem zLN:US (.str x) .non=some (.bl true):=rfl
@[simp] theorem zLM:US (.tup ds) .non=some (.bl true):=rfl
end
section
variable{d x:dE}{δ δ1:Ev}{r acc:List dE}{gg:VG}{tb:VB}{fe:VF}{n nl:Nat}{g:VS}
noncomputable def qk1(n nl:Nat)(gg:VG)(tb:VB)(fe:VF)(r acc:List dE)(o:Option Ev):Option (List dE×Ev):=o.bind λδ1=>(tb δ1).bind λp=>if p.1=true then(fe p.2).bind λq=>if acc.length<16777216 then aF n nl gg tb fe r (acc++[q.1]) (q.2.take n) else none else aF n nl gg tb fe r acc (p.2.take n)
noncomputable def qk2(n nl:Nat)(gg:VG)(tb:VB)(fe:VF)(r acc:List dE)(o:Option (Bool×Ev)):Option (List dE×Ev):=o.bind λp=>if p.1=true then(fe p.2).bind λq=>if acc.length<16777216 then aF n nl gg tb fe r (acc++[q.1]) (q.2.take n) else none else aF n nl gg tb fe r acc (p.2.take n)
noncomputable def qk3(n nl:Nat)(gg:VG)(tb:VB)(fe:VF)(r acc:List dE)(o:Option (dE×Ev)):Option (List dE×Ev):=o.bind λq=>if acc.length<16777216 then aF n nl gg tb fe r (acc++[q.1]) (q.2.take n) else none
@[simp] theorem zM2:aF n nl gg tb fe [] acc δ=some (acc,δ):=rfl
@[simp] theorem TU:aF n nl gg tb fe (d::r) acc δ=qk1 n nl gg tb fe r acc (gg d (δ++P1 nl)):=rfl
@[simp] theorem MP:qk1 n nl gg tb fe r acc (some δ)=qk2 n nl gg tb fe r acc (tb δ):=rfl
@[simp] theorem E5:qk2 n nl gg tb fe r acc (some (true,δ))=qk3 n nl gg tb fe r acc (fe δ):=rfl
@[simp] theorem zDU:qk2 n nl gg tb fe r acc (some (false,δ))=aF n nl gg tb fe r acc (δ.take n):=rfl
@[simp] theorem E6:qk3 n nl gg tb fe r acc (some (x,δ))=if acc.length<16777216 then aF n nl gg tb fe r (acc++[x]) (δ.take n) else none:=rfl
def qf1(gg:VG)(g:VS)(r:List dE)(o:Option Ev):Option Ou:=o.bind λδ1=>(g δ1).bind (again (XN gg g r))
def qf2(gg:VG)(g:VS)(r:List dE)(o:Option Ou):Option Ou:=o.bind (again (XN gg g r))
@[simp] theorem zOA:XN gg g [] δ=some (.nx δ):=rfl
@[simp] theorem WH:XN gg g (d::r) δ=qf1 gg g r (gg d δ):=rfl
@[simp] theorem RN:qf1 gg g r (some δ)=qf2 gg g r (g δ):=rfl
@[simp] theorem P2:qf2 gg g r (some (.nx δ))=XN gg g r δ:=rfl
@[simp] theorem zP1:qf2 gg g r (some (.ct δ))=XN gg g r δ:=rfl
@[simp] theorem zP2:qf2 gg g r (some (.bk δ))=some (.nx δ):=rfl
@[simp] theorem zJE:qf2 gg g r (some (.rt d δ))=some (.rt d δ):=rfl
@[simp] theorem zM6{ss:Ev}:ZH [] ss δ=δ:=by cases ss<;>rfl
@[simp] theorem zM5{i:Nat}{is:List Nat}{ss:Ev}:ZH (i::is) (.ow d::ss) δ=ZH is ss (δ.set i (.ow d)):=rfl
@[simp] theorem zM4{i:Nat}{is:List Nat}{ss:Ev}:ZH (i::is) (.va d::ss) δ=ZH is ss δ:=rfl
@[simp] theorem zM3{i:Nat}{is:List Nat}{ss:Ev}:ZH (i::is) (.no::ss) δ=ZH is ss δ:=rfl
end
@[simp] theorem ER:P1 1=[.no]:=rfl
@[simp] theorem zAV:P1 2=[.no,.no]:=rfl
@[simp] theorem zPZ:P1 3=[.no,.no,.no]:=rfl
@[simp] theorem zMQ{i:Int}:bD i 0=[]:=rfl
@[simp] theorem zMP:bD 0 1=[.int 0]:=rfl
@[simp] theorem zMO:bD 0 2=[.int 0,.int 1]:=rfl
@[simp] theorem zMN:bD 0 3=[.int 0,.int 1,.int 2]:=rfl
@[simp] theorem zFL:bD 0 4=[.int 0,.int 1,.int 2,.int 3]:=rfl
theorem ZC{α:Type}{xs:List α}{i:Int}(h0:0<=i)(h1:i<xs.length):WQ xs i=xs[i.toNat]? :=by
 unfold WQ ME
 rw[if_pos h0,if_pos h1]
 rfl
theorem FZ{α:Type}{xs:List α}{i:Int}(h0:0<=i)(h1:i<xs.length): ∃x∈xs,WQ xs i=some x:=by
 rw[ZC h0 h1]
 have h:i.toNat<xs.length:=by lia
 exact⟨xs[i.toNat],Hx _,Br h⟩
section
variable{F:b9}{fa fb fc:VF}{δ:Ev}{x y z d o:dE}{j:Nat}
noncomputable def DJ(δ:Ev):Option (dE×List dE)->Option (dE×Ev)
 |some (d,[])=>some (d,δ)
 |_=>none
@[simp] theorem zP3:DJ δ (some (d,[]))=some (d,δ):=rfl
theorem F2{n:Nat}{ds:List dE}{as:List AV}(h:WX δ as=some ds)(hn:ds.length=n)(hj:U8 as=[])(ha:WV [] as 0=true):qCb n [] F as δ (some ds)=DJ δ (F ds):=by
 have hc:VN [] as δ=true:=by simp[hj]
 rw[zJH,if_pos ⟨hn,hc⟩]
 cases F ds with
 |none=>rfl
 |some q=>
  obtain⟨r,os⟩:=q
  rw[zJG]
  cases os with
  |nil=>simp[ha,DJ]
  |cons o os=>simp[DJ]
def qx1(F:b9)(r:Option (dE×Ev)):Option (dE×Ev):=r.bind λp=>DJ p.2 (F [p.1])
@[simp] theorem zOT:qx1 F (some (x,δ))=DJ δ (F [x]):=rfl
@[simp high] theorem call1:cV 1 [] F (aE fa cG) δ=qx1 F (fa δ):=by
 rw[OX,HM]
 cases fa δ with
 |none=>rfl
 |some p=>exact F2 (as:=[.d p.1]) rfl rfl rfl rfl
noncomputable def qx2(F:b9)(r:Option (dE×Ev))(fb:VF):Option (dE×Ev):=r.bind λp=>(fb p.2).bind λq=>DJ q.2 (F [p.1,q.1])
noncomputable def qx2b(F:b9)(x:dE)(r:Option (dE×Ev)):Option (dE×Ev):=r.bind λq=>DJ q.2 (F [x,q.1])
@[simp] theorem zJB:qx2 F (some (x,δ)) fb=qx2b F x (fb δ):=rfl
@[simp] theorem zMS:qx2b F x (some (y,δ))=DJ δ (F [x,y]):=rfl
@[simp high] theorem call2:cV 2 [] F (aE fa (aE fb cG)) δ=qx2 F (fa δ) fb:=by
 rw[OX,HM]
 cases fa δ with
 |none=>rfl
 |some p=>
  rw[qa_s,HM,zJB]
  cases fb p.2 with
  |none=>rfl
  |some q=>exact F2 (as:=[.d p.1,.d q.1]) rfl rfl rfl rfl
noncomputable def qx3(F:b9)(r:Option (dE×Ev))(fb fc:VF):Option (dE×Ev):=r.bind λp=>(fb p.2).bind λq=>(fc q.2).bind λs=>DJ s.2 (F [p.1,q.1,s.1])
noncomputable def qx3b(F:b9)(x:dE)(r:Option (dE×Ev))(fc:VF):Option (dE×Ev):=r.bind λq=>(fc q.2).bind λs=>DJ s.2 (F [x,q.1,s.1])
noncomputable def qx3c(F:b9)(x y:dE)(r:Option (dE×Ev)):Option (dE×Ev):=r.bind λs=>DJ s.2 (F [x,y,s.1])
@[simp] theorem zJA:qx3 F (some (x,δ)) fb fc=qx3b F x (fb δ) fc:=rfl
@[simp] theorem zFM:qx3b F x (some (y,δ)) fc=qx3c F x y (fc δ):=rfl
@[simp] theorem zMR:qx3c F x y (some (z,δ))=DJ δ (F [x,y,z]):=rfl
@[simp high] theorem call3:cV 3 [] F (aE fa (aE fb (aE fc cG))) δ=qx3 F (fa δ) fb fc:=by
 rw[OX,HM]
 cases fa δ with
 | none => rfl
 |some p=>
  rw[qa_s,HM,zJA]
  cases fb p.2 with
  |none=>rfl
  |some q=>
   rw[qa_s,HM,zFM]
   cases fc q.2 with
   |none=>rfl
   |some s=>exact F2 (as:=[.d p.1,.d q.1,.d s.1]) rfl rfl rfl rfl
noncomputable def qw3(j:Nat)(δ:Ev):Option (dE×List dE)->Option (dE×Ev)
 |some (r,[o])=>some (r,δ.set j (.ow o))
 |_=>none
noncomputable def qw2(F:b9)(j:Nat)(x y:dE)(δ:Ev):Option Sl->Option (dE×Ev)
 |some (.ow d)=>qw3 j δ (F [x,d,y])
 |_=>none
def qwb(F:b9)(j:Nat)(x:dE)(r:Option (dE×Ev)):Option (dE×Ev):=r.bind λq=>qw2 F j x q.1 q.2 q.2[j]?
def qwa(F:b9)(j:Nat)(x:dE)(δ:Ev)(fb:VF)(s:Option dE):Option (dE×Ev):=s.bind λ_=>qwb F j x (fb δ)
def qw(F:b9)(j:Nat)(r:Option (dE×Ev))(fb:VF):Option (dE×Ev):=r.bind λp=>qwa F j p.1 p.2 fb (slot p.2 j)
@[simp] theorem zOU:qw3 j δ (some (x,[o]))=some (x,δ.set j (.ow o)):=rfl
@[simp] theorem zOV:qw2 F j x y δ (some (.ow d))=qw3 j δ (F [x,d,y]):=rfl
@[simp] theorem zJC:qwb F j x (some (y,δ))=qw2 F j x y δ δ[j]? :=rfl
@[simp] theorem zJD:qwa F j x δ fb (some d)=qwb F j x (fb δ):=rfl
@[simp] theorem qw_s:qw F j (some (x,δ)) fb=qwa F j x δ fb (slot δ j):=rfl
@[simp high] theorem callO:cV 3 [1] F (aE fa (aO j (aE fb cG))) δ=qw F j (fa δ) fb:=by
 rw[OX,HM]
 cases fa δ with
 | none => rfl
 |some p=>
  obtain⟨x,δ1⟩:=p
  rw[qa_s,aO_e,qw_s]
  cases h:slot δ1 j with
  | none => rfl
  |some d0=>
   rw[zJF,HM,zJD]
   cases fb δ1 with
   | none => rfl
   |some q=>
    obtain⟨y,δ2⟩:=q
    rw[zJC,qa_s,zIH,zA5,zA5,zA5,zCD]
    cases h2:δ2[j]? with
    | none => simp [h2,qsl,qCb,qw2]
    |some s=>
     cases s with
     | no => simp [h2,qsl,qCb,qw2]
     | va d => simp [h2,qw2]
     |ow d=>
      simp[h2]
      cases F [x,d,y] with
      | none => rfl
      |some r=>
       obtain⟨v,os⟩:=r
       cases os with
       |nil=>simp[qw3]
       |cons o os=>
        cases os with
        |nil=>simp
        |cons o2 os=>simp[qw3]
end
def a9:dE:= .int 999
def D9:dE:= .tup [.str "plus",.str "minus",.str "times",.str "least",.str "most",.str "less",.str "over"]
def WG:dE:= .dct [.inr "plus",.inr "minus",.inr "times",.inr "least",.inr "most",.inr "less",.inr "over"] [.fn "plus",.fn "minus",.fn "times",.fn "least",.fn "most",.fn "less",.fn "over"]
def UG:dE:= .int 64
def UF:dE:= .int 40
def VM:dE:= .int 63
def Q6:dE:= .tup [.str "row",.str "row"]
def SV:dE:= .dct [.inr "number",.inr "pick",.inr "load",.inr "take",.inr "store",.inr "put"] [.tup [.str "word"],.tup [.str "row",.str "row",.str "row"],.tup [.str "place"],.tup [.str "place",.str "row",.str "row"],.tup [.str "place",.str "row"],.tup [.str "place",.str "row",.str "row"]]
def ZF:dE:= .tup [.str "load",.str "take"]
def bS:dE:= .tup [.str "store",.str "put"]
def VL:dE:= .int 64
def RZ:VS:=
   (cK (XR (D7 (fB (f2 RH (fV 0) (fC (.ty "bool")))) (U7 (fB (f2 RH (fV 0) (fC (.ty "int"))))))
   (cC (fC (.bl false)))
   aH)
   (cC (f3 oLe oLe (fV 1) (fV 0) (fV 2))))
def bK:b9:=bB 3 [] RZ
def GG:VS:=
   (cC (f2 PL (f2 ZV (fV 0) (fV 1)) (f2 ZV (fC a9) (fC (.int 1)))))
def QA:b9:=bB 2 [] GG
def KZ:VS:=
   (cC (f2 PL (f2 OD (fV 0) (fV 1)) (f2 ZV (fC a9) (fC (.int 1)))))
def TK:b9:=bB 2 [] KZ
def K1:VS:=
   (cC (f2 PL (f2 QS (fV 0) (fV 1)) (f2 ZV (fC a9) (fC (.int 1)))))
def TL:b9:=bB 2 [] K1
def KY:VS:=
   (cC (f2 oMin (fV 0) (fV 1)))
def TJ:b9:=bB 2 [] KY
def GC:VS:=
   (cC (f2 oMax (fV 0) (fV 1)))
def P8:b9:=bB 2 [] GC
def GB:VS:=
   (cC (F9 (fB (f2 oLt (fV 0) (fV 1))) (fC (.int 1)) (fC (.int 0))))
def P7:b9:=bB 2 [] GB
def K0:VS:=
   (cC (F9 (fB (f2 XH (fV 1) (fC (.int 0)))) (fC .non) (f2 IS (fV 0) (fV 1))))
def UE:b9:=bB 2 [] K0
def GF:VS:=
   (cC (F9 (fB (f2 OC (fV 0) (fC (.int 0)))) (fV 1) (fV 2)))
def P9:b9:=bB 3 [] GF
def KW:VS:=
   (cK (XR (fB (f2 XH (fV 0) (fC (.str "pick"))))
   (cC (cV 3 [] P9 (aE (f2 cJ (fV 1) (fC (.int 0))) (aE (f2 cJ (fV 1) (fC (.int 1))) (aE (f2 cJ (fV 1) (fC (.int 2))) cG)))))
   aH)
   (cK (aC 2 (xV (f2 cJ (fC WG) (fV 0))))
   (cC (NT 2 [] [("plus",QA),("minus",TK),("times",TL),("least",TJ),("most",P8),("less",P7),("over",UE)] 2 (aE (f2 cJ (fV 1) (fC (.int 0))) (aE (f2 cJ (fV 1) (fC (.int 1))) cG))))))
def WD:b9:=bB 3 [] KW
def NY:VS:=
   (cK (XR (fB (f2 (aN false) (fV 0) (fC D9)))
   (cC (fC Q6))
   aH)
   (cC (f2 zDZ (fC SV) (fV 0))))
def aU:b9:=bB 1 [] NY
def VT:VS:=
   (cC (f2 (aN true) (f2 cJ (fV 0) (fC (.int 0))) (fC bS)))
def Y1:b9:=bB 1 [] VT
def ZX:VS:=
   (cC (F9 (D7 (fB (f2 (aN false) (f2 cJ (fV 0) (fC (.int 0))) (fC ZF))) (fB (f2 (aN false) (f2 cJ (fV 0) (fC (.int 0))) (fC bS)))) (f2 cJ (fV 0) (fC (.int 1))) (fC .non)))
def cI:b9:=bB 1 [] ZX
def NX:VS:=
   (cK (MT 1 2 (fV 0))
   (cC (ZZ [] 2 (CZ (cV 1 [] aU (aE (fV 1) cG)) (fV 2)) (NU 2 (b6 (gN 0) (b6 (gN 1) YU))) (fB (f2 XH (fV 0) (fC (.str "row")))) (fV 1))))
def aJ:b9:=bB 3 [] NX
def SD:VS:=
   (cC (TC (cV 3 [] bK (aE (fV 0) (aE (fC (.int 0)) (aE (f2 OD (f1 ZB (fV 1)) (fC (.int 1))) cG)))) (f2 cJ (fV 1) (fV 0))))
def X1:b9:=bB 2 [] SD
def NV:VS:=
   (cK (XR (fB (f2 XH (fV 0) (fC (.str "word"))))
   (cC (cV 3 [] bK (aE (fV 1) (aE (fC (.int 0)) (aE (fC a9) cG)))))
   aH)
   (cK (XR (fB (f2 XH (fV 0) (fC (.str "place"))))
   (cC (cV 3 [] bK (aE (fV 1) (aE (fC (.int 0)) (aE (fC VM) cG)))))
   aH)
   (cC (cV 2 [] X1 (aE (fV 1) (aE (fV 2) cG))))))
def WE:b9:=bB 3 [] NV
def NW:VS:=
   (cK (XR (D7 (U7 (fB (f2 RH (fV 0) (fC (.ty "tuple"))))) (fB (f2 XH (f1 ZB (fV 0)) (fC (.int 0)))))
   (cC (fC (.bl false)))
   aH)
   (cK (MT 2 3 (fV 0))
   (cK (aC 4 (xV (F9 (fB (f2 RH (fV 2) (fC (.ty "str")))) (cV 1 [] aU (aE (fV 2) cG)) (fC .non))))
   (cK (XR (D7 (fB (f2 K6 (fV 4) (fC .non))) (fB (f2 OC (f1 ZB (fV 4)) (f1 ZB (fV 3)))))
   (cC (fC (.bl false)))
   aH)
   (cC (f1 oAll (ZZ [1] 2 (CZ (fV 4) (fV 3)) (NU 2 (b6 (gN 1) (b6 (gN 2) YU))) WY (cV 3 [] WE (aE (fV 1) (aE (fV 2) (aE (fV 0) cG)))))))))))
def V2:b9:=bB 5 [] NW
def W9:VS:=
   (cK (XR (U7 (fB (cV 2 [] V2 (aE (fV 4) (aO 3 cG)))))
   (cC (fC (.bl false)))
   aH)
   (UW 3 TD (c7 (cV 1 [] Y1 (aE (fV 4) cG)) cB)))
def RX:VS:=
   (cK (XR (D7 (U7 (fB (f2 RH (fV 0) (fC (.ty "tuple"))))) (fB (f2 OC (f1 ZB (fV 0)) (fC (.int 2)))))
   (cC (fC (.bl false)))
   aH)
   (cK (NE (fV 0) (NU 2 (b6 (gN 1) (b6 (gN 2) YU))))
   (cK (XR (U7 (fB (cV 3 [] bK (aE (fV 1) (aE (fC (.int 0)) (aE (fC UG) cG))))))
   (cC (fC (.bl false)))
   aH)
   (cK (XR (D7 (U7 (fB (f2 RH (fV 2) (fC (.ty "tuple"))))) (fB (f2 oGt (f1 ZB (fV 2)) (fC UF))))
   (cC (fC (.bl false)))
   aH)
   (cK (aC 3 (xO (YN cB)))
   (cK (OJ (UP (fV 2)) (gN 4)
   W9)
   (cC (fC (.bl true)))))))))
def ZW:b9:=bB 5 [] RX
def NZ:VS:=
   (cK (XR (U7 (fB (cV 1 [] ZW (aE (fV 0) cG))))
   (λ_=>none)
   aH)
   (cK (aC 2 (xV (f2 cJ (fV 0) (fC (.int 1)))))
   (cK (XR (U7 (fB (cV 3 [] bK (aE (fV 1) (aE (fC (.int 0)) (aE (f2 OD (f1 ZB (fV 2)) (fC (.int 1))) cG))))))
   (λ_=>none)
   aH)
   (cC (f2 cJ (fV 2) (fV 1))))))
def V3:b9:=bB 3 [] NZ
def N3:VS:=
   (cC (f2 (aN false) (f2 cJ (fV 0) (fC (.int 0))) (fC bS)))
def YS:b9:=bB 1 [] N3
def X6:VS:=
   (cC (TC (f2 XH (f2 cJ (fV 0) (fC (.int 0))) (fC (.str "number"))) (f2 OC (f2 cJ (fV 0) (fC (.int 1))) (fC (.int 0)))))
def Z7:b9:=bB 1 [] X6
def UI:VS:=
   (cK (NE (fV 0) (NU 2 (b6 (gN 2) (b6 (gN 3) YU))))
   (cK (aC 4 (xV (f2 cJ (fV 3) (fV 1))))
   (cK (XR (fB (f2 XH (f2 cJ (fV 4) (fC (.int 0))) (fC (.str "over"))))
   (cC (fNot (cV 1 [] Z7 (aE (f2 cJ (fV 3) (f2 cJ (fV 4) (fC (.int 2)))) cG))))
   aH)
   (cK (aC 5 (xV (cV 1 [] cI (aE (fV 4) cG))))
   (cC (TC (f2 US (fV 5) (fC .non)) (f2 oGe (fV 5) (fV 2))))))))
def aP:b9:=bB 6 [] UI
def Y8:VS:=
   (cC (TC (f2 XH (cV 1 [] cI (aE (fV 0) cG)) (cV 1 [] cI (aE (fV 1) cG))) (fOr (cV 1 [] YS (aE (fV 0) cG)) (cV 1 [] YS (aE (fV 1) cG)))))
def bF:b9:=bB 2 [] Y8
def UO:VS:=
   (cK (aC 3 (xV (f2 cJ (fV 0) (fC (.int 1)))))
   (cK (XR (D7 (fB (f2 (aN false) (fV 1) (cV 1 [] aJ (aE (f2 cJ (fV 3) (fV 2)) cG)))) (fB (cV 2 [] bF (aE (f2 cJ (fV 3) (fV 1)) (aE (f2 cJ (fV 3) (fV 2)) cG)))))
   (cC (fC (.bl true)))
   aH)
   (cK (JM 4 5 (xV (cV 2 [] aP (aE (fV 0) (aE (fV 1) cG)))) (xV (cV 2 [] aP (aE (fV 0) (aE (fV 2) cG)))))
   (cK (XR (RW (fB (fV 4)) (fB (fV 5)))
   (cC (fC (.bl true)))
   aH)
   (cC (fOr (TC (fV 4) (cV 1 [] YS (aE (f2 cJ (fV 3) (fV 2)) cG))) (TC (fV 5) (cV 1 [] YS (aE (f2 cJ (fV 3) (fV 1)) cG)))))))))
def ZN:b9:=bB 6 [] UO
def VU:VS:=
   (cK (aC 1 (xV (f1 ZB (f2 cJ (fV 0) (fC (.int 1))))))
   (cK (aC 2 (xV (QK [1] 2 (BU (fV 1)) (gN 1) WY (iR2 (f2 ZV (fV 1) (fC (.int 1))) (fV 0)) (gN 2) WY (aG (c7 (fV 1) (c7 (fV 2) cB))))))
   (cC (ZZ [0] 2 (UP (fV 2)) (NU 2 (b6 (gN 1) (b6 (gN 2) YU))) (fB (cV 3 [] ZN (aE (fV 0) (aE (fV 1) (aE (fV 2) cG))))) (aG (c7 (fV 1) (c7 (fV 2) cB)))))))
def Y2:b9:=bB 3 [] VU
def UN:VS:=
   (cK (MR (cV 2 [] V3 (aE (fV 0) (aE (fV 1) cG))))
   (cC (cV 2 [] aP (aE (fV 0) (aE (fV 1) cG)))))
def Y6:b9:=bB 2 [] UN
def GD:VS:=
   (cK (XR (U7 (fB (cV 1 [] ZW (aE (fV 0) cG))))
   (λ_=>none)
   aH)
   (cC (cV 1 [] Y2 (aE (fV 0) cG))))
def RV:b9:=bB 1 [] GD
def RY:VS:=
   (cK (XR (D7 (U7 (fB (f2 RH (fV 0) (fC (.ty "list"))))) (U7 (fB (f3 oLe oLe (fV 1) (f1 ZB (fV 0)) (fC VL)))))
   (cC (fC (.bl false)))
   aH)
   (cC (f1 oAll (ZZ [] 1 (UP (fV 0)) (gN 0) WY (cV 3 [] bK (aE (fV 0) (aE (fC (.int 0)) (aE (fC a9) cG))))))))
def XY:b9:=bB 2 [] RY
def T3:VS:=
   (cK (XR (fB (f2 XH (fV 0) (fC (.str "take"))))
   (cC (f2 OC (f2 cJ (fV 1) (fC (.int 0))) (fC (.int 0))))
   aH)
   (cK (XR (fB (f2 XH (fV 0) (fC (.str "put"))))
   (cC (f2 OC (f2 cJ (fV 1) (fC (.int 1))) (fC (.int 0))))
   aH)
   (cC (fC (.bl true)))))
def ZE:b9:=bB 2 [] T3
def bI:VS:=
   (cK (XR (U7 (fB (cV 2 [] ZE (aE (fV 0) (aE (fV 2) cG)))))
   (cC (aG (c7 (F9 (fB (f2 XH (fV 0) (fC (.str "take")))) (f2 cJ (fV 2) (fC (.int 1))) (fC .non)) (c7 (fC .non) cB))))
   aH)
   (cK (XR (fB (f2 oGe (fV 1) (f1 ZB (fO 3))))
   (cC (aG (c7 (fC .non) (c7 (fC (.str "beyond")) cB))))
   aH)
   (cK (XR (fB (f2 (aN false) (fV 0) (fC bS)))
   (cK (FI 3 (fV 1) (f2 cJ (fV 2) (fC (.int 0))))
   (cC (aG (c7 (fC .non) (c7 (fC .non) cB)))))
   aH)
   (cC (aG (c7 (f2 cJ (fO 3) (fV 1)) (c7 (fC .non) cB)))))))
def bU:b9:=bB 4 [3] bI
def V7:VS:=
   (cK (aC 4 (xV (f2 cJ (fV 0) (fC (.int 0)))))
   (cK (XR (fB (f2 XH (fV 4) (fC (.str "number"))))
   (cC (aG (c7 (f2 cJ (fV 0) (fC (.int 1))) (c7 (fC .non) cB))))
   aH)
   (cK (aC 5 (xV (cV 1 [] cI (aE (fV 0) cG))))
   (cK (XR (fB (f2 US (fV 5) (fC .non)))
   (cC (cV 4 [3] bU (aE (fV 4) (aE (f2 ZV (fV 5) (fV 3)) (aE (fV 1) (aO 2 cG))))))
   aH)
   (cK (aC 6 (xV (cV 2 [] WD (aE (fV 4) (aE (fV 1) cG)))))
   (cC (aG (c7 (fV 6) (c7 (F9 (fB (f2 K6 (fV 6) (fC .non))) (fC (.str "nought")) (fC .non)) cB)))))))))
def ZP:b9:=bB 7 [2] V7
def Y7:VS:=
   (cK (NE (cV 3 [2] (dflt ZP (.int 0)) (aE (fV 4) (aE (ZZ [2] 1 (UP (cV 1 [] aJ (aE (fV 4) cG))) (gN 1) WY (f2 cJ (fO 0) (fV 1))) (aO 1 cG)))) (NU 2 (b6 (gN 5) (b6 (gN 6) YU))))
   (cK (XR (fB (f2 US (fV 6) (fC .non)))
   (cC (aG (c7 (fO 2) (c7 (aG (c7 (fV 3) (c7 (fV 6) cB))) cB))))
   aH)
   (UW 2 TD (c7 (fV 5) cB))))
def T0:VS:=
   (cK (aC 2 (xO (YN cB)))
   (cK (OJ (PX (fV 0)) (NU 2 (b6 (gN 3) (b6 (gN 4) YU)))
   Y7)
   (cC (aG (c7 (fO 2) (c7 (fC .non) cB))))))
def YZ:b9:=bB 7 [1] T0
def UJ:VS:=
   (cK (XR (U7 (fB (cV 1 [] ZW (aE (fV 0) cG))))
   (λ_=>none)
   aH)
   (XR (U7 (fB (cV 2 [] XY (aE (fV 1) (aE (f2 cJ (fV 0) (fC (.int 0))) cG)))))
   (λ_=>none)
   aH))
def ZM:b9:=bB 2 [] UJ
def zBF:VS:=
   (cK (MR (cV 2 [] ZM (aE (fV 0) (aE (fV 1) cG))))
   (cK (aC 2 (xO (f1 MJ (fV 1))))
   (cK (NE (cV 2 [1] YZ (aE (f2 cJ (fV 0) (fC (.int 1))) (aO 2 cG))) (NU 2 (b6 (gN 3) (b6 (gN 4) YU))))
   (cC (aG (c7 (fO 2) (c7 (fV 4) cB)))))))
def LQ:b9:=bB 5 [] zBF
def N0:VS:=
   (cK (MR (cV 2 [] ZM (aE (fV 0) (aE (fV 1) cG))))
   (cK (NE (cV 2 [] (C7 1 YZ) (aE (f2 cJ (fV 0) (fC (.int 1))) (aE (fV 1) cG))) (NU 2 (b6 (gN 2) (b6 (gN 3) YU))))
   (cC (fV 2))))
def V4:b9:=bB 4 [] N0
def U9:VS:=
   (aC 2 (xV (f2 IS (fV 2) (fC (.int 1000003)))))
def WI:VS:=
   (cK (XR (fB (f2 oLt (fV 1) (f1 ZB (fV 0))))
   (cC (f2 cJ (fV 0) (fV 1)))
   aH)
   (cK (XR (fB (f2 XH (fV 0) (YN cB)))
   (cC (fC (.int 0)))
   aH)
   (cK (aC 2 (xV (f2 cJ (fV 0) (f2 PL (fV 1) (f1 ZB (fV 0))))))
   (cK (OJ (BU (f2 oMin (f2 IS (fV 1) (f1 ZB (fV 0))) (fC (.int 60)))) (gN 3)
   U9)
   (cC (f2 ZV (f2 ZV (f2 QS (f2 cJ (fV 0) (f2 PL (fV 1) (f1 ZB (fV 0)))) (fC (.int 31))) (fV 1)) (f2 QS (fV 2) (fC (.int 101)))))))))
def Z8:b9:=bB 4 [] WI
def UL:VS:=
   (cK (aC 3 (xV (f2 PL (f2 ZV (f2 ZV (f2 QS (cV 2 [] Z8 (aE (fV 0) (aE (fV 1) cG))) (fC (.int 1103515245))) (f2 QS (fC (.int 7919)) (fV 1))) (fC (.int 12345))) (fC (.int 2147483647)))))
   (cC (f2 PL (f2 PL (f2 PL (f2 oPow (fV 3) (fC (.int 5))) (fC (.int 2147483647))) (fC (.int 999983))) (fV 2))))
def YL:b9:=bB 4 [] UL
def R0:VS:=
   (cK (UW 1 TD (c7 (fC (.int 0)) cB))
   (cC (cV 3 [] YL (aE (fV 0) (aE (f1 ZB (fO 1)) (aE (fV 2) cG))))))
def cD:b9:=bB 3 [1] R0
def R7:VS:=
   (cC (f2 cJ (fV 2) (cV 3 [1] cD (aE (fV 0) (aO 1 (aE (f1 ZB (fV 2)) cG))))))
def b5:b9:=bB 3 [1] R7
def UM:VS:=
   (cK (JK 2 (fV 3) (f2 PL (f2 ZV (KR 2 (fV 3) (cV 3 [1] cD (aE (fV 0) (aO 1 (aE (fV 4) cG))))) (cV 3 [1] b5 (aE (fV 0) (aO 1 (aE (YN (c7 (fC (.int 1)) (c7 (fC (.int 1)) (c7 (fC (.int 1)) (c7 (fC (.int 0)) (c7 (fC (.int 3)) cB)))))) cG))))) (fV 4)))
   (cC (f2 cJ (fO 2) (fV 3))))
def aQ:b9:=bB 5 [1,2] UM
def QM:VS:=
   (cK (aC 5 (xV (cV 3 [1] cD (aE (fV 0) (aO 1 (aE (fC (.int 13)) cG))))))
   (cK (XR (D7 (fB (f2 XH (fV 2) (YN cB))) (fB (f2 XH (fV 5) (fC (.int 0)))))
   (cK (XR (fB (f2 XH (cV 3 [1] cD (aE (fV 0) (aO 1 (aE (fC (.int 2)) cG)))) (fC (.int 0))))
   (cC (aG (c7 (fC (.str "number")) (c7 (cV 3 [1] b5 (aE (fV 0) (aO 1 (aE (YN (c7 (fC (.int 0)) (c7 (fC (.int 1)) (c7 (fC (.int 2)) (c7 (fC (.int 5)) (c7 (fC (.int 999)) (c7 (cV 3 [1] cD (aE (fV 0) (aO 1 (aE (fC (.int 1000)) cG)))) cB))))))) cG)))) cB))))
   aH)
   (cC (aG (c7 (fC (.str "load")) (c7 (cV 5 [1,2] aQ (aE (fV 0) (aO 1 (aO 3 (aE (fC (.str "load")) (aE (fV 4) cG)))))) cB)))))
   aH)
   (cK (NE (ZZ [0,1,2] 1 (BU (fC (.int 3))) (gN 3) WY (f2 cJ (fV 2) (f2 oMax (fC (.int 0)) (f2 OD (f2 OD (f1 ZB (fV 2)) (fC (.int 1))) (cV 3 [1] cD (aE (fV 0) (aO 1 (aE (fC (.int 6)) cG)))))))) (NU 3 (b6 (gN 6) (b6 (gN 7) (b6 (gN 8) YU)))))
   (cK (XR (fB (f2 (aN false) (fV 5) (aG (c7 (fC (.int 1)) (c7 (fC (.int 2)) cB)))))
   (cC (aG (c7 (fC (.str "load")) (c7 (cV 5 [1,2] aQ (aE (fV 0) (aO 1 (aO 3 (aE (fC (.str "load")) (aE (fV 4) cG)))))) cB))))
   aH)
   (cK (XR (fB (f2 XH (fV 5) (fC (.int 3))))
   (cC (aG (c7 (fC (.str "take")) (c7 (cV 5 [1,2] aQ (aE (fV 0) (aO 1 (aO 3 (aE (fC (.str "take")) (aE (fV 4) cG)))))) (c7 (fV 8) (c7 (fV 6) cB))))))
   aH)
   (cK (XR (fB (f2 (aN false) (fV 5) (aG (c7 (fC (.int 4)) (c7 (fC (.int 5)) cB)))))
   (cC (aG (c7 (fC (.str "store")) (c7 (cV 5 [1,2] aQ (aE (fV 0) (aO 1 (aO 3 (aE (fC (.str "store")) (aE (fV 4) cG)))))) (c7 (fV 6) cB)))))
   aH)
   (cK (XR (fB (f2 XH (fV 5) (fC (.int 6))))
   (cC (aG (c7 (fC (.str "put")) (c7 (cV 5 [1,2] aQ (aE (fV 0) (aO 1 (aO 3 (aE (fC (.str "put")) (aE (fV 4) cG)))))) (c7 (fV 6) (c7 (fV 8) cB))))))
   aH)
   (cK (XR (fB (f2 XH (fV 5) (fC (.int 7))))
   (cC (aG (c7 (fC (.str "pick")) (c7 (fV 8) (c7 (fV 6) (c7 (fV 7) cB))))))
   aH)
   (cC (aG (c7 (f2 cJ (YN (c7 (fC (.str "over")) (c7 (fC (.str "plus")) (c7 (fC (.str "minus")) (c7 (fC (.str "times")) (c7 (fC (.str "least")) (c7 (fC (.str "most")) (c7 (fC (.str "less")) cB)))))))) (cV 3 [1] cD (aE (fV 0) (aO 1 (aE (fC (.int 7)) cG))))) (c7 (fV 6) (c7 (fV 7) cB)))))))))))))
def W3:b9:=bB 9 [1,3] QM
def Y3:VS:=
   (cK (aC 10 (xV (f2 ZV (f2 GK (fV 3) (fV 9)) (cV 3 [1] b5 (aE (fV 0) (aO 1 (aE (YN (c7 (fC (.int 1)) (c7 (fC (.int 1)) (c7 (fC (.int 1)) (c7 (fC (.int 1)) (c7 (f1 IT (fC (.int 1))) (c7 (fC (.int 0)) (c7 (fC (.int 2)) cB)))))))) cG)))))))
   (UW 8 TD (c7 (F9 (RW (fB (f3 oLe oLt (fC (.int 0)) (fV 10) (f1 ZB (fV 3)))) (fB (f2 OC (f2 cJ (fV 3) (fV 10)) (f2 OD (f1 ZB (fV 2)) (fC (.int 1)))))) (f2 cJ (fV 3) (fV 10)) (fV 9)) cB)))
def VR:VS:=
   (cK (aC 6 (xV (f2 cJ (fV 2) (f1 IT (fC (.int 1))))))
   (cK (aC 7 (xV (F9 (fB (f2 (aN false) (f2 cJ (fV 6) (fC (.int 0))) (aG (c7 (fC (.str "load")) (c7 (fC (.str "take")) (c7 (fC (.str "store")) (c7 (fC (.str "put")) cB))))))) (fC (.int 2)) (fC (.int 1)))))
   (cK (aC 8 (xO (YN cB)))
   (cK (OJ (UP (GA (fV 6) (GQ (fV 7)) DD)) (gN 9)
   Y3)
   (cK (XR (fB (f2 XH (fV 7) (fC (.int 1))))
   (cC (f2 ZV (GA (fV 6) DD (GQ (fC (.int 1)))) (f1 UT (fO 8))))
   aH)
   (cK (JK 4 (f2 cJ (fV 6) (fC (.int 0))) (f2 PL (f2 ZV (f2 cJ (fV 6) (fC (.int 1))) (fC (.int 1))) (fV 5)))
   (cC (f2 ZV (aG (c7 (f2 cJ (fV 6) (fC (.int 0))) (c7 (f2 cJ (fO 4) (f2 cJ (fV 6) (fC (.int 0)))) cB))) (f1 UT (fO 8))))))))))
def ZJ:b9:=bB 11 [1,4] VR
def Y4:VS:=
   (XR (RW (fB (f2 oLt (f1 ZB (fO 4)) (fV 2))) (fB (f2 OC (f2 cJ (f2 cJ (fO 4) (f1 IT (fC (.int 1)))) (fC (.int 0))) (fC (.str "number")))))
   (cK (UW 4 TD (c7 (cV 6 [1,4] ZJ (aE (fV 0) (aO 1 (aO 4 (aO 5 (aO 6 (aE (fV 3) cG))))))) cB))
   (XR (fB (f2 (aN true) (f2 cJ (f2 cJ (fO 4) (f1 IT (fC (.int 1)))) (fC (.int 0))) (aG (c7 (fC (.str "store")) (c7 (fC (.str "put")) cB)))))
   (UW 5 TD (c7 (f2 OD (f1 ZB (fO 4)) (fC (.int 1))) cB))
   aH))
   aH)
def XC:VS:=
   (cK (UW 4 TD (c7 (cV 5 [1,3] W3 (aE (fV 0) (aO 1 (aO 5 (aO 6 (aE (fV 3) cG)))))) cB))
   (cK (XR (fB (f2 (aN true) (f2 cJ (f2 cJ (fO 4) (f1 IT (fC (.int 1)))) (fC (.int 0))) (aG (c7 (fC (.str "store")) (c7 (fC (.str "put")) cB)))))
   (UW 5 TD (c7 (f2 OD (f1 ZB (fO 4)) (fC (.int 1))) cB))
   aH)
   (OJ (BU (cV 3 [1] b5 (aE (fV 0) (aO 1 (aE (YN (c7 (fC (.int 0)) (c7 (fC (.int 1)) (c7 (fC (.int 1)) (c7 (fC (.int 2)) (c7 (fC (.int 3)) cB)))))) cG))))) (gN 7)
   Y4)))
def SA:VS:=
   (cK (OK 4 5 6 (xO (YN cB)) (xO (YN cB)) (xO (fC (.dct [] []))))
   (cK (SO (fB (f2 oLt (f1 ZB (fO 4)) (fV 2)))
   XC)
   (cC (f1 UT (fO 4)))))
def X0:b9:=bB 8 [1] SA
def PV:VS:=
   (cK (XR (fB (f2 XH (f2 cJ (fV 0) (fC (.int 0))) (fC (.str "number"))))
   (cC (YN cB))
   aH)
   (cC (F9 (fB (f2 (aN false) (f2 cJ (fV 0) (fC (.int 0))) (aG (c7 (fC (.str "load")) (c7 (fC (.str "take")) (c7 (fC (.str "store")) (c7 (fC (.str "put")) cB))))))) (f1 MJ (GA (fV 0) (GQ (fC (.int 2))) DD)) (f1 MJ (GA (fV 0) (GQ (fC (.int 1))) DD)))))
def Z9:b9:=bB 1 [] PV
def QL:VS:=
   (cK (aC 2 (xV (f2 cJ (f2 cJ (fV 0) (fC (.int 1))) (fV 1))))
   (cK (XR (fB (f2 (aN false) (f2 cJ (fV 2) (fC (.int 0))) (aG (c7 (fC (.str "load")) (c7 (fC (.str "take")) (c7 (fC (.str "store")) (c7 (fC (.str "put")) cB)))))))
   (cC (f2 oGe (f2 cJ (fV 2) (fC (.int 1))) (f2 cJ (fV 0) (fC (.int 0)))))
   aH)
   (cC (TC (f2 XH (f2 cJ (fV 2) (fC (.int 0))) (fC (.str "over"))) (f2 (aN true) (GA (f2 cJ (f2 cJ (fV 0) (fC (.int 1))) (f2 cJ (fV 2) (fC (.int 2)))) DD (GQ (fC (.int 2)))) (ZZ [] 1 (iR2 (fC (.int 1)) (fC (.int 1000))) (gN 0) WY (aG (c7 (fC (.str "number")) (c7 (fV 0) cB)))))))))
def Y0:b9:=bB 3 [] QL
def XA:VS:=
   (cK (aC 7 (xV (ZZ [] 1 (UP (aG (c7 (fV 6) (c7 (fV 4) cB)))) (gN 0) (fB (f2 (aN false) (f2 cJ (fV 0) (fC (.int 0))) (aG (c7 (fC (.str "store")) (c7 (fC (.str "put")) cB))))) (fV 0))))
   (cK (aC 8 (xO (YN (c7 (f2 (aN false) (fV 5) (cV 1 [] Z9 (aE (fV 4) cG))) (c7 (TC (cV 2 [] Y0 (aE (fV 0) (aE (fV 5) cG))) (cV 2 [] Y0 (aE (fV 0) (aE (fV 3) cG)))) cB)))))
   (cK (UW 8 TD (c7 (TC (f2 (aN false) (f2 cJ (fV 6) (fC (.int 0))) (fV 2)) (TC (f2 (aN false) (f2 cJ (fV 4) (fC (.int 0))) (fV 2)) (TC (f2 XH (f2 cJ (fV 6) (fC (.int 1))) (f2 cJ (fV 4) (fC (.int 1)))) (f2 OC (fV 7) (YN cB))))) cB))
   (cK (UW 8 TD (c7 (TC (cV 2 [] Y0 (aE (fV 0) (aE (fV 5) cG))) (f2 (aN false) (f2 cJ (fV 4) (fC (.int 0))) (aG (c7 (fC (.str "store")) (c7 (fC (.str "put")) cB))))) cB))
   (cK (UW 8 TD (c7 (TC (cV 2 [] Y0 (aE (fV 0) (aE (fV 3) cG))) (f2 (aN false) (f2 cJ (fV 6) (fC (.int 0))) (aG (c7 (fC (.str "store")) (c7 (fC (.str "put")) cB))))) cB))
   (XR (fB (f2 (aN false) (fC (.bl true)) (fO 8)))
   (UW 1 TD (c7 (aG (c7 (fV 5) (c7 (fV 3) cB))) cB))
   aH))))))
def XB:VS:=
   (OJ (PX (GA (f2 cJ (fV 0) (fC (.int 1))) DD (GQ (fV 3)))) (NU 2 (b6 (gN 5) (b6 (gN 6) YU)))
   XA)
def R6:VS:=
   (cK (JM 1 2 (xO (YN cB)) (xV (aG (c7 (fC (.str "load")) (c7 (fC (.str "take")) (c7 (fC (.str "store")) (c7 (fC (.str "put")) cB)))))))
   (cK (OJ (PX (f2 cJ (fV 0) (fC (.int 1)))) (NU 2 (b6 (gN 3) (b6 (gN 4) YU)))
   XB)
   (cC (f1 GL (fO 1)))))
def XZ:b9:=bB 9 [] R6
def ZT:VS:=
   (cK (aC 6 (xV (ZZ [3,4] 1 (UP (fO 4)) (gN 2) (fB (f2 XH (ZZ [1,2] 2 (UP (fV 0)) (NU 2 (b6 (gN 2) (b6 (gN 3) YU))) (RW (fB (f2 XH (fV 3) (fV 1))) (fB (f2 (aN false) (fV 2) (fO 0)))) (fC (.int 1))) (YN cB))) (fV 2))))
   (cK (UW 5 TD (c7 (cV 3 [1] b5 (aE (fV 0) (aO 1 (aE (fV 6) cG)))) cB))
   (UW 4 mRem (c7 (f2 cJ (fO 5) (f1 IT (fC (.int 1)))) cB))))
def YD:VS:=
   (cK (OK 3 4 5 (xV (cV 1 [] XZ (aE (fV 2) cG))) (xO (TZ (f1 ZB (f2 cJ (fV 2) (fC (.int 1)))))) (xO (YN cB)))
   (cK (SO (fB (f2 OC (fO 4) (YN cB)))
   ZT)
   (cC (fO 5))))
def aM:b9:=bB 7 [1] YD
def aT:VS:=
   (cK (XR (fB (f2 XH (f2 cJ (fV 0) (fC (.int 0))) (fC (.str "number"))))
   (cC (fV 0))
   aH)
   (cK (aC 2 (xV (F9 (fB (f2 (aN false) (f2 cJ (fV 0) (fC (.int 0))) (aG (c7 (fC (.str "load")) (c7 (fC (.str "take")) (c7 (fC (.str "store")) (c7 (fC (.str "put")) cB))))))) (fC (.int 2)) (fC (.int 1)))))
   (cC (f2 ZV (GA (fV 0) DD (GQ (fV 2))) (f1 UT (ZZ [1] 1 (UP (GA (fV 0) (GQ (fV 2)) DD)) (gN 1) WY (f2 cJ (fV 0) (fV 1))))))))
def cA:b9:=bB 3 [] aT
def WN:VS:=
   (cK (aC 3 (xV (cV 3 [1] b5 (aE (fV 0) (aO 1 (aE (YN (c7 (fC (.int 3)) (c7 (fC (.int 6)) (c7 (fC (.int 9)) (c7 (fC (.int 64)) cB))))) cG))))))
   (cK (aC 4 (xV (cV 3 [1] b5 (aE (fV 0) (aO 1 (aE (YN (c7 (fC (.int 0)) (c7 (fV 3) (c7 (fV 3) (c7 (cV 3 [1] cD (aE (fV 0) (aO 1 (aE (f2 ZV (fV 3) (fC (.int 1))) cG)))) cB))))) cG))))))
   (cK (aC 5 (xV (aG (c7 (fV 4) (c7 (cV 4 [1] X0 (aE (fV 0) (aO 1 (aE (cV 3 [1] cD (aE (fV 0) (aO 1 (aE (f2 ZV (fV 2) (fC (.int 1))) cG)))) (aE (fV 3) cG))))) cB)))))
   (cK (XR (fB (f2 oGt (cV 3 [1] cD (aE (fV 0) (aO 1 (aE (fC (.int 3)) cG)))) (fC (.int 0))))
   (cC (fV 5))
   aH)
   (cK (aC 6 (xV (cV 3 [1] aM (aE (fV 0) (aO 1 (aE (fV 5) cG))))))
   (cK (aC 7 (xV (f1 ES (ZZ [] 2 (PX (fV 6)) (NU 2 (b6 (gN 0) (b6 (gN 1) YU))) WY (aG (c7 (fV 1) (c7 (fV 0) cB)))))))
   (cC (aG (c7 (fV 4) (c7 (f1 UT (ZZ [5,7] 1 (UP (fV 6)) (gN 2) WY (cV 2 [] cA (aE (f2 cJ (f2 cJ (fV 0) (fC (.int 1))) (fV 2)) (aE (fV 1) cG))))) cB))))))))))
def Y5:b9:=bB 8 [1] WN
def UK:VS:=
   (cK (aC 3 (xV (cV 3 [1] b5 (aE (fV 0) (aO 1 (aE (YN (c7 (fV 2) (c7 (f2 oMin (fC (.int 64)) (f2 ZV (fV 2) (cV 3 [1] cD (aE (fV 0) (aO 1 (aE (fC (.int 9)) cG)))))) (c7 (fC (.int 64)) cB)))) cG))))))
   (cK (aC 4 (xV (cV 3 [1] b5 (aE (fV 0) (aO 1 (aE (YN (c7 (fC (.int 2)) (c7 (fC (.int 4)) (c7 (fC (.int 1000)) cB)))) cG))))))
   (cC (ZZ [0,1,4] 1 (BU (fV 3)) (gN 3) WY (cV 3 [1] cD (aE (fV 0) (aO 1 (aE (fV 2) cG))))))))
def YK:b9:=bB 5 [1] UK
def VJ:VS:=
   (cK (aC 5 (xV (GA (cV 3 [1] YK (aE (fV 0) (aO 1 (aE (f2 cJ (fV 2) (fC (.int 0))) cG)))) DD (GQ (F9 (fB (f2 oLt (fV 4) (fC (.int 2)))) (fC (.int 64)) (f2 cJ (fV 2) (fC (.int 0))))))))
   (cK (NE (cV 2 [] LQ (aE (fV 2) (aE (fV 5) cG))) (NU 2 (b6 (gN 6) (b6 (gN 7) YU))))
   (cK (XR (D7 (RW (fB (f2 US (fV 7) (fC .non))) (U7 (fB (f2 cJ (fV 3) (f2 cJ (fV 7) (fC (.int 0))))))) (RW (fB (f2 K6 (fV 7) (fC .non))) (fB (f2 OC (f1 ZB (cV 2 [] V4 (aE (fV 2) (aE (fV 5) cG)))) (f1 ZB (f2 cJ (fV 2) (fC (.int 1))))))))
   (cC (fC (.bl false)))
   aH)
   (XR (RW (fB (f2 (aN true) (fC (.bl true)) (fV 3))) (fB (f2 US (fV 7) (fC .non))))
   (cC (fC (.bl false)))
   aH))))
def zBG:VS:=
   (cK (aC 1 (xO (YN cB)))
   (cK (aC 2 (xV (cV 3 [1] Y5 (aE (fV 0) (aO 1 (aE (fC (.int 16)) cG))))))
   (cK (aC 3 (xV (ZZ [2] 1 (BU (f1 ZB (f2 cJ (fV 2) (fC (.int 1))))) (gN 1) WY (cV 2 [] Y6 (aE (fV 0) (aE (fV 1) cG))))))
   (cK (OJ (BU (fC (.int 4))) (gN 4)
   VJ)
   (cK (aC 8 (xV (ZZ [3] 1 (BU (f1 ZB (fV 3))) (gN 1) (fB (f2 cJ (fV 0) (fV 1))) (fV 1))))
   (cC (f2 XH (ZZ [2] 2 (CZ (fV 8) (GA (fV 8) (GQ (fC (.int 1))) DD)) (NU 2 (b6 (gN 1) (b6 (gN 2) YU))) (fB (f2 (aN true) (aG (c7 (fV 1) (c7 (fV 2) cB))) (cV 1 [] RV (aE (fV 0) cG)))) (fC (.int 1))) (YN cB))))))))
def LP:b9:=bB 9 [] zBG
end L2
namespace RR
open PySem L2
structure Txt(K:An)(mg:Str->Option Value):Prop where
 fnm: ∀x a,Lk K mainGlobals x=some (some (.ref a))->mg x=some (.ref a)
 n_len:mg "len"=none
 n_range:mg "range"=none
 n_min:mg "min"=none
 n_max:mg "max"=none
 WK:mg "list"=none
 n_tuple:mg "tuple"=none
 n_sorted:mg "sorted"=none
 n_isinstance:mg "isinstance"=none
 n_bool:mg "bool"=none
 n_int:mg "int"=none
 n_str:mg "str"=none
 n_enumerate:mg "enumerate"=none
 n_zip:mg "zip"=none
 n_all:mg "all"=none
 n_dict:mg "dict"=none
 v_DEEDS: ∃u v,mg "DEEDS"=some u/\bZ v u/\ ∀N H M,bG K N H M v D9
 v_DEED_PARTS: ∃u v,mg "DEED_PARTS"=some u/\bZ v u/\ ∀N H M,bG K N H M v Q6
 v_MADE: ∃u v,mg "MADE"=some u/\bZ v u/\ ∀N H M,bG K N H M v WG
 v_MOST_CELLS: ∃u v,mg "MOST_CELLS"=some u/\bZ v u/\ ∀N H M,bG K N H M v VL
 v_MOST_PLACE: ∃u v,mg "MOST_PLACE"=some u/\bZ v u/\ ∀N H M,bG K N H M v VM
 v_MOST_ROWS: ∃u v,mg "MOST_ROWS"=some u/\bZ v u/\ ∀N H M,bG K N H M v UF
 v_MOST_SURE: ∃u v,mg "MOST_SURE"=some u/\bZ v u/\ ∀N H M,bG K N H M v UG
 v_MOST_WORD: ∃u v,mg "MOST_WORD"=some u/\bZ v u/\ ∀N H M,bG K N H M v a9
 v_OTHER_PARTS: ∃u v,mg "OTHER_PARTS"=some u/\bZ v u/\ ∀N H M,bG K N H M v SV
 v_READERS: ∃u v,mg "READERS"=some u/\bZ v u/\ ∀N H M,bG K N H M v ZF
 v_WRITERS: ∃u v,mg "WRITERS"=some u/\bZ v u/\ ∀N H M,bG K N H M v bS
section
variable{P:Bn}{w:World}{K:An}{mg:Str->Option Value}{base:Heap}{f:Addr}{fd:Et}
noncomputable abbrev Nx0:List Str:=["thing","low","high"]
abbrev Qx0:List Str:=["thing","low","high"]
theorem zJ3:cS Nx0 Qx0 (c5 (top 8)):=aK
theorem zJY(F:YI K "is_whole" "is_whole" (top 8) f fd) (T:Txt K mg):
  bJ P w K mg base CX0 1 f fd Qx0 (spV K [] 3 bK):=
 XI P w K mg base Nx0 Qx0 0 RZ [] F zJ3 λ_ _ _ _ _ _ hr hu hu1=>by
  refine(c9 ?_ (c8 ?_))
  ·exact(bP (U2 (S9 (ZY (HG T.n_isinstance (vv 0) (vty T.n_bool zDE))) (WM (YO (ZY (HG T.n_isinstance (vv 0) (vty T.n_int zID)))))))
   (c8 (cW XJ))
   cL)
  ·exact(cW (BE IU IU AJ AJ (vv 1) (vv 0) (vv 2)))
abbrev Nx1:List Str:=["a","b"]
abbrev Qx1:List Str:=["a","b"]
theorem zJ2:cS Nx1 Qx1 (c5 (top 9)):=aK
theorem zJX(F:YI K "plus" "plus" (top 9) f fd) (T:Txt K mg):
  bJ P w K mg base CX0 1 f fd Qx1 (spV K [] 2 QA):=
 XI P w K mg base Nx1 Qx1 0 GG [] F zJ2 λ_ _ _ _ _ _ hr hu hu1=>by exact(c8 (cW (ZA WZ UX (aD (YE (K:=K) rfl) ZK (vv 0) (vv 1)) (aD (YE (K:=K) rfl) ZK (a6 (by rfl) T.v_MOST_WORD) dC))))
abbrev Nx2:List Str:=["a","b"]
abbrev Qx2:List Str:=["a","b"]
theorem zJ1:cS Nx2 Qx2 (c5 (top 10)):=aK
theorem zJW(F:YI K "minus" "minus" (top 10) f fd) (T:Txt K mg):
  bJ P w K mg base CX0 1 f fd Qx2 (spV K [] 2 TK):=
 XI P w K mg base Nx2 Qx2 0 KZ [] F zJ1 λ_ _ _ _ _ _ hr hu hu1=>by exact(c8 (cW (ZA WZ UX (ZA UU P5 (vv 0) (vv 1)) (aD (YE (K:=K) rfl) ZK (a6 (by rfl) T.v_MOST_WORD) dC))))
abbrev Nx3:List Str:=["a","b"]
abbrev Qx3:List Str:=["a","b"]
theorem zJ0:cS Nx3 Qx3 (c5 (top 11)):=aK
theorem zJV(F:YI K "times" "times" (top 11) f fd) (T:Txt K mg):
  bJ P w K mg base CX0 1 f fd Qx3 (spV K [] 2 TL):=
 XI P w K mg base Nx3 Qx3 0 K1 [] F zJ0 λ_ _ _ _ _ _ hr hu hu1=>by exact(c8 (cW (ZA WZ UX (aD (N7 (K:=K) rfl) Q7 (vv 0) (vv 1)) (aD (YE (K:=K) rfl) ZK (a6 (by rfl) T.v_MOST_WORD) dC))))
abbrev Nx4:List Str:=["a","b"]
abbrev Qx4:List Str:=["a","b"]
theorem zIZ:cS Nx4 Qx4 (c5 (top 12)):=aK
theorem zJU(F:YI K "least" "least" (top 12) f fd) (T:Txt K mg):
  bJ P w K mg base CX0 1 f fd Qx4 (spV K [] 2 TJ):=
 XI P w K mg base Nx4 Qx4 0 KY [] F zIZ λ_ _ _ _ _ _ hr hu hu1=>by exact(c8 (cW (M3 (QF rfl) AK (by rfl) T.n_min F1 (vv 0) (vv 1))))
abbrev Nx5:List Str:=["a","b"]
abbrev Qx5:List Str:=["a","b"]
theorem zIY:cS Nx5 Qx5 (c5 (top 13)):=aK
theorem zJT(F:YI K "most" "most" (top 13) f fd) (T:Txt K mg):
  bJ P w K mg base CX0 1 f fd Qx5 (spV K [] 2 P8):=
 XI P w K mg base Nx5 Qx5 0 GC [] F zIY λ_ _ _ _ _ _ hr hu hu1=>by exact(c8 (cW (M3 (LZ rfl) zDM (by rfl) T.n_max zBQ (vv 0) (vv 1))))
abbrev Nx6:List Str:=["a","b"]
abbrev Qx6:List Str:=["a","b"]
theorem zIX:cS Nx6 Qx6 (c5 (top 14)):=aK
theorem zJS(F:YI K "less" "less" (top 14) f fd) (T:Txt K mg):
  bJ P w K mg base CX0 1 f fd Qx6 (spV K [] 2 P7):=
 XI P w K mg base Nx6 Qx6 0 GB [] F zIX λ_ _ _ _ _ _ hr hu hu1=>by exact(c8 (cW (VE (b7 ML DO (vv 0) (vv 1) (bH _)) dC dC)))
abbrev Nx7:List Str:=["a","b"]
abbrev Qx7:List Str:=["a","b"]
theorem zIW:cS Nx7 Qx7 (c5 (top 15)):=aK
theorem zJR(F:YI K "over" "over" (top 15) f fd) (T:Txt K mg):
  bJ P w K mg base CX0 1 f fd Qx7 (spV K [] 2 UE):=
 XI P w K mg base Nx7 Qx7 0 K0 [] F zIW λ_ _ _ _ _ _ hr hu hu1=>by exact(c8 (cW (VE (W2 hu (vv 1) dC) ZS (ZA LA G1 (vv 0) (vv 1)))))
abbrev Nx8:List Str:=["c","a","b"]
abbrev Qx8:List Str:=["c","a","b"]
theorem zIV:cS Nx8 Qx8 (c5 (top 16)):=aK
theorem zJQ(F:YI K "pick" "pick" (top 16) f fd) (T:Txt K mg):
  bJ P w K mg base CX0 1 f fd Qx8 (spV K [] 3 P9):=
 XI P w K mg base Nx8 Qx8 0 GF [] F zIV λ_ _ _ _ _ _ hr hu hu1=>by exact(c8 (cW (VE (b7 (N6 (K:=K) rfl hu) OL (vv 0) dC (bH _)) (vv 1) (vv 2))))
noncomputable abbrev Nx9:List Str:=["deed","words","made"]
abbrev Qx9:List Str:=["deed","words"]
theorem zDL:cS Nx9 Qx9 (c5 (top 18)):=aK
theorem zJP(F:YI K "done" "done" (top 18) f fd) (T:Txt K mg) (k6:cM P w K mg base "plus" 1 Qx1 [] QA f_x1) (k5:cM P w K mg base "minus" 1 Qx2 [] TK f_x2) (k4:cM P w K mg base "times" 1 Qx3 [] TL f_x3) (jz:cM P w K mg base "least" 1 Qx4 [] TJ f_x4) (jy:cM P w K mg base "most" 1 Qx5 [] P8 f_x5) (jx:cM P w K mg base "less" 1 Qx6 [] P7 f_x6) (jw:cM P w K mg base "over" 1 Qx7 [] UE f_x7) (jv:cM P w K mg base "pick" 1 Qx8 [] P9 f_x8):
  bJ P w K mg base CX0 2 f fd Qx9 (spV K [] 2 WD):=
 XI P w K mg base Nx9 Qx9 1 KW [] F zDL λ_ _ _ _ _ _ hr hu hu1=>by
  refine(c9 ?_ (c9 ?_ (c8 ?_)))
  ·exact(bP (W2 hu (vv 0) cQ)
   (c8 (cW (b8 jv hr (c6 (cX (Z6 hu1 (vv 1) dC)) (c6 (cX (Z6 hu1 (vv 1) dC)) (c6 (cX (Z6 hu1 (vv 1) dC)) cY))))))
   cL)
  ·exact(bN zDL.nd (aI (cX (Z6 hu1 (a6 (by rfl) T.v_MADE) (vv 0)))))
  ·exact(cW (BC (W1 (K:=K) rfl T.fnm hr k6 (by decide) (W1 (K:=K) rfl T.fnm hr k5 (by decide) (W1 (K:=K) rfl T.fnm hr k4 (by decide) (W1 (K:=K) rfl T.fnm hr jz (by decide) (W1 (K:=K) rfl T.fnm hr jy (by decide) (W1 (K:=K) rfl T.fnm hr jx (by decide) (W1 (K:=K) rfl T.fnm hr jw (by decide) zC3))))))) (pv 2) (c6 (cX (Z6 hu1 (vv 1) dC)) (c6 (cX (Z6 hu1 (vv 1) dC)) cY))))
abbrev Nx10:List Str:=["deed"]
abbrev B7:List Str:=["deed"]
theorem zFE:cS Nx10 B7 (c5 (top 27)):=aK
theorem zHF(F:YI K "parts_of" "parts_of" (top 27) f fd) (T:Txt K mg):
  bJ P w K mg base CX0 1 f fd B7 (spV K [] 1 aU):=
 XI P w K mg base Nx10 B7 0 NY [] F zFE λ_ _ _ _ _ _ hr hu hu1=>by
  refine(c9 ?_ (c8 ?_))
  ·exact (bP (b7 (V9 (K := K) rfl hu) (ZO (neg := false)) (vv 0) (a6 (by rfl) T.v_DEEDS) (by with_unfolding_all rfl))
   (c8 (cW (a6 (by rfl) T.v_DEED_PARTS)))
   cL)
  ·exact(cW (zC1 rfl hu1 (a6 (by rfl) T.v_OTHER_PARTS) (vv 0) ⟨rfl,rfl,rfl,rfl⟩))
abbrev Nx11:List Str:=["row"]
abbrev Qx11:List Str:=["row"]
theorem zFD:cS Nx11 Qx11 (c5 (top 28)):=aK
theorem zHE(F:YI K "makes_word" "makes_word" (top 28) f fd) (T:Txt K mg):
  bJ P w K mg base CX0 1 f fd Qx11 (spV K [] 1 Y1):=
 XI P w K mg base Nx11 Qx11 0 VT [] F zFD λ_ _ _ _ _ _ hr hu hu1=>by exact(c8 (cW (YX (T5 (K:=K) rfl hu) (ZO (neg:=true)) (Z6 hu1 (vv 0) dC) (a6 (by rfl) T.v_WRITERS) (by with_unfolding_all rfl))))
abbrev Nx12:List Str:=["row"]
abbrev FW:List Str:=["row"]
theorem zFC:cS Nx12 FW (c5 (top 29)):=aK
theorem zHD(F:YI K "place_of" "place_of" (top 29) f fd) (T:Txt K mg):
  bJ P w K mg base CX0 1 f fd FW (spV K [] 1 cI):=
 XI P w K mg base Nx12 FW 0 ZX [] F zFC λ_ _ _ _ _ _ hr hu hu1=>by exact(c8 (cW (VE (U2 (S9 (b7 (V9 (K:=K) rfl hu) (ZO (neg:=false)) (Z6 hu1 (vv 0) dC) (a6 (by rfl) T.v_READERS) (by with_unfolding_all rfl)) (WM (b7 (V9 (K:=K) rfl hu) (ZO (neg:=false)) (Z6 hu1 (vv 0) dC) (a6 (by rfl) T.v_WRITERS) (by with_unfolding_all rfl))))) (Z6 hu1 (vv 0) dC) ZS)))
abbrev Nx13:List Str:=["row","deed","rest"]
abbrev B8:List Str:=["row"]
theorem AL:cS Nx13 B8 (c5 (top 30)):=aK
theorem zHC(F:YI K "names_of" "names_of" (top 30) f fd) (T:Txt K mg) (d8:cM P w K mg base "parts_of" 1 B7 [] aU f_x10):
  bJ P w K mg base CX0 2 f fd B8 (spV K [] 1 aJ):=
 XI P w K mg base Nx13 B8 1 NX [] F AL λ_ _ _ _ _ _ hr hu hu1=>by
  refine(c9 ?_ (c8 ?_))
  ·exact(FR (i:=1) (j:=2) rfl rfl AL.nd rfl rfl (by decide) (Lw rfl) (Lw rfl) (vv 0))
  ·exact(cW (bL (Z2 ["part","given"] [] 2 (HF rfl (by rfl) T.n_zip (cX (b8 d8 hr (c6 (vv 1) cY))) (vv 2)) (λhn _ _ _ _=>⟨(YY (K:=K) rfl rfl (cF (cP hn) (cF (cP hn) ZU))),(SQ (W2 hu (vv 0) cQ)),(vv 1)⟩))))
abbrev Nx14:List Str:=["thing","able"]
abbrev Qx14:List Str:=["thing","able"]
theorem zFB:cS Nx14 Qx14 (c5 (top 31)):=aK
theorem zHB(F:YI K "may_name" "may_name" (top 31) f fd) (T:Txt K mg) (bo:cM P w K mg base "is_whole" 1 Qx0 [] bK f_x0):
  bJ P w K mg base CX0 2 f fd Qx14 (spV K [] 2 X1):=
 XI P w K mg base Nx14 Qx14 1 SD [] F zFB λ_ _ _ _ _ _ hr hu hu1=>by exact(c8 (cW (X9 (b8 bo hr (c6 (vv 0) (c6 dC (c6 (cX (ZA UU P5 (YB T.n_len (vv 1)) dC)) cY)))) (YA (Z6 hu1 (vv 1) (vv 0))))))
abbrev Nx15:List Str:=["part","thing","able"]
abbrev Qx15:List Str:=["part","thing","able"]
theorem zFA:cS Nx15 Qx15 (c5 (top 32)):=aK
theorem zHA(F:YI K "fits" "fits" (top 32) f fd) (T:Txt K mg) (bo:cM P w K mg base "is_whole" 1 Qx0 [] bK f_x0) (io:cM P w K mg base "may_name" 2 Qx14 [] X1 f_x14):
  bJ P w K mg base CX0 3 f fd Qx15 (spV K [] 3 WE):=
 XI P w K mg base Nx15 Qx15 2 NV [] F zFA λ_ _ _ _ _ _ hr hu hu1=>by
  refine(c9 ?_ (c9 ?_ (c8 ?_)))
  ·exact(bP (W2 hu (vv 0) cQ)
   (c8 (cW (b8 bo hr (c6 (vv 1) (c6 dC (c6 (cX (a6 (by rfl) T.v_MOST_WORD)) cY))))))
   cL)
  ·exact(bP (W2 hu (vv 0) cQ)
   (c8 (cW (b8 bo hr (c6 (vv 1) (c6 dC (c6 (cX (a6 (by rfl) T.v_MOST_PLACE)) cY))))))
   cL)
  ·exact(cW (b8 io hr (c6 (vv 1) (c6 (vv 2) cY))))
noncomputable abbrev Nx16:List Str:=["thing","able","deed","rest","parts"]
abbrev Qx16:List Str:=["thing","able"]
theorem G2:cS Nx16 Qx16 (c5 (top 33)):=aK
theorem zH9(F:YI K "is_row" "is_row" (top 33) f fd) (T:Txt K mg) (d8:cM P w K mg base "parts_of" 1 B7 [] aU f_x10) (im:cM P w K mg base "fits" 3 Qx15 [] WE f_x15):
  bJ P w K mg base CX0 4 f fd Qx16 (spV K [] 2 V2):=
 XI P w K mg base Nx16 Qx16 3 NW [] F G2 λ_ _ _ _ _ _ hr hu hu1=>by
  refine(c9 ?_ (c9 ?_ (c9 ?_ (c9 ?_ (c8 ?_)))))
  ·exact(bP (U2 (S9 (YO (ZY (HG T.n_isinstance (vv 0) (vty T.n_tuple XU)))) (WM (W2 hu (YB T.n_len (vv 0)) dC))))
   (c8 (cW XJ))
   cL)
  ·exact (FR (i := 2) (j := 3) rfl rfl G2.nd rfl rfl (by decide) (Lw rfl) (Lw rfl) (vv 0))
  ·exact(bN G2.nd (aI (cX (VE (ZY (HG T.n_isinstance (vv 2) (vty T.n_str zIB))) (b8 d8 hr (c6 (vv 2) cY)) ZS))))
  ·exact(bP (U2 (S9 (b7 GO AI (vv 4) ZS (bH _)) (WM (b7 (N6 (K:=K) rfl hu) OL (YB T.n_len (vv 4)) (YB T.n_len (vv 3)) (bH _)))))
   (c8 (cW XJ))
   cL)
  ·exact(cW (BA (kAll (K:=K) rfl rfl) zDN (by rfl) T.n_all zBR (bL (Z2 ["able","part","given"] [1] 2 (HF rfl (by rfl) T.n_zip (vv 4) (vv 3)) (λhn _ _ _ _=>⟨(YY (K:=K) rfl rfl (cF (cP hn) (cF (cP hn) ZU))),XS,(cX (b8 im hr (c6 (vv 1) (c6 (vv 2) (c6 (vv 0) cY)))))⟩)))))
noncomputable abbrev Nx17:List Str:=["thing","sure","rows","able","row"]
abbrev FX:List Str:=["thing"]
theorem ON:cS Nx17 FX (c5 (top 34)):=aK
theorem zH8(F:YI K "is_block" "is_block" (top 34) f fd) (T:Txt K mg) (bo:cM P w K mg base "is_whole" 1 Qx0 [] bK f_x0) (ip:cM P w K mg base "makes_word" 1 Qx11 [] Y1 f_x11) (il:cM P w K mg base "is_row" 4 Qx16 [] V2 f_x16):
  bJ P w K mg base CX0 5 f fd FX (spV K [] 1 ZW):=
 XI P w K mg base Nx17 FX 4 RX [] F ON λ_ _ _ _ _ _ hr hu hu1=>by
  refine(c9 ?_ (c9 ?_ (c9 ?_ (c9 ?_ (c9 ?_ (c9 ?_ (c8 ?_)))))))
  ·exact(bP (U2 (S9 (YO (ZY (HG T.n_isinstance (vv 0) (vty T.n_tuple XU)))) (WM (b7 (N6 (K:=K) rfl hu) OL (YB T.n_len (vv 0)) dC (bH _)))))
   (c8 (cW XJ))
   cL)
  ·exact(SR (vv 0) (YY (K:=K) rfl rfl (cF (cP ON.nd) (cF (cP ON.nd) ZU))))
  ·exact (bP (YO (ZY (b8 bo hr (c6 (vv 1) (c6 dC (c6 (cX (a6 (by rfl) T.v_MOST_SURE)) cY))))))
   (c8 (cW XJ))
   cL)
  ·exact (bP (U2 (S9 (YO (ZY (HG T.n_isinstance (vv 2) (vty T.n_tuple XU)))) (WM (b7 zDY s_gt (YB T.n_len (vv 2)) (a6 (by rfl) T.v_MOST_ROWS) (bH _)))))
   (c8 (cW XJ))
   cL)
  ·exact(bN ON.nd (VH (aL (cE cT))))
  ·exact(U0 Ea rfl (V0 rfl (vv 2)) (cP ON.nd)
   (c9 (bP (YO (ZY (b8 il hr (c6 (vv 4) (bM (pv 3) cY)))))
   (c8 (cW XJ))
   cL)
   (c8 (YH (K:=K) rfl Bj Bk aW X7 (pv 3) (cE (dD (b8 ip hr (c6 (vv 4) cY)) cT))))))
  ·exact(cW XJ)
abbrev Nx18:List Str:=["block","row","rows"]
abbrev Qx18:List Str:=["block","row"]
theorem AM:cS Nx18 Qx18 (c5 (top 35)):=aK
theorem zH7(F:YI K "row_at" "row_at" (top 35) f fd) (T:Txt K mg) (bo:cM P w K mg base "is_whole" 1 Qx0 [] bK f_x0) (cb:cM P w K mg base "is_block" 5 FX [] ZW f_x17):
  bJ P w K mg base CX0 6 f fd Qx18 (spV K [] 2 V3):=
 XI P w K mg base Nx18 Qx18 5 NZ [] F AM λ_ _ _ _ _ _ hr hu hu1=>by
  refine(c9 ?_ (c9 ?_ (c9 ?_ (c8 ?_))))
  ·exact(bP (YO (ZY (b8 cb hr (c6 (vv 0) cY))))
   (c8 U1)
   cL)
  ·exact(bN AM.nd (aI (cX (Z6 hu1 (vv 0) dC))))
  ·exact(bP (YO (ZY (b8 bo hr (c6 (vv 1) (c6 dC (c6 (cX (ZA UU P5 (YB T.n_len (vv 2)) dC)) cY))))))
   (c8 U1)
   cL)
  ·exact(cW (Z6 hu1 (vv 2) (vv 1)))
abbrev Nx19:List Str:=["row"]
abbrev B9:List Str:=["row"]
theorem zF9:cS Nx19 B9 (c5 (top 37)):=aK
theorem zH6(F:YI K "writes" "writes" (top 37) f fd) (T:Txt K mg):
  bJ P w K mg base CX0 1 f fd B9 (spV K [] 1 YS):=
 XI P w K mg base Nx19 B9 0 N3 [] F zF9 λ_ _ _ _ _ _ hr hu hu1=>by exact(c8 (cW (YX (V9 (K:=K) rfl hu) (ZO (neg:=false)) (Z6 hu1 (vv 0) dC) (a6 (by rfl) T.v_WRITERS) (by with_unfolding_all rfl))))
abbrev Nx20:List Str:=["row"]
abbrev Qx20:List Str:=["row"]
theorem zF8:cS Nx20 Qx20 (c5 (top 38)):=aK
theorem zH5(F:YI K "is_safe_number" "is_safe_number" (top 38) f fd) (T:Txt K mg):
  bJ P w K mg base CX0 1 f fd Qx20 (spV K [] 1 Z7):=
 XI P w K mg base Nx20 Qx20 0 X6 [] F zF8 λ_ _ _ _ _ _ hr hu hu1=>by exact(c8 (cW (X9 (veq hu (Z6 hu1 (vv 0) dC) cQ) (YA (YX (N6 (K:=K) rfl hu) OL (Z6 hu1 (vv 0) dC) dC (bH _))))))
noncomputable abbrev Nx21:List Str:=["block","at","sure","rows","row","place"]
abbrev CA:List Str:=["block","at"]
theorem OO:cS Nx21 CA (c5 (top 39)):=aK
theorem zH4(F:YI K "can_fault" "can_fault" (top 39) f fd) (T:Txt K mg) (bn:cM P w K mg base "place_of" 1 FW [] cI f_x12) (ij:cM P w K mg base "is_safe_number" 1 Qx20 [] Z7 f_x20):
  bJ P w K mg base CX0 2 f fd CA (spV K [] 2 aP):=
 XI P w K mg base Nx21 CA 1 UI [] F OO λ_ _ _ _ _ _ hr hu hu1=>by
  refine(c9 ?_ (c9 ?_ (c9 ?_ (c9 ?_ (c8 ?_)))))
  ·exact(SR (vv 0) (YY (K:=K) rfl rfl (cF (cP OO.nd) (cF (cP OO.nd) ZU))))
  ·exact(bN OO.nd (aI (cX (Z6 hu1 (vv 3) (vv 1)))))
  ·exact(bP (W2 hu (Z6 hu1 (vv 4) dC) cQ)
   (c8 (cW (zEK (b8 ij hr (c6 (cX (Z6 hu1 (vv 3) (Z6 hu1 (vv 4) dC))) cY)))))
   cL)
  ·exact(bN OO.nd (aI (cX (b8 bn hr (c6 (vv 4) cY)))))
  ·exact(cW (X9 (YX RJ OM (vv 5) ZS (bH _)) (YA (YX zAO s_ge (vv 5) (vv 2) (bH _)))))
abbrev Nx22:List Str:=["row","other"]
abbrev Qx22:List Str:=["row","other"]
theorem zF7:cS Nx22 Qx22 (c5 (top 40)):=aK
theorem zH3(F:YI K "share_written_cell" "share_written_cell" (top 40) f fd) (T:Txt K mg) (bn:cM P w K mg base "place_of" 1 FW [] cI f_x12) (ci:cM P w K mg base "writes" 1 B9 [] YS f_x19):
  bJ P w K mg base CX0 2 f fd Qx22 (spV K [] 2 bF):=
 XI P w K mg base Nx22 Qx22 1 Y8 [] F zF7 λ_ _ _ _ _ _ hr hu hu1=>by exact(c8 (cW (X9 (veq hu (b8 bn hr (c6 (vv 0) cY)) (b8 bn hr (c6 (vv 1) cY))) (YA (zDJ (b8 ci hr (c6 (vv 0) cY)) (YA (b8 ci hr (c6 (vv 1) cY))))))))
noncomputable abbrev Nx23:List Str:=["block","first","second","rows","first_faults","second_faults"]
abbrev Qx23:List Str:=["block","first","second"]
theorem G3:cS Nx23 Qx23 (c5 (top 41)):=aK
theorem zH2(F:YI K "must_stay" "must_stay" (top 41) f fd) (T:Txt K mg) (d7:cM P w K mg base "names_of" 2 B8 [] aJ f_x13) (ci:cM P w K mg base "writes" 1 B9 [] YS f_x19) (cv:cM P w K mg base "can_fault" 2 CA [] aP f_x21) (ii:cM P w K mg base "share_written_cell" 2 Qx22 [] bF f_x22):
  bJ P w K mg base CX0 3 f fd Qx23 (spV K [] 3 ZN):=
 XI P w K mg base Nx23 Qx23 2 UO [] F G3 λ_ _ _ _ _ _ hr hu hu1=>by
  refine(c9 ?_ (c9 ?_ (c9 ?_ (c9 ?_ (c8 ?_)))))
  ·exact(bN G3.nd (aI (cX (Z6 hu1 (vv 0) dC))))
  ·exact (bP (U2 (S9 (b7 (V9 (K := K) rfl hu) (ZO (neg := false)) (vv 1) (b8 d7 hr (c6 (cX (Z6 hu1 (vv 3) (vv 2))) cY)) (by with_unfolding_all rfl)) (WM (ZY (b8 ii hr (c6 (cX (Z6 hu1 (vv 3) (vv 1))) (c6 (cX (Z6 hu1 (vv 3) (vv 2))) cY)))))))
   (c8 (cW XJ))
   cL)
  ·exact (FQ (i := 4) (j := 5) rfl G3.nd rfl rfl (by decide) rfl rfl (aI (cX (b8 cv hr (c6 (vv 0) (c6 (vv 1) cY))))) (aI (cX (b8 cv hr (c6 (vv 0) (c6 (vv 2) cY))))) rfl)
  ·exact(bP (U2 (SS (ZY (vv 4)) (V1 (ZY (vv 5)))))
   (c8 (cW XJ))
   cL)
  ·exact(cW (zDJ (X9 (vv 4) (YA (b8 ci hr (c6 (cX (Z6 hu1 (vv 3) (vv 2))) cY)))) (YA (X9 (vv 5) (YA (b8 ci hr (c6 (cX (Z6 hu1 (vv 3) (vv 1))) cY)))))))
noncomputable abbrev Nx24:List Str:=["block","many","pairs"]
abbrev Qx24:List Str:=["block"]
theorem G4:cS Nx24 Qx24 (c5 (top 42)):=aK
theorem zH1(F:YI K "must_pairs" "must_pairs" (top 42) f fd) (T:Txt K mg) (ig:cM P w K mg base "must_stay" 3 Qx23 [] ZN f_x23):
  bJ P w K mg base CX0 4 f fd Qx24 (spV K [] 1 Y2):=
 XI P w K mg base Nx24 Qx24 3 VU [] F G4 λ_ _ _ _ _ _ hr hu hu1=>by
  refine(c9 ?_ (c9 ?_ (c8 ?_)))
  ·exact(bN G4.nd (aI (cX (YB T.n_len (Z6 hu1 (vv 0) dC)))))
  ·exact(BK (i:=2) false G4.nd rfl rfl (N':=["many","first","second"]) (ix:=[1]) (nl:=2) rfl rfl (by rfl) rfl (by decide) (YM (by rfl) T.n_range (vv 1)) (λcl s1 H1 fp=>⟨(cP (show(["many","first","second"]:List Str).Nodup by decide+kernel)),XS,(M4 (by rfl) T.n_range (aD (YE (K:=K) rfl) ZK (vv 1) dC) (vv 0)),(cP (show(["many","first","second"]:List Str).Nodup by decide+kernel)),XS,(cX (bY (dD (vv 1) (dD (vv 2) cT))))⟩))
  ·exact(cW (bL (Z2 ["block","first","second"] [0] 2 (V0 rfl (vv 2)) (λhn _ _ _ _=>⟨(YY (K:=K) rfl rfl (cF (cP hn) (cF (cP hn) ZU))),(SQ (ZY (b8 ig hr (c6 (vv 0) (c6 (vv 1) (c6 (vv 2) cY)))))),(cX (bY (dD (vv 1) (dD (vv 2) cT))))⟩))))
abbrev Nx25:List Str:=["block","row"]
abbrev Qx25:List Str:=["block","row"]
theorem zF6:cS Nx25 Qx25 (c5 (top 43)):=aK
theorem zH0(F:YI K "may_fault" "may_fault" (top 43) f fd) (T:Txt K mg) (ik:cM P w K mg base "row_at" 6 Qx18 [] V3 f_x18) (cv:cM P w K mg base "can_fault" 2 CA [] aP f_x21):
  bJ P w K mg base CX0 7 f fd Qx25 (spV K [] 2 Y6):=
 XI P w K mg base Nx25 Qx25 6 UN [] F zF6 λ_ _ _ _ _ _ hr hu hu1=>by
  refine(c9 ?_ (c8 ?_))
  ·exact(LN (b8 ik hr (c6 (vv 0) (c6 (vv 1) cY))))
  ·exact(cW (b8 cv hr (c6 (vv 0) (c6 (vv 1) cY))))
abbrev Nx26:List Str:=["block"]
abbrev Qx26:List Str:=["block"]
theorem zF5:cS Nx26 Qx26 (c5 (top 44)):=aK
theorem zGZ(F:YI K "must" "must" (top 44) f fd) (T:Txt K mg) (cb:cM P w K mg base "is_block" 5 FX [] ZW f_x17) (i9:cM P w K mg base "must_pairs" 4 Qx24 [] Y2 f_x24):
  bJ P w K mg base CX0 6 f fd Qx26 (spV K [] 1 RV):=
 XI P w K mg base Nx26 Qx26 5 GD [] F zF5 λ_ _ _ _ _ _ hr hu hu1=>by
  refine(c9 ?_ (c8 ?_))
  ·exact(bP (YO (ZY (b8 cb hr (c6 (vv 0) cY))))
   (c8 U1)
   cL)
  ·exact(cW (b8 i9 hr (c6 (vv 0) cY)))
abbrev Nx27:List Str:=["thing","sure"]
abbrev Qx27:List Str:=["thing","sure"]
theorem zF4:cS Nx27 Qx27 (c5 (top 47)):=aK
theorem zGY(F:YI K "is_cells" "is_cells" (top 47) f fd) (T:Txt K mg) (bo:cM P w K mg base "is_whole" 1 Qx0 [] bK f_x0):
  bJ P w K mg base CX0 2 f fd Qx27 (spV K [] 2 XY):=
 XI P w K mg base Nx27 Qx27 1 RY [] F zF4 λ_ _ _ _ _ _ hr hu hu1=>by
  refine(c9 ?_ (c8 ?_))
  ·exact (bP (U2 (S9 (YO (ZY (HG T.n_isinstance (vv 0) (vty T.WK TR)))) (WM (YO (JZ IU IU AJ AJ (vv 1) (YB T.n_len (vv 0)) (a6 (by rfl) T.v_MOST_CELLS))))))
   (c8 (cW XJ))
   cL)
  ·exact(cW (BA (kAll (K:=K) rfl rfl) zDN (by rfl) T.n_all zBR (bL (Z2 ["word"] [] 1 (V0 rfl (vv 0)) (λhn _ _ _ _=>⟨(cP hn),XS,(cX (b8 bo hr (c6 (vv 0) (c6 dC (c6 (cX (a6 (by rfl) T.v_MOST_WORD)) cY)))))⟩)))))
abbrev Nx28:List Str:=["deed","words"]
abbrev Qx28:List Str:=["deed","words"]
theorem zF3:cS Nx28 Qx28 (c5 (top 48)):=aK
theorem zGX(F:YI K "touches" "touches" (top 48) f fd) (T:Txt K mg):
  bJ P w K mg base CX0 1 f fd Qx28 (spV K [] 2 ZE):=
 XI P w K mg base Nx28 Qx28 0 T3 [] F zF3 λ_ _ _ _ _ _ hr hu hu1=>by
  refine(c9 ?_ (c9 ?_ (c8 ?_)))
  ·exact(bP (W2 hu (vv 0) cQ)
   (c8 (cW (YX (N6 (K:=K) rfl hu) OL (Z6 hu1 (vv 1) dC) dC (bH _))))
   cL)
  ·exact(bP (W2 hu (vv 0) cQ)
   (c8 (cW (YX (N6 (K:=K) rfl hu) OL (Z6 hu1 (vv 1) dC) dC (bH _))))
   cL)
  ·exact(cW XJ)
noncomputable abbrev Nx29:List Str:=["deed","place","words","cells"]
abbrev Qx29:List Str:=["deed","place","words","cells"]
theorem zF2:cS Nx29 Qx29 (c5 (top 49)):=aK
theorem zGW(F:YI K "do_on_cell" "do_on_cell" (top 49) f fd) (T:Txt K mg) (i5:cM P w K mg base "touches" 1 Qx28 [] ZE f_x28):
  bJ P w K mg base CX0 2 f fd Qx29 (spV K [3] 4 bU):=
 XI P w K mg base Nx29 Qx29 1 bI [3] F zF2 λ_ _ _ _ _ _ hr hu hu1=>by
  refine(c9 ?_ (c9 ?_ (c9 ?_ (c8 ?_))))
  ·exact(bP (YO (ZY (b8 i5 hr (c6 (vv 0) (c6 (vv 2) cY)))))
   (c8 (cW (bY (dD (VE (W2 hu (vv 0) cQ) (Z6 hu1 (vv 2) dC) ZS) (dD ZS cT)))))
   cL)
  ·exact(bP (b7 zAO s_ge (vv 1) (YB T.n_len (vo 3)) (bH _))
   (c8 (cW (bY (dD ZS (dD cQ cT)))))
   cL)
  ·exact (bP (b7 (V9 (K := K) rfl hu) (ZO (neg := false)) (vv 0) (a6 (by rfl) T.v_WRITERS) (by with_unfolding_all rfl))
   (c9 (zEG rfl (pv 3) (vv 1) (cX (Z6 hu1 (vv 2) dC)))
   (c8 (cW (bY (dD ZS (dD ZS cT))))))
   cL)
  ·exact(cW (bY (dD (Z6 hu1 (vo 3) (vv 1)) (dD ZS cT))))
noncomputable abbrev Nx30:List Str:=["row","words","cells","shift","deed","place","word"]
abbrev J9:List Str:=["row","words","cells","shift"]
theorem LH:cS Nx30 J9 (c5 (top 50)):=aK
theorem zAP{Td:Addr}(F:FU K "do_row" "do_row" (top 50) (.ref Td) f fd) (T:Txt K mg) (j6:cM P w K mg base "done" 2 Qx9 [] WD f_x9) (bn:cM P w K mg base "place_of" 1 FW [] cI f_x12) (f9:cM P w K mg base "do_on_cell" 2 Qx29 [3] bU f_x29):
  bJ P w K mg base CX0 3 f fd J9 (spV K [2] 4 ZP):=
 FU.okV (P:=P) (w:=w) (mg:=mg) (base:=base) (K:=K) (N:=Nx30) (ps:=J9) (k:=2) (g:=V7) (ml:=[2]) F LH (by decide) λcdv A outer s H E hr=>by
  have hu:=hr.units
  have hu1:=zE8 hr
  refine(c9 ?_ (c9 ?_ (c9 ?_ (c9 ?_ (c9 ?_ (c8 ?_))))))
  ·exact(bN LH.nd (aI (cX (Z6 hu1 (vv 0) dC))))
  ·exact(bP (W2 hu (vv 4) cQ)
   (c8 (cW (bY (dD (Z6 hu1 (vv 0) dC) (dD ZS cT)))))
   cL)
  ·exact(bN LH.nd (aI (cX (b8 bn hr (c6 (vv 0) cY)))))
  ·exact(bP (b7 RJ OM (vv 5) ZS (bH _))
   (c8 (cW (b8 f9 hr (c6 (vv 4) (c6 (cX (aD (YE (K:=K) rfl) ZK (vv 5) (vv 3))) (c6 (vv 1) (bM (pv 2) cY)))))))
   cL)
  ·exact(bN LH.nd (aI (cX (b8 j6 hr (c6 (vv 4) (c6 (vv 1) cY))))))
  ·exact(cW (bY (dD (vv 6) (dD (VE (b7 GO AI (vv 6) ZS (bH _)) cQ ZS) cT))))
noncomputable abbrev Nx31:List Str:=["rows","cells","words","at","row","word","why"]
abbrev CB:List Str:=["rows","cells"]
theorem QU:cS Nx31 CB (c5 (top 51)):=aK
theorem zGV(F:YI K "do_rows" "do_rows" (top 51) f fd) (T:Txt K mg) (d7:cM P w K mg base "names_of" 2 B8 [] aJ f_x13) (je:cM P w K mg base "do_row" 3 J9 [2] ZP f_x30) (en:DefD P w K mg base "do_row" 3 J9 (spV K [2] 4 ZP) f_x30 (.int 0)):
  bJ P w K mg base CX0 4 f fd CB (spV K [1] 2 YZ):=
 XI P w K mg base Nx31 CB 3 T0 [1] F QU λ_ _ _ _ _ _ hr hu hu1=>by
  refine(c9 ?_ (c9 ?_ (c8 ?_)))
  ·exact(bN QU.nd (VH (aL (cE cT))))
  ·exact (U0 Ea rfl (PC rfl (by rfl) T.n_enumerate (vv 0)) (YY (K := K) rfl rfl (cF (cP QU.nd) (cF (cP QU.nd) ZU)))
   (c9 (SR (cX (BB (K:=K) (v:=(.int 0)) (d:=(.int 0)) rfl en (λ_ _ _=>(.int _)) (λ_=>nofun) hr (by decide) (by rfl) (c6 (vv 4) (c6 (bL (Z2 ["words","name"] [2] 1 (V0 rfl (cX (b8 d7 hr (c6 (vv 4) cY)))) (λhn _ _ _ _=>⟨(cP hn),XS,(cX (Z6 hu1 (vo 0) (vv 1)))⟩))) (bM (pv 1) cY))))) (YY (K:=K) rfl rfl (cF (cP QU.nd) (cF (cP QU.nd) ZU))))
   (c9 (bP (b7 RJ OM (vv 6) ZS (bH _))
   (c8 (cW (bY (OS (pv 2) (dD (bY (dD (vv 3) (dD (vv 6) cT))) cT)))))
   cL)
   (c8 (YH (K:=K) rfl Bj Bk aW X7 (pv 2) (cE (dD (vv 5) cT)))))))
  ·exact(cW (bY (OS (pv 2) (dD ZS cT))))
abbrev Nx32:List Str:=["block","cells"]
abbrev CC:List Str:=["block","cells"]
theorem zF1:cS Nx32 CC (c5 (top 52)):=aK
theorem zGU(F:YI K "check_run" "check_run" (top 52) f fd) (T:Txt K mg) (cb:cM P w K mg base "is_block" 5 FX [] ZW f_x17) (i6:cM P w K mg base "is_cells" 2 Qx27 [] XY f_x27):
  bJ P w K mg base CX0 6 f fd CC (spV K [] 2 ZM):=
 XI P w K mg base Nx32 CC 5 UJ [] F zF1 λ_ _ _ _ _ _ hr hu hu1=>by
  refine(c9 ?_ (c8 ?_))
  ·exact(bP (YO (ZY (b8 cb hr (c6 (vv 0) cY))))
   (c8 U1)
   cL)
  ·exact(bP (YO (ZY (b8 i6 hr (c6 (vv 1) (c6 (cX (Z6 hu1 (vv 0) dC)) cY)))))
   (c8 U1)
   cL)
noncomputable abbrev Nx33:List Str:=["block","cells","then","words","fault"]
abbrev Qx33:List Str:=["block","cells"]
theorem LI:cS Nx33 Qx33 (c5 (top 53)):=aK
theorem zGT(F:YI K "run" "run" (top 53) f fd) (T:Txt K mg) (cz:cM P w K mg base "do_rows" 4 CB [1] YZ f_x31) (cy:cM P w K mg base "check_run" 6 CC [] ZM f_x32):
  bJ P w K mg base CX0 7 f fd Qx33 (spV K [] 2 LQ):=
 XI P w K mg base Nx33 Qx33 6 zBF [] F LI λ_ _ _ _ _ _ hr hu hu1=>by
  refine(c9 ?_ (c9 ?_ (c9 ?_ (c8 ?_))))
  ·exact(LN (b8 cy hr (c6 (vv 0) (c6 (vv 1) cY))))
  ·exact(bN LI.nd (VH (BI (K5 (K:=K) rfl) WK (by rfl) T.WK TR (vv 1))))
  ·exact(SR (cX (b8 cz hr (c6 (cX (Z6 hu1 (vv 0) dC)) (bM (pv 2) cY)))) (YY (K:=K) rfl rfl (cF (cP LI.nd) (cF (cP LI.nd) ZU))))
  ·exact(cW (bY (OS (pv 2) (dD (vv 4) cT))))
abbrev Nx34:List Str:=["block","cells","words","fault"]
abbrev Qx34:List Str:=["block","cells"]
theorem G5:cS Nx34 Qx34 (c5 (top 54)):=aK
theorem zGS(F:YI K "values" "values" (top 54) f fd) (T:Txt K mg) (cz:cM P w K mg base "do_rows" 4 CB [1] YZ f_x31) (cy:cM P w K mg base "check_run" 6 CC [] ZM f_x32):
  bJ P w K mg base CX0 7 f fd Qx34 (spV K [] 2 V4):=
 XI P w K mg base Nx34 Qx34 6 N0 [] F G5 λ_ _ _ _ _ _ hr hu hu1=>by
  refine(c9 ?_ (c9 ?_ (c8 ?_)))
  ·exact(LN (b8 cy hr (c6 (vv 0) (c6 (vv 1) cY))))
  ·exact(SR (cX (BD (K:=K) (i:=1) (mF:=[]) rfl cz (by decide) hr (by decide) (by rfl) (zIL (cX (Z6 hu1 (vv 0) dC)) (zC0 rfl (by rfl) T.WK TR (vv 1))))) (YY (K:=K) rfl rfl (cF (cP G5.nd) (cF (cP G5.nd) ZU))))
  ·exact(cW (vv 2))
noncomputable abbrev Nx35:List Str:=["_law_script","_law_k","_law_rest","_law_again"]
abbrev Qx35:List Str:=["_law_script","_law_k"]
theorem LJ:cS Nx35 Qx35 (c5 (top 56)):=aK
theorem zGR(F:YI K "_law_cell_at" "_law_cell_at" (top 56) f fd) (T:Txt K mg):
  bJ P w K mg base CX0 1 f fd Qx35 (spV K [] 2 Z8):=
 XI P w K mg base Nx35 Qx35 0 WI [] F LJ λ_ _ _ _ _ _ hr hu hu1=>by
  refine(c9 ?_ (c9 ?_ (c9 ?_ (c9 ?_ (c8 ?_)))))
  ·exact(bP (b7 ML DO (vv 1) (YB T.n_len (vv 0)) (bH _))
   (c8 (cW (Z6 hu1 (vv 0) (vv 1))))
   cL)
  ·exact(bP (W2 hu (vv 0) (bL (aL (cE cT))))
   (c8 (cW dC))
   cL)
  ·exact(bN LJ.nd (aI (cX (Z6 hu1 (vv 0) (ZA WZ UX (vv 1) (YB T.n_len (vv 0)))))))
  ·exact (U0 Ea rfl (YM (by rfl) T.n_range (M3 (QF rfl) AK (by rfl) T.n_min F1 (ZA LA G1 (vv 1) (YB T.n_len (vv 0))) dC)) (cP LJ.nd)
   (c8 (bN LJ.nd (aI (cX (ZA LA G1 (vv 2) dC))))))
  ·exact(cW (aD (YE (K:=K) rfl) ZK (aD (YE (K:=K) rfl) ZK (aD (N7 (K:=K) rfl) Q7 (Z6 hu1 (vv 0) (ZA WZ UX (vv 1) (YB T.n_len (vv 0)))) dC) (vv 1)) (aD (N7 (K:=K) rfl) Q7 (vv 2) dC)))
noncomputable abbrev Nx36:List Str:=["_law_script","_law_k","_law_bound","_law_drawn"]
abbrev Qx36:List Str:=["_law_script","_law_k","_law_bound"]
theorem AN:cS Nx36 Qx36 (c5 (top 57)):=aK
theorem zGQ(F:YI K "_law_mixed" "_law_mixed" (top 57) f fd) (T:Txt K mg) (gy:cM P w K mg base "_law_cell_at" 1 Qx35 [] Z8 f_x35):
  bJ P w K mg base CX0 2 f fd Qx36 (spV K [] 3 YL):=
 XI P w K mg base Nx36 Qx36 1 UL [] F AN λ_ _ _ _ _ _ hr hu hu1=>by
  refine(c9 ?_ (c8 ?_))
  ·exact(bN AN.nd (aI (cX (ZA WZ UX (aD (YE (K:=K) rfl) ZK (aD (YE (K:=K) rfl) ZK (aD (N7 (K:=K) rfl) Q7 (b8 gy hr (c6 (vv 0) (c6 (vv 1) cY))) dC) (aD (N7 (K:=K) rfl) Q7 dC (vv 1))) dC) dC))))
  ·exact(cW (ZA WZ UX (ZA WZ UX (ZA WZ UX (ZA zG7 zJ4 (vv 3) dC) dC) dC) (vv 2)))
abbrev Nx37:List Str:=["_law_script","_law_town","_law_bound"]
abbrev KA:List Str:=["_law_script","_law_town","_law_bound"]
theorem zF0:cS Nx37 KA (c5 (top 58)):=aK
theorem zGP(F:YI K "_law_draw" "_law_draw" (top 58) f fd) (T:Txt K mg) (gx:cM P w K mg base "_law_mixed" 2 Qx36 [] YL f_x36):
  bJ P w K mg base CX0 3 f fd KA (spV K [1] 3 cD):=
 XI P w K mg base Nx37 KA 2 R0 [1] F zF0 λ_ _ _ _ _ _ hr hu hu1=>by
  refine(c9 ?_ (c8 ?_))
  ·exact(YH (K:=K) rfl Bj Bk aW X7 (pv 1) (cE (dD dC cT)))
  ·exact(cW (b8 gx hr (c6 (vv 0) (c6 (cX (YB T.n_len (vo 1))) (c6 (vv 2) cY)))))
abbrev Nx38:List Str:=["_law_script","_law_town","_law_some"]
abbrev NK:List Str:=["_law_script","_law_town","_law_some"]
theorem zEZ:cS Nx38 NK (c5 (top 59)):=aK
theorem zGO(F:YI K "_law_pick" "_law_pick" (top 59) f fd) (T:Txt K mg) (ap:cM P w K mg base "_law_draw" 3 KA [1] cD f_x37):
  bJ P w K mg base CX0 4 f fd NK (spV K [1] 3 b5):=
 XI P w K mg base Nx38 NK 3 R7 [1] F zEZ λ_ _ _ _ _ _ hr hu hu1=>by exact(c8 (cW (Z6 hu1 (vv 2) (b8 ap hr (c6 (vv 0) (bM (pv 1) (c6 (cX (YB T.n_len (vv 2))) cY)))))))
noncomputable abbrev Nx39:List Str:=["_law_script","_law_town","_law_seen","_law_deed","_law_room"]
abbrev Qx39:List Str:=["_law_script","_law_town","_law_seen","_law_deed","_law_room"]
theorem zEY:cS Nx39 Qx39 (c5 (top 60)):=aK
theorem zGN(F:YI K "_law_place" "_law_place" (top 60) f fd) (T:Txt K mg) (ap:cM P w K mg base "_law_draw" 3 KA [1] cD f_x37) (ao:cM P w K mg base "_law_pick" 4 NK [1] b5 f_x38):
  bJ P w K mg base CX0 5 f fd Qx39 (spV K [1,2] 5 aQ):=
 XI P w K mg base Nx39 Qx39 4 UM [1,2] F zEY λ_ _ _ _ _ _ hr hu hu1=>by
  refine(c9 ?_ (c8 ?_))
  ·exact(FP hu1 (pv 2) (vv 3) (cX (ZA WZ UX (aD (YE (K:=K) rfl) ZK (BF hu1 (pv 2) (vv 3) (cX (b8 ap hr (c6 (vv 0) (bM (pv 1) (c6 (vv 4) cY))))) ⟨rfl,rfl,rfl,rfl⟩) (b8 ao hr (c6 (vv 0) (bM (pv 1) (c6 (bL (aL (cE (dD dC (dD dC (dD dC (dD dC (dD dC cT)))))))) cY))))) (vv 4))) rfl)
  ·exact(cW (Z6 hu1 (vo 2) (vv 3)))
noncomputable abbrev Nx40:List Str:=["_law_script","_law_town","_law_made","_law_seen","_law_room","_law_kind","_law_a","_law_b","_law_c"]
abbrev Qx40:List Str:=["_law_script","_law_town","_law_made","_law_seen","_law_room"]
theorem OP:cS Nx40 Qx40 (c5 (top 61)):=aK
theorem zGM(F:YI K "_law_row" "_law_row" (top 61) f fd) (T:Txt K mg) (ap:cM P w K mg base "_law_draw" 3 KA [1] cD f_x37) (ao:cM P w K mg base "_law_pick" 4 NK [1] b5 f_x38) (cu:cM P w K mg base "_law_place" 5 Qx39 [1,2] aQ f_x39):
  bJ P w K mg base CX0 6 f fd Qx40 (spV K [1,3] 5 W3):=
 XI P w K mg base Nx40 Qx40 5 QM [1,3] F OP λ_ _ _ _ _ _ hr hu hu1=>by
  refine(c9 ?_ (c9 ?_ (c9 ?_ (c9 ?_ (c9 ?_ (c9 ?_ (c9 ?_ (c9 ?_ (c8 ?_)))))))))
  ·exact(bN OP.nd (aI (cX (b8 ap hr (c6 (vv 0) (bM (pv 1) (c6 dC cY)))))))
  ·exact(bP (U2 (S9 (W2 hu (vv 2) (bL (aL (cE cT)))) (WM (W2 hu (vv 5) dC))))
   (c9 (bP (W2 hu (b8 ap hr (c6 (vv 0) (bM (pv 1) (c6 dC cY)))) dC)
   (c8 (cW (bY (dD cQ (dD (b8 ao hr (c6 (vv 0) (bM (pv 1) (c6 (bL (aL (cE (dD dC (dD dC (dD dC (dD dC (dD dC (dD (b8 ap hr (c6 (vv 0) (bM (pv 1) (c6 dC cY)))) cT))))))))) cY)))) cT)))))
   cL)
   (c8 (cW (bY (dD cQ (dD (b8 cu hr (c6 (vv 0) (bM (pv 1) (bM (pv 3) (c6 cQ (c6 (vv 4) cY)))))) cT))))))
   cL)
  ·exact (SR (bL (Z2 ["_law_script","_law_town","_law_made","_law_k"] [0,1,2] 1 (YM (by rfl) T.n_range dC) (λhn _ _ _ _ => ⟨(cP hn),XS,(cX (Z6 hu1 (vv 2) (M3 (LZ rfl) zDM (by rfl) T.n_max zBQ dC (ZA UU P5 (ZA UU P5 (YB T.n_len (vv 2)) dC) (b8 ap hr (c6 (vv 0) (bM (pv 1) (c6 dC cY))))))))⟩))) (YY (K := K) rfl rfl (cF (cP OP.nd) (cF (cP OP.nd) (cF (cP OP.nd) ZU)))))
  ·exact (bP (b7 (V9 (K := K) rfl hu) (ZO (neg := false)) (vv 5) (bY (dD dC (dD dC cT))) (by with_unfolding_all rfl))
   (c8 (cW (bY (dD cQ (dD (b8 cu hr (c6 (vv 0) (bM (pv 1) (bM (pv 3) (c6 cQ (c6 (vv 4) cY)))))) cT)))))
   cL)
  ·exact(bP (W2 hu (vv 5) dC)
   (c8 (cW (bY (dD cQ (dD (b8 cu hr (c6 (vv 0) (bM (pv 1) (bM (pv 3) (c6 cQ (c6 (vv 4) cY)))))) (dD (vv 8) (dD (vv 6) cT)))))))
   cL)
  ·exact (bP (b7 (V9 (K := K) rfl hu) (ZO (neg := false)) (vv 5) (bY (dD dC (dD dC cT))) (by with_unfolding_all rfl))
   (c8 (cW (bY (dD cQ (dD (b8 cu hr (c6 (vv 0) (bM (pv 1) (bM (pv 3) (c6 cQ (c6 (vv 4) cY)))))) (dD (vv 6) cT))))))
   cL)
  ·exact(bP (W2 hu (vv 5) dC)
   (c8 (cW (bY (dD cQ (dD (b8 cu hr (c6 (vv 0) (bM (pv 1) (bM (pv 3) (c6 cQ (c6 (vv 4) cY)))))) (dD (vv 6) (dD (vv 8) cT)))))))
   cL)
  ·exact(bP (W2 hu (vv 5) dC)
   (c8 (cW (bY (dD cQ (dD (vv 8) (dD (vv 6) (dD (vv 7) cT)))))))
   cL)
  ·exact(cW (bY (dD (Z6 hu1 (bL (aL (cE (dD cQ (dD cQ (dD cQ (dD cQ (dD cQ (dD cQ (dD cQ cT)))))))))) (b8 ap hr (c6 (vv 0) (bM (pv 1) (c6 dC cY))))) (dD (vv 6) (dD (vv 7) cT)))))
noncomputable abbrev Nx42:List Str:=["_law_script","_law_town","_law_rows_here","_law_made","_law_seen","_law_room","_law_last","_law_first","_law_names_here","_law_name","_law_at"]
abbrev Qx42:List Str:=["_law_script","_law_town","_law_rows_here","_law_made","_law_seen","_law_room"]
theorem QV:cS Nx42 Qx42 (c5 (top 63)):=aK
theorem zGK(F:YI K "_law_next" "_law_next" (top 63) f fd) (T:Txt K mg) (ao:cM P w K mg base "_law_pick" 4 NK [1] b5 f_x38):
  bJ P w K mg base CX0 5 f fd Qx42 (spV K [1,4] 6 ZJ):=
 XI P w K mg base Nx42 Qx42 4 VR [1,4] F QV λ_ _ _ _ _ _ hr hu hu1=>by
  refine(c9 ?_ (c9 ?_ (c9 ?_ (c9 ?_ (c9 ?_ (c9 ?_ (c8 ?_)))))))
  ·exact(bN QV.nd (aI (cX (Z6 hu1 (vv 2) (Q0 dC)))))
  ·exact (bN QV.nd (aI (cX (VE (b7 (V9 (K := K) rfl hu) (ZO (neg := false)) (Z6 hu1 (vv 6) dC) (bY (dD cQ (dD cQ (dD cQ (dD cQ cT))))) (by with_unfolding_all rfl)) dC dC))))
  ·exact(bN QV.nd (VH (aL (cE cT))))
  ·exact(U0 Ea rfl (V0 rfl (cX (SY rfl (vv 6) (S8 (vv 7)) SZ))) (cP QV.nd)
   (c9 (bN QV.nd (aI (cX (aD (YE (K:=K) rfl) ZK (BH rfl (vv 3) (vv 9)) (b8 ao hr (c6 (vv 0) (bM (pv 1) (c6 (bL (aL (cE (dD dC (dD dC (dD dC (dD dC (dD (Q0 dC) (dD dC (dD dC cT)))))))))) cY))))))))
   (c8 (YH (K:=K) rfl Bj Bk aW X7 (pv 8) (cE (dD (VE (U2 (SS (JZ IU ML AJ DO dC (vv 10) (YB T.n_len (vv 3))) (V1 (b7 (N6 (K:=K) rfl hu) OL (Z6 hu1 (vv 3) (vv 10)) (ZA UU P5 (YB T.n_len (vv 2)) dC) (bH _))))) (Z6 hu1 (vv 3) (vv 10)) (vv 9)) cT))))))
  ·exact(bP (W2 hu (vv 7) dC)
   (c8 (cW (aD (YE (K:=K) rfl) ZK (SY rfl (vv 6) SZ (S8 dC)) (JW (RE (K:=K) rfl) Q8 (by rfl) T.n_tuple XU (vo 8)))))
   cL)
  ·exact(FP hu1 (pv 4) (Z6 hu1 (vv 6) dC) (cX (ZA WZ UX (aD (YE (K:=K) rfl) ZK (Z6 hu1 (vv 6) dC) dC) (vv 5))) rfl)
  ·exact(cW (aD (YE (K:=K) rfl) ZK (bY (dD (Z6 hu1 (vv 6) dC) (dD (Z6 hu1 (vo 4) (Z6 hu1 (vv 6) dC)) cT))) (JW (RE (K:=K) rfl) Q8 (by rfl) T.n_tuple XU (vo 8))))
noncomputable abbrev Nx41:List Str:=["_law_script","_law_town","_law_many","_law_room","_law_rows_here","_law_made","_law_seen","_law_again"]
abbrev Qx41:List Str:=["_law_script","_law_town","_law_many","_law_room"]
theorem G6:cS Nx41 Qx41 (c5 (top 62)):=aK
theorem zGL(F:YI K "_law_rows" "_law_rows" (top 62) f fd) (T:Txt K mg) (ao:cM P w K mg base "_law_pick" 4 NK [1] b5 f_x38) (gw:cM P w K mg base "_law_row" 6 Qx40 [1,3] W3 f_x40) (gu:cM P w K mg base "_law_next" 5 Qx42 [1,4] ZJ f_x42):
  bJ P w K mg base CX0 7 f fd Qx41 (spV K [1] 4 X0):=
 XI P w K mg base Nx41 Qx41 6 SA [1] F G6 λ_ _ _ _ _ _ hr hu hu1=>by
  refine(c9 ?_ (c9 ?_ (c8 ?_)))
  ·exact (zBZ (i := 4) (j := 5) (k := 6) rfl G6.nd rfl rfl rfl (by decide) (by decide) (by decide) rfl rfl rfl (VH (aL (cE cT))) (VH (aL (cE cT))) (VH BJ) rfl)
  ·exact(JY Ea (b7 ML DO (YB T.n_len (vo 4)) (vv 2) (bH _))
   (c9 (YH (K:=K) rfl Bj Bk aW X7 (pv 4) (cE (dD (b8 gw hr (c6 (vv 0) (bM (pv 1) (bM (pv 5) (bM (pv 6) (c6 (vv 3) cY)))))) cT)))
   (c9 (bP (b7 (T5 (K:=K) rfl hu) (ZO (neg:=true)) (Z6 hu1 (Z6 hu1 (vo 4) (Q0 dC)) dC) (bY (dD cQ (dD cQ cT))) (by with_unfolding_all rfl))
   (c8 (YH (K:=K) rfl Bj Bk aW X7 (pv 5) (cE (dD (ZA UU P5 (YB T.n_len (vo 4)) dC) cT))))
   cL)
   (c8 (U0 Ea rfl (YM (by rfl) T.n_range (b8 ao hr (c6 (vv 0) (bM (pv 1) (c6 (bL (aL (cE (dD dC (dD dC (dD dC (dD dC (dD dC cT)))))))) cY))))) (cP G6.nd)
   (c8 (bP (U2 (SS (b7 ML DO (YB T.n_len (vo 4)) (vv 2) (bH _)) (V1 (b7 (N6 (K:=K) rfl hu) OL (Z6 hu1 (Z6 hu1 (vo 4) (Q0 dC)) dC) cQ (bH _)))))
   (c9 (YH (K:=K) rfl Bj Bk aW X7 (pv 4) (cE (dD (b8 gu hr (c6 (vv 0) (bM (pv 1) (bM (pv 4) (bM (pv 5) (bM (pv 6) (c6 (vv 3) cY))))))) cT)))
   (c8 (bP (b7 (T5 (K:=K) rfl hu) (ZO (neg:=true)) (Z6 hu1 (Z6 hu1 (vo 4) (Q0 dC)) dC) (bY (dD cQ (dD cQ cT))) (by with_unfolding_all rfl))
   (c8 (YH (K:=K) rfl Bj Bk aW X7 (pv 5) (cE (dD (ZA UU P5 (YB T.n_len (vo 4)) dC) cT))))
   cL)))
   cL)))))))
  ·exact(cW (JW (RE (K:=K) rfl) Q8 (by rfl) T.n_tuple XU (vo 4)))
abbrev Nx45:List Str:=["_law_row_here"]
abbrev Qx45:List Str:=["_law_row_here"]
theorem zEX:cS Nx45 Qx45 (c5 (top 66)):=aK
theorem zGH(F:YI K "_law_names" "_law_names" (top 66) f fd) (T:Txt K mg):
  bJ P w K mg base CX0 1 f fd Qx45 (spV K [] 1 Z9):=
 XI P w K mg base Nx45 Qx45 0 PV [] F zEX λ_ _ _ _ _ _ hr hu hu1=>by
  refine(c9 ?_ (c8 ?_))
  ·exact(bP (W2 hu (Z6 hu1 (vv 0) dC) cQ)
   (c8 (cW (bL (aL (cE cT)))))
   cL)
  ·exact(cW (VE (b7 (V9 (K:=K) rfl hu) (ZO (neg:=false)) (Z6 hu1 (vv 0) dC) (bY (dD cQ (dD cQ (dD cQ (dD cQ cT))))) (by with_unfolding_all rfl)) (bL (BI (K5 (K:=K) rfl) WK (by rfl) T.WK TR (BG (SY rfl (vv 0) (S8 dC) SZ)))) (bL (BI (K5 (K:=K) rfl) WK (by rfl) T.WK TR (BG (SY rfl (vv 0) (S8 dC) SZ))))))
noncomputable abbrev Nx46:List Str:=["_law_block_here","_law_row_here","_law_here"]
abbrev Qx46:List Str:=["_law_block_here","_law_row_here"]
theorem AO:cS Nx46 Qx46 (c5 (top 67)):=aK
theorem zGG(F:YI K "_law_may" "_law_may" (top 67) f fd) (T:Txt K mg):
  bJ P w K mg base CX0 1 f fd Qx46 (spV K [] 2 Y0):=
 XI P w K mg base Nx46 Qx46 0 QL [] F AO λ_ _ _ _ _ _ hr hu hu1=>by
  refine(c9 ?_ (c9 ?_ (c8 ?_)))
  ·exact(bN AO.nd (aI (cX (Z6 hu1 (Z6 hu1 (vv 0) dC) (vv 1)))))
  ·exact (bP (b7 (V9 (K := K) rfl hu) (ZO (neg := false)) (Z6 hu1 (vv 2) dC) (bY (dD cQ (dD cQ (dD cQ (dD cQ cT))))) (by with_unfolding_all rfl))
   (c8 (cW (YX zAO s_ge (Z6 hu1 (vv 2) dC) (Z6 hu1 (vv 0) dC) (bH _))))
   cL)
  ·exact(cW (X9 (veq hu (Z6 hu1 (vv 2) dC) cQ) (YA (YX (T5 (K:=K) rfl hu) (ZO (neg:=true)) (SY rfl (Z6 hu1 (Z6 hu1 (vv 0) dC) (Z6 hu1 (vv 2) dC)) SZ (S8 dC)) (bL (Z2 ["_law_k"] [] 1 (M4 (by rfl) T.n_range dC dC) (λhn _ _ _ _=>⟨(cP hn),XS,(cX (bY (dD cQ (dD (vv 0) cT))))⟩))) (by with_unfolding_all rfl)))))
noncomputable abbrev Nx47:List Str:=["_law_block_here","_law_made","_law_cells_here","_law_two","_law_there","_law_one","_law_here","_law_writes","_law_reasons"]
abbrev Qx47:List Str:=["_law_block_here"]
theorem UY:cS Nx47 Qx47 (c5 (top 68)):=aK
theorem zGF(F:YI K "_law_must" "_law_must" (top 68) f fd) (T:Txt K mg) (gn:cM P w K mg base "_law_names" 1 Qx45 [] Z9 f_x45) (cx:cM P w K mg base "_law_may" 1 Qx46 [] Y0 f_x46):
  bJ P w K mg base CX0 2 f fd Qx47 (spV K [] 1 XZ):=
 XI P w K mg base Nx47 Qx47 1 R6 [] F UY λ_ _ _ _ _ _ hr hu hu1=>by
  refine(c9 ?_ (c9 ?_ (c8 ?_)))
  ·exact (FQ (i := 1) (j := 2) rfl UY.nd rfl rfl (by decide) rfl rfl (VH (aL (cE cT))) (aI (cX (bY (dD cQ (dD cQ (dD cQ (dD cQ cT))))))) rfl)
  ·exact (U0 Ea rfl (PC rfl (by rfl) T.n_enumerate (cX (Z6 hu1 (vv 0) dC))) (YY (K := K) rfl rfl (cF (cP UY.nd) (cF (cP UY.nd) ZU)))
   (c8 (U0 Ea rfl (PC rfl (by rfl) T.n_enumerate (cX (SY rfl (Z6 hu1 (vv 0) dC) SZ (S8 (vv 3))))) (YY (K:=K) rfl rfl (cF (cP UY.nd) (cF (cP UY.nd) ZU)))
   (c9 (JX false UY.nd ["_law_row_here"] [] 1 (V0 rfl (cX (bY (dD (vv 6) (dD (vv 4) cT))))) (λhn _ _ _ _=>⟨(cP hn),(SQ (b7 (V9 (K:=K) rfl hu) (ZO (neg:=false)) (Z6 hu1 (vv 0) dC) (bY (dD cQ (dD cQ cT))) (by with_unfolding_all rfl))),(vv 0)⟩))
   (c9 (bN UY.nd (VH (aL (cE (dD (YX (V9 (K:=K) rfl hu) (ZO (neg:=false)) (vv 5) (b8 gn hr (c6 (vv 4) cY)) (by with_unfolding_all rfl)) (dD (X9 (b8 cx hr (c6 (vv 0) (c6 (vv 5) cY))) (YA (b8 cx hr (c6 (vv 0) (c6 (vv 3) cY))))) cT))))))
   (c9 (YH (K:=K) rfl Bj Bk aW X7 (pv 8) (cE (dD (X9 (YX (V9 (K:=K) rfl hu) (ZO (neg:=false)) (Z6 hu1 (vv 6) dC) (vv 2) (by with_unfolding_all rfl)) (X9 (YX (V9 (K:=K) rfl hu) (ZO (neg:=false)) (Z6 hu1 (vv 4) dC) (vv 2) (by with_unfolding_all rfl)) (X9 (veq hu (Z6 hu1 (vv 6) dC) (Z6 hu1 (vv 4) dC)) (YA (YX (N6 (K:=K) rfl hu) OL (vv 7) (bL (aL (cE cT))) (bH _)))))) cT)))
   (c9 (YH (K:=K) rfl Bj Bk aW X7 (pv 8) (cE (dD (X9 (b8 cx hr (c6 (vv 0) (c6 (vv 5) cY))) (YA (YX (V9 (K:=K) rfl hu) (ZO (neg:=false)) (Z6 hu1 (vv 4) dC) (bY (dD cQ (dD cQ cT))) (by with_unfolding_all rfl)))) cT)))
   (c9 (YH (K:=K) rfl Bj Bk aW X7 (pv 8) (cE (dD (X9 (b8 cx hr (c6 (vv 0) (c6 (vv 3) cY))) (YA (YX (V9 (K:=K) rfl hu) (ZO (neg:=false)) (Z6 hu1 (vv 6) dC) (bY (dD cQ (dD cQ cT))) (by with_unfolding_all rfl)))) cT)))
   (c8 (bP (b7 (V9 (K:=K) rfl hu) (ZO (neg:=false)) XJ (vo 8) (by with_unfolding_all rfl))
   (c8 (YH (K:=K) rfl Bj Bk aW X7 (pv 1) (cE (dD (bY (dD (vv 5) (dD (vv 3) cT))) cT))))
   cL))))))))))
  ·exact(cW (bL (zIK (zHW (K:=K) rfl) zCZ (by rfl) T.n_sorted CH (BG (vo 1)))))
noncomputable abbrev Nx48:List Str:=["_law_script","_law_town","_law_block_here","_law_pairs","_law_left","_law_made","_law_ready"]
abbrev Qx48:List Str:=["_law_script","_law_town","_law_block_here"]
theorem G8:cS Nx48 Qx48 (c5 (top 69)):=aK
theorem zGE(F:YI K "_law_mixed_order" "_law_mixed_order" (top 69) f fd) (T:Txt K mg) (ao:cM P w K mg base "_law_pick" 4 NK [1] b5 f_x38) (gm:cM P w K mg base "_law_must" 2 Qx47 [] XZ f_x47):
  bJ P w K mg base CX0 5 f fd Qx48 (spV K [1] 3 aM):=
 XI P w K mg base Nx48 Qx48 4 YD [1] F G8 λ_ _ _ _ _ _ hr hu hu1=>by
  refine(c9 ?_ (c9 ?_ (c8 ?_)))
  ·exact (zBX (i := 3) (j := 4) (k := 5) rfl rfl G8.nd rfl rfl rfl (by decide) (by decide) (by decide) (Lx rfl) (Lx rfl) (Lw rfl) (aI (cX (b8 gm hr (c6 (vv 2) cY)))) (VH (D2 rfl (by rfl) T.WK TR (by rfl) T.n_range zBP (YB T.n_len (Z6 hu1 (vv 2) dC)))) (VH (aL (cE cT))))
  ·exact(JY Ea (b7 (N6 (K:=K) rfl hu) OL (vo 4) (bL (aL (cE cT))) (bH _))
   (c9 (BL false G8.nd ["_law_pairs","_law_left","_law_row_here"] [3,4] 1 (zEH rfl (vo 4)) (λhn _ _ _ _=>⟨(cP hn),(SQ (W2 hu (bL (Z2 ["_law_left","_law_row_here","_law_one","_law_two"] [1,2] 2 (V0 rfl (vv 0)) (λhn _ _ _ _=>⟨(YY (K:=K) rfl rfl (cF (cP hn) (cF (cP hn) ZU))),(SQ (U2 (SS (W2 hu (vv 3) (vv 1)) (V1 (b7 (V9 (K:=K) rfl hu) (ZO (neg:=false)) (vv 2) (vo 0) (by with_unfolding_all rfl)))))),dC⟩))) (bL (aL (cE cT))))),(vv 2)⟩))
   (c9 (YH (K:=K) rfl Bj Bk aW X7 (pv 5) (cE (dD (b8 ao hr (c6 (vv 0) (bM (pv 1) (c6 (vv 6) cY)))) cT)))
   (c8 (YH (K:=K) rfl PySem.F.slot_list_remove PySem.F.type_list_remove DA zHK (pv 4) (cE (dD (Z6 hu1 (vo 5) (Q0 dC)) cT)))))))
  ·exact(zBY (pv 5))
abbrev Nx49:List Str:=["_law_row_here","_law_names_here","_law_first"]
abbrev Qx49:List Str:=["_law_row_here","_law_names_here"]
theorem AQ:cS Nx49 Qx49 (c5 (top 70)):=aK
theorem zGD(F:YI K "_law_renamed" "_law_renamed" (top 70) f fd) (T:Txt K mg):
  bJ P w K mg base CX0 1 f fd Qx49 (spV K [] 2 cA):=
 XI P w K mg base Nx49 Qx49 0 aT [] F AQ λ_ _ _ _ _ _ hr hu hu1=>by
  refine(c9 ?_ (c9 ?_ (c8 ?_)))
  ·exact(bP (W2 hu (Z6 hu1 (vv 0) dC) cQ)
   (c8 (cW (vv 0)))
   cL)
  ·exact(bN AQ.nd (aI (cX (VE (b7 (V9 (K:=K) rfl hu) (ZO (neg:=false)) (Z6 hu1 (vv 0) dC) (bY (dD cQ (dD cQ (dD cQ (dD cQ cT))))) (by with_unfolding_all rfl)) dC dC))))
  ·exact(cW (aD (YE (K:=K) rfl) ZK (SY rfl (vv 0) SZ (S8 (vv 2))) (JW (RE (K:=K) rfl) Q8 (by rfl) T.n_tuple XU (bL (Z2 ["_law_names_here","_law_name"] [1] 1 (V0 rfl (cX (SY rfl (vv 0) (S8 (vv 2)) SZ))) (λhn _ _ _ _=>⟨(cP hn),XS,(cX (Z6 hu1 (vv 0) (vv 1)))⟩))))))
noncomputable abbrev Nx43:List Str:=["_law_script","_law_town","_law_most","_law_room","_law_sure","_law_block_here","_law_order_there","_law_names_here"]
abbrev Qx43:List Str:=["_law_script","_law_town","_law_most"]
theorem QW:cS Nx43 Qx43 (c5 (top 64)):=aK
theorem zGJ(F:YI K "_law_block" "_law_block" (top 64) f fd) (T:Txt K mg) (ap:cM P w K mg base "_law_draw" 3 KA [1] cD f_x37) (ao:cM P w K mg base "_law_pick" 4 NK [1] b5 f_x38) (gv:cM P w K mg base "_law_rows" 7 Qx41 [1] X0 f_x41) (gl:cM P w K mg base "_law_mixed_order" 5 Qx48 [1] aM f_x48) (gk:cM P w K mg base "_law_renamed" 1 Qx49 [] cA f_x49):
  bJ P w K mg base CX0 8 f fd Qx43 (spV K [1] 3 Y5):=
 XI P w K mg base Nx43 Qx43 7 WN [1] F QW λ_ _ _ _ _ _ hr hu hu1=>by
  refine(c9 ?_ (c9 ?_ (c9 ?_ (c9 ?_ (c9 ?_ (c9 ?_ (c8 ?_)))))))
  ·exact(bN QW.nd (aI (cX (b8 ao hr (c6 (vv 0) (bM (pv 1) (c6 (bL (aL (cE (dD dC (dD dC (dD dC (dD dC cT))))))) cY)))))))
  ·exact(bN QW.nd (aI (cX (b8 ao hr (c6 (vv 0) (bM (pv 1) (c6 (bL (aL (cE (dD dC (dD (vv 3) (dD (vv 3) (dD (b8 ap hr (c6 (vv 0) (bM (pv 1) (c6 (cX (aD (YE (K:=K) rfl) ZK (vv 3) dC)) cY)))) cT))))))) cY)))))))
  ·exact(bN QW.nd (aI (cX (bY (dD (vv 4) (dD (b8 gv hr (c6 (vv 0) (bM (pv 1) (c6 (cX (b8 ap hr (c6 (vv 0) (bM (pv 1) (c6 (cX (aD (YE (K:=K) rfl) ZK (vv 2) dC)) cY))))) (c6 (vv 3) cY))))) cT))))))
  ·exact(bP (b7 zDY s_gt (b8 ap hr (c6 (vv 0) (bM (pv 1) (c6 dC cY)))) dC (bH _))
   (c8 (cW (vv 5)))
   cL)
  ·exact(bN QW.nd (aI (cX (b8 gl hr (c6 (vv 0) (bM (pv 1) (c6 (vv 5) cY)))))))
  ·exact(bN QW.nd (aI (bL (D1 rfl rfl (by rfl) T.n_dict zDD (bL (Z2 ["_law_number","_law_row_here"] [] 2 (PC rfl (by rfl) T.n_enumerate (vv 6)) (λhn _ _ _ _=>⟨(YY (K:=K) rfl rfl (cF (cP hn) (cF (cP hn) ZU))),XS,(cX (bY (dD (vv 1) (dD (vv 0) cT))))⟩)))))))
  ·exact(cW (bY (dD (vv 4) (dD (JW (RE (K:=K) rfl) Q8 (by rfl) T.n_tuple XU (bL (Z2 ["_law_block_here","_law_names_here","_law_row_here"] [5,7] 1 (V0 rfl (vv 6)) (λhn _ _ _ _=>⟨(cP hn),XS,(cX (b8 gk hr (c6 (cX (Z6 hu1 (Z6 hu1 (vv 0) dC) (vv 2))) (c6 (vv 1) cY))))⟩)))) cT))))
noncomputable abbrev Nx44:List Str:=["_law_script","_law_town","_law_low","_law_many","_law_small"]
abbrev Qx44:List Str:=["_law_script","_law_town","_law_low"]
theorem G7:cS Nx44 Qx44 (c5 (top 65)):=aK
theorem zGI(F:YI K "_law_cells" "_law_cells" (top 65) f fd) (T:Txt K mg) (ap:cM P w K mg base "_law_draw" 3 KA [1] cD f_x37) (ao:cM P w K mg base "_law_pick" 4 NK [1] b5 f_x38):
  bJ P w K mg base CX0 5 f fd Qx44 (spV K [1] 3 YK):=
 XI P w K mg base Nx44 Qx44 4 UK [1] F G7 λ_ _ _ _ _ _ hr hu hu1=>by
  refine(c9 ?_ (c9 ?_ (c8 ?_)))
  ·exact(bN G7.nd (aI (cX (b8 ao hr (c6 (vv 0) (bM (pv 1) (c6 (bL (aL (cE (dD (vv 2) (dD (M3 (QF rfl) AK (by rfl) T.n_min F1 dC (aD (YE (K:=K) rfl) ZK (vv 2) (b8 ap hr (c6 (vv 0) (bM (pv 1) (c6 dC cY)))))) (dD dC cT)))))) cY)))))))
  ·exact(bN G7.nd (aI (cX (b8 ao hr (c6 (vv 0) (bM (pv 1) (c6 (bL (aL (cE (dD dC (dD dC (dD dC cT)))))) cY)))))))
  ·exact(cW (bL (Z2 ["_law_script","_law_town","_law_small","_law_k"] [0,1,4] 1 (YM (by rfl) T.n_range (vv 3)) (λhn _ _ _ _=>⟨(cP hn),XS,(cX (b8 ap hr (c6 (vv 0) (bM (pv 1) (c6 (vv 2) cY)))))⟩))))
noncomputable abbrev Nx50:List Str:=["_law_script","_law_town","_law_block_here","_law_might","_law_again","_law_cells_here","_law_later","_law_fault","_law_weighty"]
abbrev Qx50:List Str:=["_law_script"]
theorem VZ:cS Nx50 Qx50 (c5 (top 71)):=aK
theorem zGC(F:YI K "law" "law" (top 71) f fd) (T:Txt K mg) (i8:cM P w K mg base "may_fault" 7 Qx25 [] Y6 f_x25) (i7:cM P w K mg base "must" 6 Qx26 [] RV f_x26) (i4:cM P w K mg base "run" 7 Qx33 [] LQ f_x33) (i3:cM P w K mg base "values" 7 Qx34 [] V4 f_x34) (gq:cM P w K mg base "_law_block" 8 Qx43 [1] Y5 f_x43) (gp:cM P w K mg base "_law_cells" 5 Qx44 [1] YK f_x44):
  bJ P w K mg base CX0 9 f fd Qx50 (spV K [] 1 LP):=
 XI P w K mg base Nx50 Qx50 8 zBG [] F VZ λ_ _ _ _ _ _ hr hu hu1=>by
  refine(c9 ?_ (c9 ?_ (c9 ?_ (c9 ?_ (c9 ?_ (c8 ?_))))))
  ·exact(bN VZ.nd (VH (aL (cE cT))))
  ·exact(bN VZ.nd (aI (cX (b8 gq hr (c6 (vv 0) (bM (pv 1) (c6 dC cY)))))))
  ·exact (bN VZ.nd (aI (bL (Z2 ["_law_block_here","_law_row_here"] [2] 1 (YM (by rfl) T.n_range (YB T.n_len (Z6 hu1 (vv 2) dC))) (λhn _ _ _ _ => ⟨(cP hn),XS,(cX (b8 i8 hr (c6 (vv 0) (c6 (vv 1) cY))))⟩)))))
  ·exact (U0 Ea rfl (YM (by rfl) T.n_range dC) (cP VZ.nd)
   (c9 (bN VZ.nd (aI (cX (SY rfl (b8 gp hr (c6 (vv 0) (bM (pv 1) (c6 (cX (Z6 hu1 (vv 2) dC)) cY)))) SZ (S8 (VE (b7 ML DO (vv 4) dC (bH _)) dC (Z6 hu1 (vv 2) dC)))))))
   (c9 (SR (cX (b8 i4 hr (c6 (vv 2) (c6 (vv 5) cY)))) (YY (K:=K) rfl rfl (cF (cP VZ.nd) (cF (cP VZ.nd) ZU))))
   (c9 (bP (U2 (S9 (U2 (SS (b7 RJ OM (vv 7) ZS (bH _)) (V1 (YO (ZY (Z6 hu1 (vv 3) (Z6 hu1 (vv 7) dC))))))) (WM (U2 (SS (b7 GO AI (vv 7) ZS (bH _)) (V1 (b7 (N6 (K:=K) rfl hu) OL (YB T.n_len (b8 i3 hr (c6 (vv 2) (c6 (vv 5) cY)))) (YB T.n_len (Z6 hu1 (vv 2) dC)) (bH _))))))))
   (c8 (cW XJ))
   cL)
   (c8 (bP (U2 (SS (b7 (T5 (K:=K) rfl hu) (ZO (neg:=true)) XJ (vv 3) (by with_unfolding_all rfl)) (V1 (b7 RJ OM (vv 7) ZS (bH _)))))
   (c8 (cW XJ))
   cL))))))
  ·exact(JX false VZ.nd ["_law_might","_law_row_here"] [3] 1 (YM (by rfl) T.n_range (YB T.n_len (vv 3))) (λhn _ _ _ _=>⟨(cP hn),(SQ (ZY (Z6 hu1 (vv 0) (vv 1)))),(vv 1)⟩))
  ·exact(cW (veq hu (bL (Z2 ["_law_block_here","_law_one","_law_two"] [2] 2 (HF rfl (by rfl) T.n_zip (vv 8) (cX (SY rfl (vv 8) (S8 dC) SZ))) (λhn _ _ _ _=>⟨(YY (K:=K) rfl rfl (cF (cP hn) (cF (cP hn) ZU))),(SQ (b7 (T5 (K:=K) rfl hu) (ZO (neg:=true)) (bY (dD (vv 1) (dD (vv 2) cT))) (b8 i7 hr (c6 (vv 0) cY)) (by with_unfolding_all rfl))),dC⟩))) (bL (aL (cE cT)))))
end
end RR
namespace L2
open PySem
theorem bV(a b:String):Bh a=Bh b↔a=b:=by
 refine⟨λh=> ?_,λh=>by rw[h]⟩
 rw[Hk,Hk] at h
 injection h with h
 have h2:a.toList.map Ni=b.toList.map Ni:=by simpa using h
 have h3:a.toList=b.toList:=by
  have inj: ∀(l m:List Char),l.map Ni=m.map Ni->l=m:=by
   intro l
   induction l with
   | nil => intro m h;cases m with
    |nil=>rfl
    |cons=>cases h
   | cons c l ih => intro m h;cases m with
    |nil=>cases h
    |cons e m=>
     simp only[Az,Jd] at h
     rw[ih m h.2,Char.toNat_inj.mp h.1]
  exact inj _ _ h2
 exact String.toList_inj.mp h3
theorem DT(a:String):Qv (Bh a)=true:=by
 unfold Qv
 rw[Hk]
 simp only[List.all_toArray,Qu,Hw,Mq,decide_eq_true_eq]
 intro c _
 have:=c.valid
 rcases this with h|⟨_,h⟩
 ·show c.val.toNat<1114112
  have:c.val.toNat<55296:=h
  lia
 ·exact h
def RU(k:Nat)(d:dE):Prop:=d.isD=true/\d.pd.canLay0=true/\d.pd.depth<=k
theorem Z5{k:Nat}{i:Int}:RU k (.int i):=⟨rfl,rfl,Dc _⟩
theorem K8{k:Nat}{i:Bool}:RU k (.bl i):=⟨rfl,rfl,Dc _⟩
theorem K9{k:Nat}:RU k .non:=⟨rfl,rfl,Dc _⟩
theorem YQ{k:Nat}{a:String}:RU k (.str (Bh a)):=⟨rfl,by simp[dE.pd,Fo,DT],Dc _⟩
theorem K7{k:Nat}: ∀{ds:List dE},(∀d∈ds,RU k d)->ND ds=true/\Hr (BY ds)=true/\Es (BY ds)<=k
 |[],_=>⟨rfl,rfl,Dc _⟩
 |d::ds,h=>by
  obtain⟨a1,a2,a3⟩:=h d Ba
  obtain⟨b1,b2,b3⟩:=K7 λe he=>h e (Ao _ he)
  refine⟨by simp[ND,a1,b1],by simp[BY,Hr,a2,b2],?_⟩
  simp only[BY,Es]
  lia
theorem T6{k:Nat}{ds:List dE}(h: ∀d∈ds,RU k d):RU (k+1) (.tup ds):=by
 obtain⟨a,b,c⟩:=K7 h
 exact⟨by simpa[dE.isD] using a,by simpa[dE.pd,Fo] using b,by simp only[dE.pd,Hu];lia⟩
theorem XD{k:Nat}{ds:List dE}(h: ∀d∈ds,RU k d):RU (k+1) (.lst ds):=by
 obtain⟨a,b,c⟩:=K7 h
 exact⟨by simpa[dE.isD] using a,by simpa[dE.pd,Fo] using b,by simp only[dE.pd,Hu];lia⟩
theorem RU.ok{k:Nat}{d:dE}(h:RU k d)(hk:k<=64:=by decide):MK d=true:=by
 unfold MK Ej
 simp only[h.1,h.2.1,Qo,Af,decide_eq_true_eq]
 have:=h.2.2
 lia
@[simp] theorem zLI{a:String}:MK (.str (Bh a))=true:=(YQ (k:=0)).ok
theorem YR{k:Nat}: ∀d∈([]:List dE),RU k d:=λ_ h=>nomatch h
theorem aZ{k:Nat}{d:dE}{ds:List dE}(h:RU k d)(t: ∀d∈ds,RU k d): ∀e∈d::ds,RU k e:=λe he=>by
 rcases Aj.mp he with z|z
 ·rw[z];exact h
 ·exact t e z
@[simp] theorem zI3{i j:Int}:HZ (.int i) (.int j)=decide (i=j):=by show(i==j)=_;rw[Lp]
@[simp] theorem zOG{a b:String}:HZ (.str (Bh a)) (.str (Bh b))=decide (a=b):=by
 show(Bh a==Bh b)=_
 rw[Lp]
 simp only[bV]
@[simp] theorem zKN:HZ (.tup []) (.tup [])=true:=(rfl)
@[simp] theorem zKO{d e:dE}{ds es:List dE}:HZ (.tup (d::ds)) (.tup (e::es))=(HZ d e && HZ (.tup ds) (.tup es)):=(rfl)
@[simp] theorem zNV{i j:Int}:XH (.int i) (.int j)=some (.bl (decide (i=j))):=by unfold XH;simp
@[simp] theorem zNI{i j:Int}:OC (.int i) (.int j)=some (.bl (!decide (i=j))):=by unfold OC;simp
@[simp] theorem zNU{a b:String}:XH (.str (Bh a)) (.str (Bh b))=some (.bl (decide (a=b))):=by unfold XH;simp
@[simp] theorem zNH{a b:String}:OC (.str (Bh a)) (.str (Bh b))=some (.bl (!decide (a=b))):=by unfold OC;simp
theorem zE0{j k:Nat}{d e:dE}(h:RU j d)(h':RU k e)(hj:j<=64:=by decide)(hk:k<=64:=by decide):XH d e=some (.bl (HZ d e)):=by
 unfold XH
 rw[h.ok hj,h'.ok hk]
 rfl
theorem zAR{j k:Nat}{d e:dE}(h:RU j d)(h':RU k e)(hj:j<=64:=by decide)(hk:k<=64:=by decide):OC d e=some (.bl (!HZ d e)):=by
 unfold OC
 rw[h.ok hj,h'.ok hk]
 rfl
theorem zAS{j k:Nat}{neg:Bool}{d:dE}{ds:List dE}(h:RU j d)(h': ∀e∈ds,RU k e)(hj:j<=64:=by decide)(hk:k+1<=64:=by decide):aN neg d (.tup ds)=some (.bl (if neg then !OY d ds else OY d ds)):=by
 unfold aN
 simp[h.ok hj,(T6 h').ok hk]
theorem SK{j k:Nat}{neg:Bool}{d:dE}{ds:List dE}(h:RU j d)(h': ∀e∈ds,RU k e)(hj:j<=64:=by decide)(hk:k+1<=64:=by decide):aN neg d (.lst ds)=some (.bl (if neg then !OY d ds else OY d ds)):=by
 unfold aN
 simp[h.ok hj,(XD h').ok hk]
@[simp] theorem zQ1{d:dE}:OY d []=false:=(rfl)
@[simp] theorem IC{d e:dE}{ds:List dE}:OY d (e::ds)=(HZ e d || OY d ds):=(rfl)
@[simp] theorem EH{neg:Bool}{a b c:String}:aN neg (.str (Bh a)) (.tup [.str (Bh b),.str (Bh c)])=some (.bl (if neg then !(decide (b=a) || decide (c=a)) else decide (b=a) || decide (c=a))):=by
 rw[zAS (j:=0) YQ (aZ (YQ (k:=0)) (aZ YQ YR))]
 simp
@[simp] theorem zE5{neg:Bool}{a b c d e:String}:aN neg (.str (Bh a)) (.tup [.str (Bh b),.str (Bh c),.str (Bh d),.str (Bh e)])=some (.bl (if neg then !(decide (b=a) || (decide (c=a) || (decide (d=a) || decide (e=a)))) else decide (b=a) || (decide (c=a) || (decide (d=a) || decide (e=a))))):=by
 rw[zAS (j:=0) YQ (aZ (YQ (k:=0)) (aZ YQ (aZ YQ (aZ YQ YR))))]
 simp
@[simp] theorem zQ0{neg:Bool}{a b c:Int}:aN neg (.int a) (.tup [.int b,.int c])=some (.bl (if neg then !(decide (b=a) || decide (c=a)) else decide (b=a) || decide (c=a))):=by
 rw[zAS (j:=0) Z5 (aZ (Z5 (k:=0)) (aZ Z5 YR))]
 simp
def WB(ns:List Int):dE:= .lst (ns.map .int)
def W4(n:Nat):dE:= .lst (Be n (.int 0))
theorem MC: ∀ns:List Int,ND (ns.map dE.int)=true
 |[]=>rfl
 |n::ns=>by simp[ND,dE.isD,MC ns]
theorem IW: ∀ns:List Int,BY (ns.map dE.int)=ns.map Nc
 |[]=>rfl
 |n::ns=>by simp[BY,dE.pd,IW ns]
theorem zAQ(ns:List Int):MK (.lst (ns.map .int))=true:=by
 unfold MK
 simp only[dE.isD,MC,dE.pd,IW,Qo]
 exact JO ns
theorem XM(ns:List Int):XH (.lst (ns.map .int)) (.lst [])=some (.bl ns.isEmpty):=by
 unfold XH
 rw[zAQ,show MK (.lst [])=true from by decide+kernel]
 cases ns<;>rfl
theorem MB: ∀n:Nat,VA (Be n (.int 0))=true
 |0=>rfl
 |n+1=>by simp[List.replicate_succ,VA,dE.hard,MB n]
@[simp] theorem zK6(n:Nat):UQ (W4 n)=true:=MB n
theorem L1: ∀(ds:List dE) (a b:dE) (r:Int) (s:Sl),∃r' s',XN (gN 3) (aC 2 (xV (f2 IS (fV 2) (fC (.int 1000003))))) ds [.va a,.va b,.va (.int r),s]=some (.nx [.va a,.va b,.va (.int r'),s'])
 |[],a,b,r,s=>⟨r,s,rfl⟩
 |d::ds,a,b,r,s=>by
  obtain⟨r',s',h⟩:=L1 ds a b (r/1000003) (.va d)
  exact⟨r',s',by simp[cDiv,h]⟩
theorem OZ{ns:List Int}{i:Int}(h0:0<=i)(h1:i<ns.length): ∃r∈ns,WQ (ns.map dE.int) i=some (.int r):=by
 obtain⟨x,hx,e⟩:=FZ (xs:=ns.map dE.int) h0 (by simpa using h1)
 obtain⟨r,hr,rfl⟩:=Bx.mp hx
 exact⟨r,hr,e⟩
theorem zDB(ns:List Int)(k:Nat)(hl:ns.length<=63)(hk:k<1000000): ∃r,Z8 [WB ns,.int k]=some (.int r,[]):=by
 unfold Z8
 rw[cU]
 unfold WI U9 WB
 by_cases h:(k:Int)<ns.length
 ·obtain ⟨r,_,e⟩ := OZ (ns := ns) (i := k) (by lia) h
  exact⟨r,by simp[cR,h,e]⟩
 ·cases ns with
  |nil=>
   have h0: ¬((k:Int)<0):=by lia
   have e:XH (.lst []) (.lst [])=some (.bl true):=XM []
   exact⟨0,by simp[cR,h0,e]⟩
  |cons m ms=>
   generalize hns:m::ms=ns at*
   have dw:(0:Int)<ns.length:=by rw[<- hns];simp
   have hb:=Hh (k:Int) (show(ns.length:Int)≠0 by lia)
   have hb2:=Em (k:Int) dw
   obtain⟨r,_,e⟩:=OZ (ns:=ns) hb hb2
   have he:ns.isEmpty=false:=by rw[<- hns];rfl
   have hq:0<=(k:Int)/ns.length:=Pk (by lia) (by lia)
   have hm: -4611686018427387904<=(if(60:Int)<(k:Int)/ns.length then 60 else(k:Int)/ns.length)/\(if(60:Int)<(k:Int)/ns.length then 60 else(k:Int)/ns.length)<4611686018427387904:=by split<;>lia
   obtain⟨r',s',e2⟩:=L1 (bD 0 (if(60:Int)<(k:Int)/ns.length then 60 else(k:Int)/ns.length).toNat) (.lst (ns.map .int)) (.int k) r .no
   have hp2:0<ns.length:=by lia
   have hp3:(ns.length:Int)<1073741824:=by lia
   exact⟨r*31+k+r'*101,by simp[cR,h,XM,he,dw,hp2,hp3,e,cDiv,hm,e2,CI]⟩
noncomputable def cel(ns:List Int)(k:Nat):Int:=match Z8 [WB ns,.int k] with
 |some (.int r,_)=>r
 |_=>0
theorem zI8(ns:List Int)(k:Nat)(hl:ns.length<=63)(hk:k<1000000):Z8 [WB ns,.int k]=some (.int (cel ns k),[]):=by
 obtain⟨r,e⟩:=zDB ns k hl hk
 unfold cel
 rw[e]
noncomputable def NP(ns:List Int)(n:Nat)(b:Int):Int:=((cel ns (n+1)*1103515245+7919*(((n+1:Nat)):Int)+12345) % 2147483647) ^ 5 % 2147483647 % 999983 % b
theorem RA(ns:List Int)(n:Nat){b:Int}(h:0<b):0<=NP ns n b:=Hh _ (by lia)
theorem HY(ns:List Int)(n:Nat){b:Int}(h:0<b):NP ns n b<b:=Em _ h
theorem zHL(ns:List Int)(n:Nat)(b:Int)(hl:ns.length<=63)(hn:n<900000)(hb:0<b):YL [WB ns,.int ((n+1:Nat):Int),.int b]=some (.int (NP ns n b),[]):=by
 have e:=zI8 ns (n+1) hl (by lia)
 unfold YL
 rw[cU]
 unfold UL NP
 have e1:=Hh (cel ns (n+1)*1103515245+7919*((n+1:Nat):Int)+12345) (show(2147483647:Int)≠0 by decide)
 have e2:=Em (cel ns (n+1)*1103515245+7919*((n+1:Nat):Int)+12345) (show(0:Int)<2147483647 by decide)
 generalize hz:(cel ns (n+1)*1103515245+7919*((n+1:Nat):Int)+12345) % 2147483647=z at*
 have hz2:z.natAbs<18446744073709551616:=by lia
 generalize hk:((n+1:Nat):Int)=k at*
 simp[cR,e,CI,cPow,hz,hz2,hb]
theorem YC(ns:List Int)(n:Nat)(b:Int)(hl:ns.length<=63)(hn:n<900000)(hb:0<b):cD [WB ns,W4 n,.int b]=some (.int (NP ns n b),[W4 (n+1)]):=by
 have e:=zHL ns n b hl hn hb
 unfold cD
 rw[cU]
 unfold R0
 have ht:W4 n= .lst (Be n (.int 0)):=rfl
 have ht2:W4 (n+1)= .lst (Be n (.int 0)++[.int 0]):=by unfold W4;rw[List.replicate_succ']
 rw[ht2,ht]
 have hs:n<16777216:=by lia
 push_cast at e
 simp[cR,hs,e]
theorem XF(ns:List Int)(n:Nat)(xs:List dE)(hl:ns.length<=63)(hn:n<900000)(hx:0<xs.length): ∃x∈xs,b5 [WB ns,W4 n,.lst xs]=some (x,[W4 (n+1)]):=by
 have hx':(0:Int)<xs.length:=by lia
 obtain⟨x,hm,e⟩:=FZ (xs:=xs) (RA ns n hx') (HY ns n hx')
 refine⟨x,hm,?_⟩
 unfold b5
 rw[cU]
 unfold R7
 simp[cR,YC ns n _ hl hn hx',e]
theorem ED(ns:List Int)(n:Nat)(b:Int)(hl:ns.length<=63)(hn:n<900000)(hb:0<b)(tl:Ev):cV 3 [1] cD (aE (fV 0) (aO 1 (aE (fC (.int b)) cG))) (.va (WB ns):: .ow (W4 n)::tl)=some (.int (NP ns n b),.va (WB ns):: .ow (W4 (n+1))::tl):=by simp[YC ns n b hl hn hb]
abbrev Sn(m:Nat)(d:dE):Prop:= ∃(ks:List aR) (vs:List Int),d= .dct ks (vs.map .int)/\ks.length=vs.length/\ks.Nodup/\ks.length<=m
abbrev NL(n:Nat)(d:dE):Prop:=Sn (8*n) d
theorem NL.mono{n m:Nat}{d:dE}(h:NL n d)(hn:n<=m):NL m d:=by
 obtain⟨ks,vs,h1,h2,h3,h4⟩:=h
 exact⟨ks,vs,h1,h2,h3,by lia⟩
theorem zE1: ∀(ks:List aR) (vs:List Int) (k:aR) (q:Int),∃r,(bO ks (vs.map .int) k).getD (.int q)= .int r
 | [],_,_,q => ⟨q,by simp [bO]⟩
 | _ :: _,[],_,q => ⟨q,by simp [bO]⟩
 | k' :: ks,v :: vs,k,q => by
  by_cases h:k'=k
  ·exact ⟨v,by simp [bO,h]⟩
  ·obtain⟨r,e⟩:=zE1 ks vs k q
   exact⟨r,by simp only[Az,bO,if_neg h];exact e⟩
theorem putI: ∀(ks:List aR) (vs:List Int) (k:aR) (p:Int),ks.length=vs.length->ks.Nodup-> ∃(ks':List aR) (vs':List Int),YF ks (vs.map .int) k (.int p)=(ks',vs'.map .int)/\ks'.length=vs'.length/\ks'.Nodup/\ks'.length<=ks.length+1/\(∀z∈ks',z=k∨z∈ks)/\bO ks' (vs'.map .int) k=some (.int p)
 | [],[],k,p,_,_ => ⟨[k],[p],by simp [YF],rfl,by simp,by simp,by simp,by simp [bO]⟩
 | k' :: ks,v :: vs,k,p,hl,hn => by
  by_cases h:k'=k
  ·subst h
   exact⟨k'::ks,p::vs,by simp[YF],by simpa using hl,hn,by simp,by simp,by simp[bO]⟩
  ·obtain ⟨ks',vs',e,h1,h2,h3,h4,h5⟩ := putI ks vs k p (by simpa using hl) (Ct.mp hn).2
   refine⟨k'::ks',v::vs',by simp only[Az,YF,if_neg h,e],by simp[h1],?_,by simp;lia,?_,by simp only[Az,bO,if_neg h];exact h5⟩
   ·refine Ct.mpr ⟨λz => ?_,h2⟩
    rcases h4 _ z with y|y
    ·exact h y
    ·exact(Ct.mp hn).1 y
   ·intro z hz
    rcases Aj.mp hz with y|y
    ·exact .inr (by rw[y];exact Ba)
    ·exact(h4 z y).imp id (Ao _)
theorem JA(ns:List Int)(n:Nat)(sn:dE)(x:Str)(ae:Int)(hl:ns.length<=63)(hn:n<800000)(hs:NL n sn)(hr:0<ae):
  ∃p sn',0<=p/\p<ae/\NL (n+2) sn'/\aQ [WB ns,W4 n,sn,.str x,.int ae]=some (.int p,[W4 (n+2),sn']):=by
 obtain⟨ks,vs,rfl,h1,h2,h3⟩:=hs
 obtain⟨a,ha⟩:=zE1 ks vs (.inr x) (NP ns n ae)
 obtain⟨y,hy,ey⟩:=XF ns (n+1) [.int 1,.int 1,.int 1,.int 0,.int 3] hl (by lia) (by simp)
 obtain⟨b,rfl⟩: ∃b,y= .int b:=by
  simp only[Aj,Ay,or_false] at hy
  rcases hy with h|h|h|h|h<;>exact⟨_,h⟩
 obtain⟨ks',vs',e,h4,h5,h6,h7,h8⟩:=putI ks vs (.inr x) ((a+b) % ae) h1 h2
 refine⟨(a+b) % ae,.dct ks' (vs'.map .int),Hh _ (by lia),Em _ hr,⟨ks',vs',rfl,h4,h5,by lia⟩,?_⟩
 have hk:ks.length<16777216:=by lia
 unfold aQ
 rw[cU]
 unfold UM
 simp[cR,YC ns n ae hl (by lia) hr,ha,ey,hr,hk,h2,e,h8]
inductive aY(M:Int->Prop):dE->Prop
 |number {n:Int}:0<=n->n<=999->aY M (.tup [.str "number",.int n])
 |two {x:String} {a b:Int}:x∈["over","plus","minus","times","least","most","less"]->M a->M b->aY M (.tup [.str x,.int a,.int b])
 |pick {c a b:Int}:M c->M a->M b->aY M (.tup [.str "pick",.int c,.int a,.int b])
 |load {p:Int}:0<=p->p<=63->aY M (.tup [.str "load",.int p])
 |take {p c a:Int}:0<=p->p<=63->M c->M a->aY M (.tup [.str "take",.int p,.int c,.int a])
 |store {p a:Int}:0<=p->p<=63->M a->aY M (.tup [.str "store",.int p,.int a])
 |put {p a c:Int}:0<=p->p<=63->M a->M c->aY M (.tup [.str "put",.int p,.int a,.int c])
theorem A2(ns:List Int)(n:Nat)(made:List Int)(hl:ns.length<=63)(hn:n<800000)(hm:0<made.length)(s:Sl): ∃a b c,a∈made/\b∈made/\c∈made∧
  aF 3 1 (gN 3) WY (f2 cJ (fV 2) (f2 oMax (fC (.int 0)) (f2 OD (f2 OD (f1 ZB (fV 2)) (fC (.int 1))) (cV 3 [1] cD (aE (fV 0) (aO 1 (aE (fC (.int 6)) cG))))))) [.int 0,.int 1,.int 2] [] [.va (WB ns),.ow (W4 n),.va (.lst (made.map .int))]=
   some ([.int a,.int b,.int c],[.va (WB ns),.ow (W4 (n+3)),.va (.lst (made.map .int))]):=by
 have one: ∀m,∃a∈made,WQ (made.map dE.int) (if(made.length:Int) - 1 - NP ns m 6>0 then(made.length:Int) - 1 - NP ns m 6 else 0)=some (.int a):=λm=>by
  have:=RA ns m (b:=6) (by decide)
  exact OZ (by split<;>lia) (by split<;>lia)
 obtain⟨a,ha,ea⟩:=one n
 obtain⟨b,hb,eb⟩:=one (n+1)
 obtain⟨c,hc,ec⟩:=one (n+2)
 refine⟨a,b,c,ha,hb,hc,?_⟩
 have d0:=YC ns n 6 hl (by lia) (by decide)
 have d1:=YC ns (n+1) 6 hl (by lia) (by decide)
 have d2:=YC ns (n+2) 6 hl (by lia) (by decide)
 simp only[gt_iff_lt,Int.sub_pos] at ea eb ec
 simp[d0,d1,d2,ea,eb,ec]
def J6(x:String):Prop:=x= "load" ∨x= "take" ∨x= "store" ∨x= "put"
def PlOK(ae:Int)(row:dE):Prop:= ∀(x:String) (p:Int) (t:List dE),row= .tup (.str x:: .int p::t)->J6 x->p<ae
theorem RL{ae p:Int}{x:String}{t:List dE}(h:p<ae):PlOK ae (.tup (.str x:: .int p::t)):=λy q u e _=>by
 simp only[dE.tup.injEq,Jd,dE.int.injEq] at e
 lia
theorem GU{ae:Int}{x:String}{t:List dE}(h: ¬J6 x):PlOK ae (.tup (.str x::t)):=λy q u e hy=>by
 simp only[dE.tup.injEq,Jd,dE.str.injEq,bV] at e
 rw[<- e.1] at hy
 exact absurd hy h
theorem FN{x:String}(hx:x∈["over","plus","minus","times","least","most","less"]): ¬J6 x:=λh=>by
 simp only[Aj,Ay,or_false] at hx
 rcases hx with rfl|rfl|rfl|rfl|rfl|rfl|rfl<;>rcases h with h|h|h|h<;>exact absurd h (by decide)
theorem zFK(ns:List Int)(n:Nat)(made:List Int)(sn:dE)(ae:Int)(hl:ns.length<=63)(hn:n<700000)(hs:NL n sn)(hr:0<ae)(hr2:ae<=64):
    ∃row n' sn',n<=n'/\n'<=n+10/\NL n' sn'/\aY (· ∈made) row/\PlOK ae row/\W3 [WB ns,W4 n,.lst (made.map .int),sn,.int ae]=some (row,[W4 n',sn']):=by
  have d0:=ED ns n 13 hl (by lia) (by decide)
  have k0:=RA ns n (b:=13) (by decide)
  have k1:=HY ns n (b:=13) (by decide)
  generalize NP ns n 13=kd at*
  unfold W3
  rw[cU]
  unfold QM
  by_cases h0:made.isEmpty=true∨kd=0
  · have d1 := ED ns (n + 1) 2 hl (by lia) (by decide)
    have hor:made.isEmpty=true∨(made.isEmpty=false/\kd=0):=by
      cases hm:made.isEmpty with
      | true => exact .inl rfl
      | false => rcases h0 with h | h
                 · rw[hm] at h;cases h
                 · exact .inr ⟨rfl,h⟩
    by_cases h2:NP ns (n+1) 2=0
    · have d2 := ED ns (n + 2) 1000 hl (by lia) (by decide)
      obtain⟨y,hy,ey⟩:=XF ns (n+3) [.int 0,.int 1,.int 2,.int 5,.int 999,.int (NP ns (n+2) 1000)] hl (by lia) (by simp)
      obtain⟨b,rfl,hb0,hb1⟩: ∃b,y= .int b/\0<=b/\b<=999:=by
        have:=RA ns (n+2) (b:=1000) (by decide)
        have:=HY ns (n+2) (b:=1000) (by decide)
        simp only[Aj,Ay,or_false] at hy
        rcases hy with h|h|h|h|h|h<;>exact⟨_,h,by lia,by lia⟩
      refine⟨.tup [.str "number",.int b],n+4,sn,by lia,by lia,hs.mono (by lia),.number hb0 hb1,GU (by unfold J6;decide),?_⟩
      rcases hor with h|⟨h,h'⟩
      · simp[cR,↓d0,XM,h,↓d1,h2,↓d2,ey]
      · simp[cR,↓d0,XM,h,h',↓d1,h2,↓d2,ey]
    · obtain ⟨p,sn',p0,p1,hs',ep⟩ := JA ns (n + 2) sn "load" ae hl (by lia) (hs.mono (by lia)) hr
      refine⟨.tup [.str "load",.int p],n+4,sn',by lia,by lia,hs',.load p0 (by lia),RL p1,?_⟩
      rcases hor with h|⟨h,h'⟩
      · simp[cR,↓d0,XM,h,↓d1,h2,ep]
      · simp[cR,↓d0,XM,h,h',↓d1,h2,ep]
  · obtain⟨hm,hkd⟩:=not_or.mp h0
    have hm':made.isEmpty=false:=by simpa using hm
    have dw:0<made.length:=by
      cases made with
      |nil=>cases hm'
      |cons=>simp
    obtain⟨a,b,c,ha,hb,hc,e3⟩:=A2 ns (n+1) made hl (by lia) dw .no
    have oj:(kd=1∨kd=2)∨kd=3∨(kd=4∨kd=5)∨kd=6∨kd=7∨(8<=kd/\kd<=12):=by lia
    have pl: ∀x:Str,∃p sn',0<=p/\p<=63/\p<ae/\NL (n+6) sn'/\ ∀s tl,cV 5 [1,2] aQ (aE (fV 0) (aO 1 (aO 3 (aE (fC (.str x)) (aE (fV 4) cG))))) (.va (WB ns):: .ow (W4 (n+4))::s:: .ow sn:: .va (.int ae)::tl)=some (.int p,.va (WB ns):: .ow (W4 (n+6))::s:: .ow sn':: .va (.int ae)::tl):=λx=>by
      obtain⟨p,sn',p0,p1,hs',ep⟩:=JA ns (n+4) sn x ae hl (by lia) (hs.mono (by lia)) hr
      exact⟨p,sn',p0,by lia,p1,hs',λs tl=>by simp[ep]⟩
    rcases oj with h|h|h|h|h|h
    · have t12 : (decide (1 = kd) || decide (2 = kd)) = true := by rcases h with rfl | rfl <;> decide
      obtain⟨p,sn',p0,p1,p2,hs',ep⟩:=pl "load"
      exact⟨.tup [.str "load",.int p],n+6,sn',by lia,by lia,hs',.load p0 p1,RL p2,by simp[cR,↓d0,XM,hm',hkd,bX,e3,↓ep,t12]⟩
    · subst h
      obtain⟨p,sn',p0,p1,p2,hs',ep⟩:=pl "take"
      exact⟨.tup [.str "take",.int p,.int c,.int a],n+6,sn',by lia,by lia,hs',.take p0 p1 hc ha,RL p2,by simp[cR,↓d0,XM,hm',bX,e3,↓ep]⟩
    · have t45 : (decide (4 = kd) || decide (5 = kd)) = true := by rcases h with rfl | rfl <;> decide
      have n3: ¬kd=3:=by lia
      have m1: ¬1=kd:=by lia
      have m2: ¬2=kd:=by lia
      obtain⟨p,sn',p0,p1,p2,hs',ep⟩:=pl "store"
      exact⟨.tup [.str "store",.int p,.int a],n+6,sn',by lia,by lia,hs',.store p0 p1 ha,RL p2,by simp[cR,↓d0,XM,hm',hkd,bX,e3,↓ep,n3,m1,m2,t45]⟩
    · subst h
      obtain⟨p,sn',p0,p1,p2,hs',ep⟩:=pl "put"
      exact⟨.tup [.str "put",.int p,.int a,.int c],n+6,sn',by lia,by lia,hs',.put p0 p1 ha hc,RL p2,by simp[cR,↓d0,XM,hm',bX,e3,↓ep]⟩
    · subst h
      exact⟨.tup [.str "pick",.int c,.int a,.int b],n+4,sn,by lia,by lia,hs.mono (by lia),.pick hc ha hb,GU (by unfold J6;decide),by simp[cR,↓d0,XM,hm',bX,e3]⟩
    · have d4 := ED ns (n + 4) 7 hl (by lia) (by decide)
      have q0:=RA ns (n+4) (b:=7) (by decide)
      have q1:=HY ns (n+4) (b:=7) (by decide)
      obtain⟨y,hy,ey⟩:=FZ (xs:=["over","plus","minus","times","least","most","less"].map λs:String=>dE.str (Bh s)) q0 (by simpa using q1)
      obtain⟨x,hx,rfl⟩:=Bx.mp hy
      simp only[Az,Du] at ey
      have n1: ¬kd=1:=by lia
      have n2: ¬kd=2:=by lia
      have n3: ¬kd=3:=by lia
      have n4: ¬kd=4:=by lia
      have n5: ¬kd=5:=by lia
      have n6: ¬kd=6:=by lia
      have n7: ¬kd=7:=by lia
      have m1: ¬1=kd:=by lia
      have m2: ¬2=kd:=by lia
      have m4: ¬4=kd:=by lia
      have m5: ¬5=kd:=by lia
      exact⟨.tup [.str x,.int a,.int b],n+5,sn,by lia,by lia,hs.mono (by lia),.two hx ha hb,GU (FN hx),by simp[cR,↓d0,XM,hm',hkd,bX,e3,n3,n6,n7,m1,m2,m4,m5,↓d4,ey]⟩
inductive Kd where
 |w|p|n
 deriving DecidableEq
def Nm(kds:List Kd)(k:Kd)(a:Int):Prop:=0<=a/\kds[a.toNat]? =some k
theorem Nm.lt{kds:List Kd}{k:Kd}{a:Int}(h:Nm kds k a):a<kds.length:=by
 have:=(Ad.mp h.2).1
 have:=h.1
 lia
theorem Nm.snoc{kds:List Kd}{k j:Kd}{a:Int}(h:Nm kds k a):Nm (kds++[j]) k a:=⟨h.1,by rw[Ae (Ad.mp h.2).1];exact h.2⟩
theorem Nm.new{kds:List Kd}{k:Kd}:Nm (kds++[k]) k kds.length:=⟨by lia,by simp⟩
noncomputable def RT(k:Kd):dE->Kd
 | .tup (.str x::_)=>if x= "store" ∨x= "put" then .n else k
 |_=> .n
theorem aY.imp{M M':Int->Prop}{row:dE}(h:aY M row)(f: ∀a,M a->M' a):aY M' row:=by
 cases h with
 |number a b=>exact .number a b
 |two a b c=>exact .two a (f _ b) (f _ c)
 |pick a b c=>exact .pick (f _ a) (f _ b) (f _ c)
 |load a b=>exact .load a b
 |take a b c d=>exact .take a b (f _ c) (f _ d)
 |store a b c=>exact .store a b (f _ c)
 |put a b c d=>exact .put a b (f _ c) (f _ d)
theorem aY.hard{M:Int->Prop}{row:dE}(h:aY M row):row.hard=true:=by
 cases h<;>simp[dE.hard,VA]
theorem L3(ns:List Int)(b:Int)(hl:ns.length<=63)(hb:0<b)(fe:VF)(x:Sl)(tail:Ev)(nn:Nat)(hnn:nn=tail.length+2)
  (hfe: ∀n d,n<800000->fe ([.va (WB ns),.ow (W4 n)]++tail++[.va d])=some (.int (NP ns n b),[.va (WB ns),.ow (W4 (n+1))]++tail++[.va d])):
  ∀(ds:List dE) (n:Nat) (acc:List dE),n+ds.length<800000->acc.length+ds.length<1000000-> ∃ws:List Int,ws.length=ds.length/\(∀w∈ws,0<=w/\w<b)∧
   aF nn 1 (gN nn) WY fe ds acc ([.va (WB ns),.ow (W4 n)]++tail)=some (acc++ws.map .int,[.va (WB ns),.ow (W4 (n+ds.length))]++tail)
 | [],n,acc,_,_ => ⟨[],rfl,(λ_ h => nomatch h),by simp⟩
 | d :: ds,n,acc,hn,ha => by
  obtain⟨ws,h1,h2,h3⟩:=L3 ns b hl hb fe x tail nn hnn hfe ds (n+1) (acc++[.int (NP ns n b)]) (by simp at hn;lia) (by simp at ha⊢;lia)
  refine⟨NP ns n b::ws,by simp[h1],λw hw=> ?_,?_⟩
  ·rcases Aj.mp hw with z|z
   ·rw[z];exact⟨RA ns n hb,HY ns n hb⟩
   ·exact h2 w z
  ·have e := hfe n d (by simp at hn;lia)
   have cj:([Sl.va (WB ns),Sl.ow (W4 n)]++tail++[Sl.no]).set nn (.va d)=[Sl.va (WB ns),Sl.ow (W4 n)]++tail++[Sl.va d]:=by
    rw[Ek _ _ (by simp[hnn])]
    simp[hnn]
   have ay:([Sl.va (WB ns),Sl.ow (W4 (n+1))]++tail++[Sl.va d]).take nn=[Sl.va (WB ns),Sl.ow (W4 (n+1))]++tail:=by rw[Co (by simp[hnn]),Cg (by simp[hnn])]
   have au:acc.length<16777216:=by simp at ha;lia
   simp only[TU,ER,KU,cj,MP,F0,E5,e,E6,if_pos au,ay,h3]
   simp[show n+1+ds.length=n+(ds.length+1) by lia]
@[simp] theorem zNG{i:Int}:IT (.int i)=some (.int (-i)):=(rfl)
theorem TW{ds:List dE}{k:Nat}(h:k<=ds.length):WR ds (some (k:Int)) none=ds.drop k:=by
 unfold WR
 rw[HT.FH,HT.JL,Hg h,Cg (by simp)]
theorem TY{ds:List dE}{k:Nat}:WR ds none (some (k:Int))=ds.take k:=by
 unfold WR
 rw[HT.FH,HT.JL]
 simp only[Jq,Nat.sub_zero]
 by_cases h:k<=ds.length
 ·rw[Hg h]
 ·rw[Nat.min_eq_right (by lia),Cg (by lia),Cg (by lia)]
@[simp] theorem zI6{d:dE}{ds:List dE}:WR (d::ds) (some 1) none=ds:=TW (k:=1) (by simp)
@[simp] theorem zOI{d e:dE}{ds:List dE}:WR (d::e::ds) (some 2) none=ds:=TW (k:=2) (by simp)
@[simp] theorem zM0{ds:List dE}:WR ds none (some 2)=ds.take 2:=TY (k:=2)
@[simp] theorem zM1{ds:List dE}:WR ds none (some 1)=ds.take 1:=TY (k:=1)
@[simp] theorem zM7{α:Type}{xs:List α}{x:α}:WQ (xs++[x]) (-1)=some x:=by
 unfold WQ ME
 rw[if_neg (by decide),if_pos (by simp;lia)]
 have e:(-1+((xs++[x]).length:Int)).toNat=xs.length:=by simp;lia
 show(xs++[x])[(-1+((xs++[x]).length:Int)).toNat]? =some x
 rw[e]
 simp
@[simp] theorem zQB{α:Type}{x:α}{xs:List α}:WQ (x::xs) 0=some x:=by rw[ZC (by decide) (by simp)];rfl
@[simp] theorem zQA{α:Type}{x y:α}{xs:List α}:WQ (x::y::xs) 1=some y:=by rw[ZC (by decide) (by simp;lia)];rfl
@[simp] theorem zQ9{α:Type}{x y z:α}{xs:List α}:WQ (x::y::z::xs) 2=some z:=by rw[ZC (by decide) (by simp;lia)];rfl
theorem zK3{k:Kd}{x:String}{t:List dE}(hx:x∉["store","put"]):RT k (.tup (.str x::t))=k:=by
 simp only[Aj,Ay,or_false,not_or] at hx
 simp[RT,bV,hx]
theorem zK2{k:Kd}{x:String}{t:List dE}(hx:x= "store" ∨x= "put"):RT k (.tup (.str x::t))= .n:=by
 rcases hx with rfl|rfl<;>simp[RT,bV]
theorem RO{M:Int->Prop}{row:dE}(h:aY M row): ∃(x:String) (t:List dE),row= .tup (.str x::t)/\x∉["wide","gather","shuffle"]:=by
 cases h with
 |two hx _ _=>
  simp only[Aj,Ay,or_false] at hx
  rcases hx with rfl|rfl|rfl|rfl|rfl|rfl|rfl<;>exact⟨_,_,rfl,by decide⟩
 |_=>exact⟨_,_,rfl,by decide⟩
@[simp] theorem zIJ(n lo hi:Int):bK [.int n,.int lo,.int hi]=some (.bl (decide (lo<=n) && decide (n<=hi)),[]):=by
 unfold bK
 rw[cU]
 unfold RZ
 simp[cR]
 by_cases h:lo<=n<;>simp[h]
theorem DE{x:String}(h:x∈["over","plus","minus","times","least","most","less"]):aU [.str x]=some (.tup [.str "row",.str "row"],[]):=by
 simp only[Aj,Ay,or_false] at h
 rcases h with rfl|rfl|rfl|rfl|rfl|rfl|rfl<;>kernel_rfl
@[simp] theorem zLH:aU [.str "number"]=some (.tup [.str "word"],[]):=by kernel_rfl
@[simp] theorem zLG:aU [.str "pick"]=some (.tup [.str "row",.str "row",.str "row"],[]):=by kernel_rfl
@[simp] theorem zLF:aU [.str "load"]=some (.tup [.str "place"],[]):=by kernel_rfl
@[simp] theorem zLE:aU [.str "take"]=some (.tup [.str "place",.str "row",.str "row"],[]):=by kernel_rfl
@[simp] theorem zLD:aU [.str "store"]=some (.tup [.str "place",.str "row"],[]):=by kernel_rfl
@[simp] theorem zLC:aU [.str "put"]=some (.tup [.str "place",.str "row",.str "row"],[]):=by kernel_rfl
def Ab(able:List Bool)(a:Int):Prop:=0<=a/\able[a.toNat]? =some true
theorem zHO{able:List Bool}{a:Int}(h:Ab able a):X1 [.int a,.lst (able.map .bl)]=some (.bl true,[]):=by
 have hlt:=(Ad.mp h.2).1
 have h0:=h.1
 have h1:a<=(able.length:Int) - 1:=by lia
 have h2:WQ (able.map dE.bl) a=some (.bl true):=by
  rw[ZC h0 (by simp;lia)]
  simp[h.2]
 unfold X1
 rw[cU]
 unfold SD
 simp[cR,h0,h1,h2]
theorem YT{able:List Bool}{a:Int}(h:Ab able a):WE [.str "row",.int a,.lst (able.map .bl)]=some (.bl true,[]):=by
 unfold WE
 rw[cU]
 unfold NV
 simp[cR,zHO h]
theorem CV{d:dE}{a:Int}(h:0<=a)(h':a<=999):WE [.str "word",.int a,d]=some (.bl true,[]):=by
 unfold WE
 rw[cU]
 unfold NV
 simp[cR,a9,h,h']
theorem VQ{d:dE}{a:Int}(h:0<=a)(h':a<=63):WE [.str "place",.int a,d]=some (.bl true,[]):=by
 unfold WE
 rw[cU]
 unfold NV
 simp[cR,VM,h,h']
@[simp] theorem zOJ:QE []=some []:=(rfl)
@[simp] theorem zOK{b:Bool}{ds:List dE}:QE (.bl b::ds)=(QE ds).map λks=>b::ks:=(rfl)
@[simp] theorem zLU{g:List Bool->Bool}{ds:List dE}:zAU g (.lst ds)=(QE ds).map λks=> .bl (g ks):=(rfl)
@[simp] theorem zKZ{ds:List dE}:XT ds []=[]:=by cases ds<;>rfl
@[simp] theorem zME{d e:dE}{ds es:List dE}:XT (d::ds) (e::es)= .tup [d,e]::XT ds es:=(rfl)
theorem zB7{able:List Bool}{row:dE}(h:aY (Ab able) row):V2 [row,.lst (able.map .bl)]=some (.bl true,[]):=by
 unfold V2
 rw[cU]
 unfold NW
 cases h with
 |number a b=>simp[cR,bX,CV a b]
 |two hx a b=>simp[cR,bX,DE hx,YT a,YT b]
 |pick a b c=>simp[cR,bX,YT a,YT b,YT c]
 |load a b=>simp[cR,bX,VQ a b]
 |take a b c d=>simp[cR,bX,VQ a b,YT c,YT d]
 |store a b c=>simp[cR,bX,VQ a b,YT c]
 |put a b c d=>simp[cR,bX,VQ a b,YT c,YT d]
theorem V6(nn:Nat)(fe:VF)(δ:Ev)(f:dE->dE)(hδ:δ.length=nn): ∀(ds acc:List dE),(∀d∈ds,fe (δ++[Sl.va d])=some (f d,δ++[Sl.va d]))->acc.length+ds.length<16777216->aF nn 1 (gN nn) WY fe ds acc δ=some (acc++ds.map f,δ)
 | [],acc,_,_ => by simp
 | d :: ds,acc,h,hl => by
  have cj:(δ++[Sl.no]).set nn (.va d)=δ++[Sl.va d]:=by
   rw[Ek _ _ (by lia)]
   simp[hδ]
  have ay:(δ++[Sl.va d]).take nn=δ:=by rw[Co (by lia),Cg (by lia)]
  have au:acc.length<16777216:=by simp at hl;lia
  have ih:=V6 nn fe δ f hδ ds (acc++[f d]) (λe he=>h e (Ao _ he)) (by simp at hl⊢;lia)
  simp only[TU,ER,KU,cj,MP,F0,E5,h d Ba,E6,if_pos au,ay,ih]
  simp
theorem HP{α:Type}: ∀ds:List α,QE (ds.map λ_=> .bl true)=some (ds.map λ_=>true)
 |[]=>rfl
 |d::ds=>by simp[HP ds]
@[simp] theorem zII{α β:Type}(f:α->β)(ds:List α):QE (ds.map ((λ_=>dE.bl true)∘f))=some (ds.map λ_=>true):=HP ds
def Wd(w:Int):Prop:=0<=w/\w<=999
theorem A3{a b:Int}(ha:Wd a)(hb:Wd b):0<=a*b/\a*b<=998001:=by
 obtain⟨a0,a1⟩:=ha
 obtain⟨b0,b1⟩:=hb
 exact⟨Int.mul_nonneg a0 b0,Int.le_trans (Int.mul_le_mul a1 b1 b0 (by decide)) (by decide)⟩
theorem CQ{x:String}(hx:x∈["over","plus","minus","times","least","most","less"]) {a b:Int} (ha:Wd a) (hb:Wd b): ∃r,WD [.str x,.lst [.int a,.int b]]=some (r,[])/\((r= .non/\x= "over" /\b=0)∨ ∃w,r= .int w/\Wd w):=by
 have ab:=A3 ha hb
 obtain⟨a0,a1⟩:=ha
 obtain⟨b0,b1⟩:=hb
 have hc:CI a b=true:=by simp[CI];lia
 have hc2: -18446744073709551616<a/\a<18446744073709551616∨ -18446744073709551616<b/\b<18446744073709551616:=by lia
 unfold WD
 rw[cU]
 unfold KW
 simp only[Aj,Ay,or_false] at hx
 rcases hx with rfl|rfl|rfl|rfl|rfl|rfl|rfl
 ·by_cases h:b=0
  ·subst h
   have e:UE [.int a,.int 0]=some (.non,[]):=by
    unfold UE
    rw[cU]
    unfold K0
    simp[cR]
   exact⟨.non,by simp[cR,WG,bO,bV,W0,e,dE.hard],.inl ⟨rfl,rfl,rfl⟩⟩
  ·have hp : 0 < b := by lia
   have hq:b<1073741824:=by lia
   have q0:0<=a/b:=Pk a0 (by lia)
   have q1:a/b<=a:=Int.ediv_le_self _ a0
   have hr:a/b<9223372036854775808:=by lia
   have e:UE [.int a,.int b]=some (.int (a/b),[]):=by
    unfold UE
    rw[cU]
    unfold K0
    simp[cR,h,cDiv,hp,hq]
   exact⟨.int (a/b),by simp[cR,WG,bO,bV,W0,e,dE.hard],.inr ⟨_,rfl,q0,by lia⟩⟩
 ·have e:QA [.int a,.int b]=some (.int ((a+b) % 1000),[]):=by
   unfold QA
   rw[cU]
   unfold GG
   simp[cR,a9]
  exact⟨.int ((a+b) % 1000),by simp[cR,WG,bO,bV,W0,e,dE.hard],.inr ⟨_,rfl,by lia,by lia⟩⟩
 ·have e:TK [.int a,.int b]=some (.int ((a - b) % 1000),[]):=by
   unfold TK
   rw[cU]
   unfold KZ
   simp[cR,a9]
  exact⟨.int ((a - b) % 1000),by simp[cR,WG,bO,bV,W0,e,dE.hard],.inr ⟨_,rfl,by lia,by lia⟩⟩
 ·have e:TL [.int a,.int b]=some (.int (a*b % 1000),[]):=by
   unfold TL
   rw[cU]
   unfold K1
   simp[cR,a9,hc]
  exact⟨.int (a*b % 1000),by simp[cR,WG,bO,bV,W0,e,dE.hard],.inr ⟨_,rfl,by lia,by lia⟩⟩
 ·have e:TJ [.int a,.int b]=some (.int (if a<=b then a else b),[]):=by
   unfold TJ
   rw[cU]
   unfold KY
   by_cases h:a<=b
   ·have h' : ¬ b < a := by lia
    simp[cR,h,h']
   ·have h' : b < a := by lia
    simp[cR,h,h']
  exact⟨.int (if a<=b then a else b),by simp[cR,WG,bO,bV,W0,e,dE.hard],.inr ⟨_,rfl,by split<;>lia,by split<;>lia⟩⟩
 ·have e:P8 [.int a,.int b]=some (.int (if a<=b then b else a),[]):=by
   unfold P8
   rw[cU]
   unfold GC
   by_cases h:a<b
   ·have h' : a <= b := by lia
    simp[cR,h,h']
   ·by_cases h2:a=b
    ·subst h2
     simp[cR]
    ·have h' : ¬ a <= b := by lia
     simp[cR,h,h']
  exact⟨.int (if a<=b then b else a),by simp[cR,WG,bO,bV,W0,e,dE.hard],.inr ⟨_,rfl,by split<;>lia,by split<;>lia⟩⟩
 ·have e:P7 [.int a,.int b]=some (.int (if a<b then 1 else 0),[]):=by
   unfold P7
   rw[cU]
   unfold GB
   by_cases h:a<b<;>simp[cR,h]
  exact⟨.int (if a<b then 1 else 0),by simp[cR,WG,bO,bV,W0,e,dE.hard],.inr ⟨_,rfl,by split<;>lia,by split<;>lia⟩⟩
theorem DH{c a b:Int}(ha:Wd a)(hb:Wd b): ∃w,Wd w/\WD [.str "pick",.lst [.int c,.int a,.int b]]=some (.int w,[]):=by
 have e:P9 [.int c,.int a,.int b]=some (.int (if c=0 then b else a),[]):=by
  unfold P9
  rw[cU]
  unfold GF
  by_cases h:c=0<;>simp[cR,h]
 refine⟨if c=0 then b else a,by split<;>assumption,?_⟩
 unfold WD
 rw[cU]
 unfold KW
 simp[cR,e,dE.hard]
noncomputable def cnt:dE->Nat
 | .tup (.str x::_)=>if x= "number" ∨x= "load" then 0 else if x= "store" then 1 else if x= "pick" then 3 else 2
 |_=>0
theorem HU{cs:List Int}{i:Int}{w:Int}(h0:0<=i)(h1:i<cs.length)(hc: ∀c∈cs,Wd c)(hw:Wd w):ME cs.length i=some i.toNat/\(cs.map dE.int).set i.toNat (.int w)=(cs.set i.toNat w).map dE.int/\ ∀c∈cs.set i.toNat w,Wd c:=by
 refine⟨by unfold ME;rw[if_pos h0,if_pos h1],by rw[Nq],λc h=> ?_⟩
 rcases Gm h with z|z
 ·exact hc c z
 ·rw[z];exact hw
@[simp] theorem zLB{p:Int}{t:List dE}:cI [.tup (.str "load":: .int p::t)]=some (.int p,[]):=by unfold cI;rw[cU];unfold ZX;simp[cR,ZF,bS]
@[simp] theorem zLA{p:Int}{t:List dE}:cI [.tup (.str "take":: .int p::t)]=some (.int p,[]):=by unfold cI;rw[cU];unfold ZX;simp[cR,ZF,bS]
@[simp] theorem zL9{p:Int}{t:List dE}:cI [.tup (.str "store":: .int p::t)]=some (.int p,[]):=by unfold cI;rw[cU];unfold ZX;simp[cR,ZF,bS]
@[simp] theorem zL8{p:Int}{t:List dE}:cI [.tup (.str "put":: .int p::t)]=some (.int p,[]):=by unfold cI;rw[cU];unfold ZX;simp[cR,ZF,bS]
@[simp] theorem zL7{t:List dE}:cI [.tup (.str "pick"::t)]=some (.non,[]):=by unfold cI;rw[cU];unfold ZX;simp[cR,ZF,bS]
theorem dne{x:String}(hx:x∈["over","plus","minus","times","least","most","less"]) {y:String} (hy:(["over","plus","minus","times","least","most","less"].contains y)=false):(¬x=y)/\¬y=x:=by
 have h: ¬x=y:=λe=>by
  subst e
  rw[List.contains_iff_mem.mpr hx] at hy
  cases hy
 exact⟨h,λe=>h e.symm⟩
theorem zCM{x:String}(hx:x∈["over","plus","minus","times","least","most","less"]) {t:List dE}:cI [.tup (.str x::t)]=some (.non,[]):=by
 unfold cI;rw[cU];unfold ZX
 have z1:=(dne hx (y:= "load") (by decide)).2
 have z2:=(dne hx (y:= "take") (by decide)).2
 have z3:=(dne hx (y:= "store") (by decide)).2
 have z4:=(dne hx (y:= "put") (by decide)).2
 simp[cR,ZF,bS,z1,z2,z3,z4]
@[simp] theorem zOQ{d:dE}:ZE [.str "load",d]=some (.bl true,[]):=by kernel_rfl
@[simp] theorem zOP{d:dE}:ZE [.str "store",d]=some (.bl true,[]):=by kernel_rfl
@[simp] theorem zOO{a:Int}{ds:List dE}:ZE [.str "take",.lst (.int a::ds)]=some (.bl (!decide (a=0)),[]):=by unfold ZE;rw[cU];unfold T3;simp[cR]
@[simp] theorem zON{a b:Int}{ds:List dE}:ZE [.str "put",.lst (.int a:: .int b::ds)]=some (.bl (!decide (b=0)),[]):=by unfold ZE;rw[cU];unfold T3;simp[cR]
theorem XX{x:String}{p iy:Int}{t ws cs:List dE}{r:dE×List dE}{c:dE}(hx:x= "load" ∨x= "take" ∨x= "store" ∨x= "put") (h:bU [.str x,.int (p+iy),.lst ws,.lst cs]=some (r.1,[c])):ZP [.tup (.str x:: .int p::t),.lst ws,.lst cs,.int iy]=some (r.1,[c]):=by
 have hp:cI [.tup (.str x:: .int p::t)]=some (.int p,[]):=by rcases hx with rfl|rfl|rfl|rfl<;>simp
 have hn: ¬x= "number":=by rcases hx with rfl|rfl|rfl|rfl<;>decide
 unfold ZP;rw[cU];unfold V7
 simp[cR,h,hp,hn]
theorem zHH{n:Int}{iy:Int}{ds:List dE}{cs:List dE}:ZP [.tup [.str "number",.int n],.lst ds,.lst cs,.int iy]=some (.tup [.int n,.non],[.lst cs]):=by kernel_rfl
theorem SH{M:Int->Prop}{row:dE}(h:aY M row): ∃as:List Int,(∀a∈as,M a)/\as.length=cnt row/\Z9 [row]=some (.lst (as.map .int),[])/\aJ [row]=some (.lst (as.map .int),[]):=by
 cases h with
 | @number n _ _=>
  refine⟨[],(λ_ h=>nomatch h),by kernel_rfl,?_,?_⟩
  ·kernel_rfl
  ·kernel_rfl
 | @two x a b hx ha hb=>
  refine⟨[a,b],by simp[ha,hb],?_,?_,?_⟩
  ·simp only[Aj,Ay,or_false] at hx
   rcases hx with rfl|rfl|rfl|rfl|rfl|rfl|rfl<;>kernel_rfl
  ·simp only[Aj,Ay,or_false] at hx
   rcases hx with rfl|rfl|rfl|rfl|rfl|rfl|rfl<;>kernel_rfl
  ·simp only[Aj,Ay,or_false] at hx
   rcases hx with rfl|rfl|rfl|rfl|rfl|rfl|rfl<;>kernel_rfl
 | @pick c a b hc ha hb=>
  refine⟨[c,a,b],by simp[hc,ha,hb],by kernel_rfl,?_,?_⟩
  ·kernel_rfl
  ·kernel_rfl
 | @load p _ _=>
  refine⟨[],(λ_ h=>nomatch h),by kernel_rfl,?_,?_⟩
  ·kernel_rfl
  ·kernel_rfl
 | @take p c a _ _ hc ha=>
  refine⟨[c,a],by simp[hc,ha],by kernel_rfl,?_,?_⟩
  ·kernel_rfl
  ·kernel_rfl
 | @store p a _ _ ha=>
  refine⟨[a],by simp[ha],by kernel_rfl,?_,?_⟩
  ·kernel_rfl
  ·kernel_rfl
 | @put p a c _ _ ha hc=>
  refine⟨[a,c],by simp[ha,hc],by kernel_rfl,?_,?_⟩
  ·kernel_rfl
  ·kernel_rfl
inductive NG:dE->List Int->List Int->dE->List Int->Prop
 |number {n:Int} {cs:List Int}:Wd n->NG (.tup [.str "number",.int n]) [] cs (.int n) cs
 |two {x:String} {a b u v w:Int} {cs:List Int}:x∈["over","plus","minus","times","least","most","less"]->WD [.str x,.lst [.int u,.int v]]=some (.int w,[])->Wd w->NG (.tup [.str x,.int a,.int b]) [u,v] cs (.int w) cs
 |pick {c a b u v z w:Int} {cs:List Int}:WD [.str "pick",.lst [.int u,.int v,.int z]]=some (.int w,[])->Wd w->NG (.tup [.str "pick",.int c,.int a,.int b]) [u,v,z] cs (.int w) cs
 |load {p w:Int} {cs:List Int}:0<=p->p<cs.length->cs[p.toNat]? =some w->Wd w->NG (.tup [.str "load",.int p]) [] cs (.int w) cs
 |take0 {p c a v:Int} {cs:List Int}:Wd v->NG (.tup [.str "take",.int p,.int c,.int a]) [0,v] cs (.int v) cs
 |take {p c a u v w:Int} {cs:List Int}: ¬u=0->0<=p->p<cs.length->cs[p.toNat]? =some w->Wd w->NG (.tup [.str "take",.int p,.int c,.int a]) [u,v] cs (.int w) cs
 |store {p a u:Int} {cs:List Int}:0<=p->p<cs.length->Wd u->NG (.tup [.str "store",.int p,.int a]) [u] cs .non (cs.set p.toNat u)
 |put0 {p a c u:Int} {cs:List Int}:NG (.tup [.str "put",.int p,.int a,.int c]) [u,0] cs .non cs
 |put {p a c u v:Int} {cs:List Int}: ¬v=0->0<=p->p<cs.length->Wd u->NG (.tup [.str "put",.int p,.int a,.int c]) [u,v] cs .non (cs.set p.toNat u)
inductive B4:dE->List Int->List Int->String->Prop
 |over {a b u:Int} {cs:List Int}:B4 (.tup [.str "over",.int a,.int b]) [u,0] cs "nought"
 |load {p:Int} {cs:List Int}:(cs.length:Int)<=p->B4 (.tup [.str "load",.int p]) [] cs "beyond"
 |take {p c a u v:Int} {cs:List Int}: ¬u=0->(cs.length:Int)<=p->B4 (.tup [.str "take",.int p,.int c,.int a]) [u,v] cs "beyond"
 |store {p a u:Int} {cs:List Int}:(cs.length:Int)<=p->B4 (.tup [.str "store",.int p,.int a]) [u] cs "beyond"
 |put {p a c u v:Int} {cs:List Int}: ¬v=0->(cs.length:Int)<=p->B4 (.tup [.str "put",.int p,.int a,.int c]) [u,v] cs "beyond"
def DoR(row:dE)(zs cs:List Int)(m y:dE)(cs':List Int):Prop:=ZP [row,.lst (zs.map .int),.lst (cs.map .int),.int 0]=some (.tup [m,y],[.lst (cs'.map .int)])
theorem zBO{cs:List Int}{p:Int}(h0:0<=p)(h1:p<cs.length)(hc: ∀c∈cs,Wd c): ∃w,Wd w/\cs[p.toNat]? =some w/\WQ (cs.map dE.int) p=some (.int w):=by
 have hi:p.toNat<cs.length:=by lia
 refine⟨cs[p.toNat],hc _ (Hx hi),Br hi,?_⟩
 rw[ZC h0 (by simpa using h1),Cr,Br hi]
 rfl
theorem AX{M:Int->Prop}{row:dE}(h:aY M row)(zs cs:List Int)(hz:zs.length=cnt row)(hzs: ∀w∈zs,Wd w)(hcs: ∀c∈cs,Wd c):
  (∃m cs1,NG row zs cs m cs1/\DoR row zs cs m .non cs1)∨ ∃s,B4 row zs cs s/\DoR row zs cs .non (.str s) cs:=by
 unfold DoR
 cases h with
 | @number n n0 n1=>
  have hc:cnt (.tup [.str "number",.int n])=0:=by kernel_rfl
  rw[hc] at hz
  match zs,hz with
  | [],_ => exact .inl ⟨.int n,cs,.number ⟨n0,n1⟩,zHH⟩
 | @two x a b hx _ _=>
  have hc:cnt (.tup [.str x,.int a,.int b])=2:=by
   simp only[Aj,Ay,or_false] at hx
   rcases hx with rfl|rfl|rfl|rfl|rfl|rfl|rfl<;>kernel_rfl
  rw[hc] at hz
  match zs,hz with
  |[u,v],_=>
   obtain⟨r,e2,e3⟩:=CQ hx (hzs u (by simp)) (hzs v (by simp))
   have hp:=zCM hx (t:=[.int a,.int b])
   have z1:=(dne hx (y:= "number") (by decide)).1
   rcases e3 with⟨rfl,rfl,rfl⟩|⟨w,rfl,hw⟩
   ·refine .inr ⟨"nought",.over,?_⟩
    unfold ZP
    rw[cU]
    unfold V7
    simp[cR,hp,e2]
   ·refine .inl ⟨.int w,cs,.two hx e2 hw,?_⟩
    unfold ZP
    rw[cU]
    unfold V7
    simp[cR,hp,e2,z1]
 | @pick c a b _ _ _=>
  have hc:cnt (.tup [.str "pick",.int c,.int a,.int b])=3:=by kernel_rfl
  rw[hc] at hz
  match zs,hz with
  |[u,v,z],_=>
   obtain⟨w,h1,e2⟩:=DH (c:=u) (hzs v (by simp)) (hzs z (by simp))
   refine .inl ⟨.int w,cs,.pick e2 h1,?_⟩
   unfold ZP
   rw[cU]
   unfold V7
   simp[cR,e2]
 | @load p p0 p1=>
  have hc:cnt (.tup [.str "load",.int p])=0:=by kernel_rfl
  rw[hc] at hz
  match zs,hz with
  |[],_=>
   by_cases hb:(cs.length:Int)<=p
   ·refine .inr ⟨"beyond",.load hb,?_⟩
    refine XX (r:=(_,[])) (by simp) ?_
    unfold bU;rw[cU];unfold bI;simp[cR,hb]
   ·obtain ⟨w,h1,h2,e⟩ := zBO p0 (by lia) hcs
    refine .inl ⟨.int w,cs,.load p0 (by lia) h2 h1,?_⟩
    refine XX (r:=(_,[])) (by simp) ?_
    unfold bU;rw[cU];unfold bI;simp[cR,hb,e,bS]
 | @take p c a p0 p1 _ _=>
  have hc:cnt (.tup [.str "take",.int p,.int c,.int a])=2:=by kernel_rfl
  rw[hc] at hz
  match zs,hz with
  |[u,v],_=>
   by_cases hu:u=0
   ·subst hu
    refine .inl ⟨.int v,cs,.take0 (hzs v (by simp)),?_⟩
    refine XX (r:=(_,[])) (by simp) ?_
    unfold bU;rw[cU];unfold bI;simp[cR]
   ·by_cases hb:(cs.length:Int)<=p
    ·refine .inr ⟨"beyond",.take hu hb,?_⟩
     refine XX (r:=(_,[])) (by simp) ?_
     unfold bU;rw[cU];unfold bI;simp[cR,hu,hb]
    ·obtain ⟨w,h1,h2,e⟩ := zBO p0 (by lia) hcs
     refine .inl ⟨.int w,cs,.take hu p0 (by lia) h2 h1,?_⟩
     refine XX (r:=(_,[])) (by simp) ?_
     unfold bU;rw[cU];unfold bI;simp[cR,hu,hb,e,bS]
 | @store p a p0 p1 _=>
  have hc:cnt (.tup [.str "store",.int p,.int a])=1:=by kernel_rfl
  rw[hc] at hz
  match zs,hz with
  |[u],_=>
   have hu:=hzs u (by simp)
   by_cases hb:(cs.length:Int)<=p
   ·refine .inr ⟨"beyond",.store hb,?_⟩
    refine XX (r:=(_,[])) (by simp) ?_
    unfold bU;rw[cU];unfold bI;simp[cR,hb]
   ·obtain ⟨e1,e2,e3⟩ := HU p0 (by lia) hcs hu
    refine .inl ⟨.non,cs.set p.toNat u,.store p0 (by lia) hu,?_⟩
    refine XX (r:=(_,[])) (by simp) ?_
    unfold bU;rw[cU];unfold bI;simp[cR,hb,e1,Nq,bS]
 | @put p a c p0 p1 _ _=>
  have hc:cnt (.tup [.str "put",.int p,.int a,.int c])=2:=by kernel_rfl
  rw[hc] at hz
  match zs,hz with
  |[u,v],_=>
   have hu:=hzs u (by simp)
   by_cases hv:v=0
   ·subst hv
    refine .inl ⟨.non,cs,.put0,?_⟩
    refine XX (r:=(_,[])) (by simp) ?_
    unfold bU;rw[cU];unfold bI;simp[cR]
   ·by_cases hb:(cs.length:Int)<=p
    ·refine .inr ⟨"beyond",.put hv hb,?_⟩
     refine XX (r:=(_,[])) (by simp) ?_
     unfold bU;rw[cU];unfold bI;simp[cR,hv,hb]
    ·obtain ⟨e1,e2,e3⟩ := HU p0 (by lia) hcs hu
     refine .inl ⟨.non,cs.set p.toNat u,.put hv p0 (by lia) hu,?_⟩
     refine XX (r:=(_,[])) (by simp) ?_
     unfold bU;rw[cU];unfold bI;simp[cR,hv,hb,e1,Nq,bS]
theorem NG.len{row m:dE}{zs cs cs1:List Int}(h:NG row zs cs m cs1):cs1.length=cs.length:=by cases h<;>simp
theorem NG.ok{row m:dE}{zs cs cs1:List Int}(h:NG row zs cs m cs1)(hcs: ∀c∈cs,Wd c): ∀c∈cs1,Wd c:=by
 cases h with
 |store _ _ hu=>
  intro c hc
  rcases Gm hc with z|z
  ·exact hcs c z
  ·rw[z];exact hu
 |put _ _ _ hu=>
  intro c hc
  rcases Gm hc with z|z
  ·exact hcs c z
  ·rw[z];exact hu
 |_=>exact hcs
theorem NG.word{row m:dE}{zs cs cs1:List Int}(h:NG row zs cs m cs1)(hk:RT .w row= .w): ∃w,Wd w/\m= .int w:=by
 cases h with
 |store=>simp[RT,bV] at hk
 |put0=>simp[RT,bV] at hk
 |put=>simp[RT,bV] at hk
 |number hw=>exact⟨_,hw,rfl⟩
 |two _ _ hw=>exact⟨_,hw,rfl⟩
 |pick _ hw=>exact⟨_,hw,rfl⟩
 |load _ _ _ hw=>exact⟨_,hw,rfl⟩
 |take0 hw=>exact⟨_,hw,rfl⟩
 |take _ _ _ _ hw=>exact⟨_,hw,rfl⟩
theorem NG.made{row m:dE}{zs cs cs1:List Int}(h:NG row zs cs m cs1):RU 0 m:=by
 cases h<;>first
  |exact Z5
  |exact K9
theorem JI(k:Nat):(bD 0 k).length=k:=by simp[bD]
theorem zBM{cs:List Int}{sure:Int}(hcs: ∀c∈cs,Wd c)(h1:sure<=cs.length)(h2:cs.length<=64):XY [.lst (cs.map .int),.int sure]=some (.bl true,[]):=by
 have e:=V6 0 (cV 3 [] bK (aE (fV 0) (aE (fC (.int 0)) (aE (fC a9) cG)))) [] (λ_=> .bl true) rfl (cs.map .int) [] (λx hx=>by
  obtain⟨w,hw',rfl⟩:=Bx.mp hx
  have:=hcs w hw'
  simp[a9,this.1,this.2]) (by simp;lia)
 have h3:(cs.length:Int)<=64:=by lia
 unfold XY
 rw[cU]
 unfold RY
 simp only[Dh] at e
 simp[cR,VL,h1,h3,bX,e]
theorem zBN(ns:List Int)(n:Nat)(sure:Int)(hl:ns.length<=63)(hn:n<10000)(h0:0<=sure)(h1:sure<=64): ∃(cs:List Int) (n':Nat),(∀c∈cs,Wd c)/\sure<=cs.length/\cs.length<=64/\n'<=n+67/\YK [WB ns,W4 n,.int sure]=some (.lst (cs.map .int),[W4 n']):=by
 have d0:=YC ns n 9 hl (by lia) (by decide)
 have k0:=RA ns n (b:=9) (by decide)
 obtain⟨y,hy,ey⟩:=XF ns (n+1) [.int sure,.int (if sure+NP ns n 9<64 then sure+NP ns n 9 else 64),.int 64] hl (by lia) (by simp)
 obtain⟨m,rfl,m0,m1⟩: ∃m:Int,y= .int m/\sure<=m/\m<=64:=by
  simp only[Aj,Ay,or_false] at hy
  rcases hy with h|h|h
  ·exact⟨_,h,by lia,by lia⟩
  ·exact⟨_,h,by split<;>lia,by split<;>lia⟩
  ·exact⟨_,h,by lia,by lia⟩
 obtain⟨z,hz,ez⟩:=XF ns (n+2) [.int 2,.int 4,.int 1000] hl (by lia) (by simp)
 obtain⟨b,rfl,b0,b1⟩: ∃b:Int,z= .int b/\0<b/\b<=1000:=by
  simp only[Aj,Ay,or_false] at hz
  rcases hz with h|h|h<;>exact⟨_,h,by lia,by lia⟩
 have hrl:=JI m.toNat
 obtain⟨ws,w1,w2,w3⟩:=L3 ns b hl b0 (cV 3 [1] cD (aE (fV 0) (aO 1 (aE (fV 2) cG)))) .no [.va (.int b)] 3 rfl (λq d hq=>by simp[YC ns q b hl (by lia) b0]) (bD 0 m.toNat) (n+3) [] (by rw[hrl];lia) (by rw[hrl];simp;lia)
 simp only[Dh,hrl,Fn] at w3
 rw[hrl] at w1
 have hm:(-4611686018427387904:Int)<=m/\m<4611686018427387904:=by lia
 refine⟨ws,n+3+m.toNat,λc hc=> ?_,by lia,by lia,by lia,?_⟩
 ·have:=w2 c hc
  exact⟨by lia,by lia⟩
 ·unfold YK
  rw[cU]
  unfold UK
  simp[cR,d0,ey,ez,hm,bX,w3]
theorem II: ∀(ks:List aR) (ws:List dE) (i:Nat) (k:aR),ks.Nodup->ks.length=ws.length->ks[i]? =some k->bO ks ws k=ws[i]?
 |[],_,i,k,_,_,e=>by simp at e
 |k'::ks,[],i,k,_,hl,_=>by simp at hl
 |k'::ks,w::ws,0,k,_,_,e=>by simp at e;simp[bO,e]
 |k'::ks,w::ws,i+1,k,nd,hl,e=>by
  have e':ks[i]? =some k:=by simpa using e
  have hne: ¬k'=k:=λz=>(Ct.mp nd).1 (by rw[z];exact Eb e')
  have:=II ks ws i k (Ct.mp nd).2 (by simpa using hl) e'
  simp[bO,hne,this]
structure Ws(kds:List Kd)(ws:List dE):Prop where
 len:ws.length=kds.length
 wd: ∀a,Nm kds .w a-> ∃x,Wd x/\WQ ws a=some (.int x)
theorem Ws.nil:Ws [] []:=⟨rfl,λa h=>by have:=h.2;simp at this⟩
theorem Ws.snoc{kds:List Kd}{ws:List dE}{k:Kd}{m:dE}(W:Ws kds ws)(h:k= .w-> ∃x,Wd x/\m= .int x):Ws (kds++[k]) (ws++[m]):=by
 refine⟨by simp[W.len],λa ha=> ?_⟩
 have h0:=ha.1
 have hlt:=ha.lt
 have hl:=W.len
 rw[Bv,Dt] at hlt
 rw[ZC h0 (by simp;lia)]
 by_cases hi:a.toNat<kds.length
 ·obtain ⟨x,hx,e⟩ := W.wd a ⟨h0,by have := ha.2;rwa [Ae hi] at this⟩
  rw[ZC h0 (by lia)] at e
  exact⟨x,hx,by rw[Ae (by lia)];exact e⟩
 ·have hii : a.toNat = kds.length := by lia
  have e:=ha.2
  rw[hii] at e
  simp at e
  obtain⟨x,hx,rfl⟩:=h e
  exact⟨x,hx,by rw[hii,<- hl];simp⟩
def wv(lm:List dE)(a:Int):Int:=match WQ lm a with
 |some (.int x)=>x
 |_=>0
theorem Ws.word{kds:List Kd}{ws:List dE}{a:Int}(W:Ws kds ws)(h:Nm kds .w a):WQ ws a=some (.int (wv ws a))/\Wd (wv ws a):=by
 obtain⟨x,hx,e⟩:=W.wd a h
 unfold wv
 rw[e]
 exact⟨rfl,hx⟩
noncomputable def fW(lm:List dE):dE->dE
 | .int a=> .int (wv lm a)
 |_=> .non
theorem zHP(lm:List dE)(as:List Int):(as.map dE.int).map (fW lm)=(as.map (wv lm)).map dE.int:=by simp[fW]
theorem zI7(row:dE):cnt row<=3:=by
 unfold cnt
 split
 ·split
  ·lia
  ·split
   ·lia
   ·split<;>lia
 ·lia
theorem HI{as:List Int}{d:dE}{ws:List dE}(has:as.length<=3)(h: ∀a∈as,cJ d (.int a)=some (.int (wv ws a))):aF 1 1 (gN 1) WY (f2 cJ (fO 0) (fV 1)) (as.map .int) [] [.ow d]=some ((as.map (wv ws)).map .int,[.ow d]):=by
 rw[V6 1 _ [.ow d] (fW ws) rfl _ [] (λe he=> ?_) (by simp;lia),zHP]
 ·rfl
 ·obtain⟨a,ha,rfl⟩:=Bx.mp he
  simp[h a ha,fW]
inductive Bl:List Kd->List dE->List Kd->Prop
 |nil {kds:List Kd}:Bl kds [] kds
 |cons {kds aj:List Kd} {row:dE} {rows:List dE}:aY (Nm kds .w) row->Bl (kds++[RT .w row]) rows aj->Bl kds (row::rows) aj
theorem Bl.snoc{kds aj:List Kd}{rows:List dE}{row:dE}(h:Bl kds rows aj)(r:aY (Nm aj .w) row):Bl kds (rows++[row]) (aj++[RT .w row]):=by
 induction h with
 |nil=>exact .cons r .nil
 |cons a _ ih=>exact .cons a (ih r)
theorem Bl.len{kds aj:List Kd}{rows:List dE}(h:Bl kds rows aj):aj.length=kds.length+rows.length:=by
 induction h with
 |nil=>simp
 |cons _ _ ih=>simp only[ih,Bv,Bo,Fy];lia
theorem Bl.all{kds aj:List Kd}{rows:List dE}(h:Bl kds rows aj): ∀d∈rows,aY (Nm aj .w) d:=by
 induction h with
 | nil => intro d hd;cases hd
 | @cons kds aj row rows a t ih=>
  intro d hd
  rcases Aj.mp hd with rfl|hd
  ·refine a.imp λx hx => ?_
   have: ∀{k k':List Kd} {rs:List dE},Bl k rs k'->Nm k .w x->Nm k' .w x:=by
    intro k k' rs h
    induction h with
    |nil=>exact id
    |cons _ _ ih=>exact λz=>ih z.snoc
   exact this t hx.snoc
  ·exact ih d hd
theorem QN: ∀ns:List Int,WO (ns.map .int)=some ns
 |[]=>rfl
 |i::ns=>by
  show(WO (ns.map .int)).map (λns=>i::ns)=_
  rw[QN ns]
  rfl
theorem EX{n:Int}: ∀{ns:List Int},n∈ns-> ∃j:Nat,WL n ns=some j/\j<ns.length
 | i :: ns,h => by
  unfold WL
  by_cases e:i=n
  ·rw [if_pos e];exact ⟨0,rfl,by simp⟩
  ·rw[if_neg e]
   obtain⟨j,h1,h2⟩:=EX (ns:=ns) (by
    rcases Aj.mp h with z|z
    ·exact absurd z.symm e
    ·exact z)
   exact⟨j+1,by rw[h1];rfl,by simp;lia⟩
noncomputable def BX(ns:List Int)(n:Nat)(rows:List dE)(made:List Int)(sn:dE)(ae:Int)(last:dE)(fi:Int)(bs:List Int)(s9 s10:Sl):Ev:=
 [.va (WB ns),.ow (W4 n),.va (.lst rows),.va (.lst (made.map .int)),.ow sn,.va (.int ae),.va last,.va (.int fi),.ow (.lst (bs.map .int)),s9,s10]
theorem zHI(ns:List Int)(n:Nat)(rows:List dE)(made:List Int)(sn:dE)(ae:Int)(last:dE)(fi:Int)(bs:List Int)(a:Int)(s10:Sl)(hl:ns.length<=63)(hn:n<700000)(ha:a∈made)(hb:bs.length<100):
  ∃b∈made,∃fw,Y3 (BX ns n rows made sn ae last fi bs (.va (.int a)) s10)=some (.nx (BX ns (n+1) rows made sn ae last fi (bs++[b]) (.va (.int a)) fw)):=by
 obtain⟨j,hj,hj2⟩:=EX ha
 obtain⟨x,hx,ex⟩:=XF ns n [.int 1,.int 1,.int 1,.int 1,.int (-1),.int 0,.int 2] hl (by lia) (by simp)
 obtain⟨p,rfl⟩: ∃p,x= .int p:=by
  simp only[Aj,Ay,or_false] at hx
  rcases hx with rfl|rfl|rfl|rfl|rfl|rfl|rfl<;>exact⟨_,rfl⟩
 have hi:GK (.lst (made.map .int)) (.int a)=some (.int j):=by
  show(WO (made.map .int)).bind (λns=>(WL a ns).map λj=>dE.int j)=_
  rw[QN,Ak,hj]
  rfl
 have hb':bs.length<16777216:=by lia
 by_cases h1:0<=(j:Int)+p/\(j:Int)+p<made.length
 ·obtain⟨q,hq,eq⟩:=OZ (ns:=made) h1.1 h1.2
  by_cases h2:q=(rows.length:Int) - 1
  ·refine⟨a,ha,.va (.int (j+p)),?_⟩
   unfold Y3
   simp[BX,hi,ex,h1.1,h1.2,eq,h2,hb']
  ·refine⟨q,hq,.va (.int (j+p)),?_⟩
   unfold Y3
   simp[BX,hi,ex,h1.1,h1.2,eq,h2,hb']
 ·refine⟨a,ha,.va (.int (j+p)),?_⟩
  unfold Y3
  by_cases h3:0<=(j:Int)+p
  ·have h4 : ¬ (j : Int) + p < made.length := λz => h1 ⟨h3,z⟩
   simp[BX,hi,ex,h3,h4,hb']
  ·simp[BX,hi,ex,h3,hb']
theorem GJ(ns:List Int)(rows:List dE)(made:List Int)(sn:dE)(ae:Int)(last:dE)(fi:Int)(hl:ns.length<=63): ∀(as:List Int) (n:Nat) (bs:List Int) (s9 s10:Sl),n+as.length<700000->(∀a∈as,a∈made)->bs.length+as.length<100→
  ∃cs:List Int,(∀c∈cs,c∈made)/\cs.length=as.length/\ ∃s9' fw,XN (gN 9) Y3 (as.map .int) (BX ns n rows made sn ae last fi bs s9 s10)=some (.nx (BX ns (n+as.length) rows made sn ae last fi (bs++cs) s9' fw))
 | [],n,bs,s9,s10,_,_,_ => ⟨[],by simp,rfl,s9,s10,by simp⟩
 | a :: as,n,bs,s9,s10,hn,ha,hb => by
  simp only[Bo] at hn hb
  obtain⟨b,hb1,u10,e⟩:=zHI ns n rows made sn ae last fi bs a s10 hl (by lia) (ha a Ba) (by lia)
  obtain⟨cs,h1,h2,s9',fw,ih⟩:=GJ ns rows made sn ae last fi hl as (n+1) (bs++[b]) (.va (.int a)) u10 (by lia) (λx hx=>ha x (Ao _ hx)) (by simp;lia)
  refine⟨b::cs,λc hc=> ?_,by simp[h2],s9',fw,?_⟩
  ·rcases Aj.mp hc with rfl|hc
   ·exact hb1
   ·exact h1 c hc
  rw[Az,WH,KU,RN,show(BX ns n rows made sn ae last fi bs s9 s10).set 9 (.va (.int a))=BX ns n rows made sn ae last fi bs (.va (.int a)) s10 from rfl,e,P2,ih]
  simp[Qn,Nat.add_comm 1]
theorem cel4{x:String}(h:J6 x):(decide ("load"=x) || (decide ("take"=x) || (decide ("store"=x) || decide ("put"=x))))=true:=by
 rcases h with rfl|rfl|rfl|rfl<;>decide
theorem snM{m k:Nat}{d:dE}(h:Sn m d)(hk:m<=k):Sn k d:=by
 obtain⟨ks,vs,e,h1,h2,h3⟩:=h
 exact⟨ks,vs,e,h1,h2,by lia⟩
theorem O8(ns:List Int)(n:Nat)(rows:List dE)(made:List Int)(sn:dE)(ae:Int){x:String}{p:Int}{as:List Int}{m:Nat}(hl:ns.length<=63)(hn:n<600000)(hm:m<8000000)(hs:Sn m sn)(hr:0<ae)(hx:J6 x)(aw:WQ rows (-1)=some (.tup (.str x:: .int p::as.map .int)))(ha: ∀a∈as,a∈made)(h3:as.length<=3):
  ∃(q:Int) (cs:List Int) (sn':dE),0<=q/\q<ae/\(∀c∈cs,c∈made)/\cs.length=as.length/\Sn (m+1) sn'/\ZJ [WB ns,W4 n,.lst rows,.lst (made.map .int),sn,.int ae]=some (.tup (.str x:: .int q::cs.map .int),[W4 (n+as.length),sn']):=by
 obtain⟨cs,h1,h2,s9,s10,e⟩:=GJ ns rows made sn ae (.tup (.str x:: .int p::as.map .int)) 2 hl as n [] .no .no (by lia) ha (by simp;lia)
 simp only[BX,Dh,Du] at e
 obtain⟨ks,vs,rfl,k1,k2,k3⟩:=hs
 obtain⟨ks',vs',pe,h4,h5,h6,h7,h8⟩:=putI ks vs (.inr (x:Str)) ((p+1) % ae) k1 k2
 have hk:ks.length<16777216:=by lia
 refine⟨(p+1) % ae,cs,.dct ks' (vs'.map .int),Hh _ (by lia),Em _ hr,h1,h2,⟨ks',vs',rfl,h4,h5,by lia⟩,?_⟩
 unfold ZJ
 rw[cU,VR.eq_1]
 have hin:=cel4 hx
 have gd:WR (.str x:: .int p::as.map dE.int) (some 2) none=as.map dE.int:=by
  have:=TW (ds:= .str x:: .int p::as.map dE.int) (k:=2) (by simp)
  simpa using this
 have hcl:2+cs.length<=16777216:=by lia
 simp[cR,aw,hin,gd,e,hr,hk,k2,pe,h8,hcl]
theorem off4{x:String}(h: ¬J6 x):(¬x= "load" /\¬ "load"=x)/\(¬x= "take" /\¬ "take"=x)/\(¬x= "store" /\¬ "store"=x)/\¬x= "put" /\¬ "put"=x:=by refine⟨⟨λz=>h (.inl z),λz=>h (.inl z.symm)⟩,⟨λz=>h (.inr (.inl z)),λz=>h (.inr (.inl z.symm))⟩,⟨λz=>h (.inr (.inr (.inl z))),λz=>h (.inr (.inr (.inl z.symm)))⟩,λz=>h (.inr (.inr (.inr z))),λz=>h (.inr (.inr (.inr z.symm)))⟩
theorem IP(ns:List Int)(n:Nat)(rows:List dE)(made:List Int)(sn:dE)(ae:Int){x:String}{as:List Int}(hl:ns.length<=63)(hn:n<600000)(hx: ¬J6 x)(aw:WQ rows (-1)=some (.tup (.str x::as.map .int)))(ha: ∀a∈as,a∈made)(h3:as.length<=3):
  ∃cs:List Int,(∀c∈cs,c∈made)/\cs.length=as.length/\ZJ [WB ns,W4 n,.lst rows,.lst (made.map .int),sn,.int ae]=some (.tup (.str x::cs.map .int),[W4 (n+as.length),sn]):=by
 obtain⟨cs,h1,h2,s9,s10,e⟩:=GJ ns rows made sn ae (.tup (.str x::as.map .int)) 1 hl as n [] .no .no (by lia) ha (by simp;lia)
 simp only[BX,Dh,Du] at e
 refine⟨cs,h1,h2,?_⟩
 unfold ZJ
 rw[cU,VR.eq_1]
 obtain⟨⟨_,z1⟩,⟨_,z2⟩,⟨_,z3⟩,_,z4⟩:=off4 hx
 have gd:WR (.str x::as.map dE.int) (some 1) none=as.map dE.int:=by
  have:=TW (ds:= .str x::as.map dE.int) (k:=1) (by simp)
  simpa using this
 have oh:WR (.str x::as.map dE.int) none (some 1)=[.str x]:=by
  have:=TY (ds:= .str x::as.map dE.int) (k:=1)
  simpa using this
 have hcl:1+cs.length<=16777216:=by lia
 simp[cR,aw,z1,z2,z3,z4,gd,oh,e,hcl]
theorem zCY(ns:List Int)(n:Nat)(rows:List dE)(made:List Int)(sn:dE)(ae:Int){last:dE}{m:Nat}(hl:ns.length<=63)(hn:n<600000)(hm:m<8000000)(hs:Sn m sn)(hr:0<ae)(hr2:ae<=64)(aw:WQ rows (-1)=some last)(ok:aY (· ∈made) last)(nn: ∀k,last≠ .tup [.str "number",.int k]):
  ∃row n' sn',n<=n'/\n'<=n+3/\Sn (m+1) sn'/\aY (· ∈made) row/\ZJ [WB ns,W4 n,.lst rows,.lst (made.map .int),sn,.int ae]=some (row,[W4 n',sn']):=by
 cases ok with
 |number=>exact absurd rfl (nn _)
 | @two x a b hx ha hb=>
  obtain⟨cs,h1,h2,e⟩:=IP ns n rows made sn ae (x:=x) (as:=[a,b]) hl hn (FN hx) aw (by simp[ha,hb]) (by simp)
  match cs,h2 with
  |[c,d],_=>exact⟨_,n+2,sn,by lia,by lia,snM hs (by lia),.two hx (h1 c (by simp)) (h1 d (by simp)),e⟩
 | @pick c a b hc ha hb=>
  obtain⟨cs,h1,h2,e⟩:=IP ns n rows made sn ae (x:= "pick") (as:=[c,a,b]) hl hn (λz=>by rcases z with z|z|z|z<;>exact absurd z (by decide)) aw (by simp[ha,hb,hc]) (by simp)
  match cs,h2 with
  |[c,d,f],_=>exact⟨_,n+3,sn,by lia,by lia,snM hs (by lia),.pick (h1 c (by simp)) (h1 d (by simp)) (h1 f (by simp)),e⟩
 | @load p p0 p1=>
  obtain⟨q,cs,sn',q0,q1,h1,h2,hs',e⟩:=O8 ns n rows made sn ae (x:= "load") (p:=p) (as:=[]) hl hn hm hs hr (.inl rfl) aw (by simp) (by simp)
  match cs,h2 with
  |[],_=>exact⟨_,n+0,sn',by lia,by lia,hs',.load q0 (by lia),e⟩
 | @take p c a p0 p1 hc ha=>
  obtain⟨q,cs,sn',q0,q1,h1,h2,hs',e⟩:=O8 ns n rows made sn ae (x:= "take") (p:=p) (as:=[c,a]) hl hn hm hs hr (.inr (.inl rfl)) aw (by simp[hc,ha]) (by simp)
  match cs,h2 with
  |[c,d],_=>exact⟨_,n+2,sn',by lia,by lia,hs',.take q0 (by lia) (h1 c (by simp)) (h1 d (by simp)),e⟩
 | @store p a p0 p1 ha=>
  obtain⟨q,cs,sn',q0,q1,h1,h2,hs',e⟩:=O8 ns n rows made sn ae (x:= "store") (p:=p) (as:=[a]) hl hn hm hs hr (.inr (.inr (.inl rfl))) aw (by simp[ha]) (by simp)
  match cs,h2 with
  |[c],_=>exact⟨_,n+1,sn',by lia,by lia,hs',.store q0 (by lia) (h1 c (by simp)),e⟩
 | @put p a c p0 p1 ha hc=>
  obtain⟨q,cs,sn',q0,q1,h1,h2,hs',e⟩:=O8 ns n rows made sn ae (x:= "put") (p:=p) (as:=[a,c]) hl hn hm hs hr (.inr (.inr (.inr rfl))) aw (by simp[ha,hc]) (by simp)
  match cs,h2 with
  |[c,d],_=>exact⟨_,n+2,sn',by lia,by lia,hs',.put q0 (by lia) (h1 c (by simp)) (h1 d (by simp)),e⟩
structure RI(rows:List dE)(made:List Int)(kds:List Kd):Prop where
 bl:Bl [] rows kds
 ex: ∀a,a∈made↔Nm kds .w a
 ml:made.length<=rows.length
theorem RI.len{rows:List dE}{made:List Int}{kds:List Kd}(h:RI rows made kds):kds.length=rows.length:=by
 have:=h.bl.len
 simpa using this
theorem zCX{kds:List Kd}{k:Kd}{a:Int}:Nm (kds++[k]) .w a↔Nm kds .w a∨(k= .w/\a=kds.length):=by
 constructor
 ·intro h
  have h0:=h.1
  have hl:=h.lt
  rw[Bv,Dt] at hl
  by_cases hi:a.toNat<kds.length
  ·exact .inl ⟨h0,by have := h.2;rwa [Ae hi] at this⟩
  ·have hi : a.toNat = kds.length := by lia
   have e:=h.2
   rw[hi] at e
   simp at e
   exact .inr ⟨e,by lia⟩
 ·rintro (h|⟨rfl,rfl⟩)
  ·exact h.snoc
  ·exact Nm.new
theorem RI.more{rows:List dE}{made:List Int}{kds:List Kd}{row:dE}(h:RI rows made kds)(r:aY (· ∈made) row):RI (rows++[row]) (if RT .w row= .w then made++[(rows.length:Int)] else made) (kds++[RT .w row]):=by
 refine⟨h.bl.snoc (r.imp λa ha=>(h.ex a).mp ha),λa=> ?_,?_⟩
 ·rw[zCX,<- h.ex a,h.len]
  split
  ·rename_i e
   simp[e]
  ·rename_i e
   simp[e]
 ·have:=h.ml
  split<;>simp<;>lia
theorem RI.last{rs:List dE}{last:dE}{made:List Int}{kds:List Kd}(h:RI (rs++[last]) made kds):aY (· ∈made) last:=(h.bl.all last (by simp)).imp λa ha=>(h.ex a).mpr ha
noncomputable def PM(ns:List Int)(n:Nat)(many ae:Int)(rows:List dE)(made:List Int)(sn:dE)(s7:Sl):Ev:=
 [.va (WB ns),.ow (W4 n),.va (.int many),.va (.int ae),.ow (.lst rows),.ow (.lst (made.map .int)),.ow sn,s7]
theorem MA: ∀vs:List Int,VA (vs.map .int)=true
 |[]=>rfl
 |_::vs=>by
  show((dE.int _).hard && VA (vs.map .int))=true
  rw[MA vs]
  rfl
theorem FJ{m:Nat}{sn:dE}(h:Sn m sn):UQ sn=true:=by
 obtain⟨ks,vs,rfl,_⟩:=h
 exact MA vs
theorem EN{row:dE}(x:String)(t:List dE)(e:row= .tup (.str x::t)):RT .w row= .w↔ ¬(x= "store" ∨x= "put"):=by
 subst e
 by_cases h:x= "store" ∨x= "put"
 ·rw[zK2 h];simp[h]
 ·have : x ∉ ["store","put"] := by simpa using h
  rw[zK3 this];simp[h]
theorem zFJ(ns:List Int)(n:Nat)(many ae:Int){rows:List dE}{made:List Int}{kds:List Kd}{sn:dE}{m:Nat}(s7:Sl)(hl:ns.length<=63)(hn:n<600000)(hm:m<8000000)(hs:Sn m sn)(hr:0<ae)(hr2:ae<=64)(R:RI rows made kds)(h0:rows≠[])(ai:rows.length<1000):
  ∃am ar aj n' sn',RI am ar aj/\rows.length<=am.length/\((rows.length:Int)<=many->(am.length:Int)<=many)/\am.length<=rows.length+1/\n<=n'/\n'<=n+3/\Sn (m+1) sn'/\Y4 (PM ns n many ae rows made sn s7)=some (.nx (PM ns n' many ae am ar sn' s7)):=by
 obtain⟨rs,last,rfl⟩: ∃rs last,rows=rs++[last]:=⟨rows.dropLast,rows.getLast h0,(Ig h0).symm⟩
 have ok:=R.last
 have aw:=Q4 rs last
 have hml:made.length<16777216:=by have:=R.ml;lia
 have hrl:(rs++[last]).length<16777216:=by lia
 generalize r9:rs++[last]=rows at*
 obtain⟨x,t,e0,_⟩:=RO ok
 by_cases h1:(rows.length:Int)<many
 ·by_cases h2:x= "number"
  ·refine ⟨rows,made,kds,n,sn,R,Ap _,id,by lia,by lia,by lia,snM hs (by lia),?_⟩
   unfold Y4
   simp[PM,h1,aw,e0,h2]
  ·obtain ⟨row,n',sn',n0,n1,hs',okr,e⟩ := zCY ns n rows made sn ae hl hn hm hs hr hr2 aw ok (λk z => by rw [e0] at z;simp [bV] at z;exact h2 z.1)
   obtain⟨y,u,e1,_⟩:=RO okr
   have hl2:=Q4 rows row
   refine⟨_,_,_,n',sn',R.more okr,by simp,by simp;lia,by simp,n0,n1,hs',?_⟩
   unfold Y4
   have key:=EN y u e1
   have hrd:=okr.hard
   rw[e1] at hrd
   have hsn:=FJ hs'
   by_cases h3:y= "store" ∨y= "put"
   ·rw [if_neg (by rw [key];simp [h3])]
    rcases h3 with rfl|rfl
    ·simp[PM,h1,aw,e0,h2,e,hl2,e1,hrl,hrd,hsn]
    ·simp[PM,h1,aw,e0,h2,e,hl2,e1,hrl,hrd,hsn]
   ·rw [if_pos (by rw [key];exact h3)]
    have z1: ¬ "store"=y:=λz=>h3 (.inl z.symm)
    have z2: ¬ "put"=y:=λz=>h3 (.inr z.symm)
    simp[PM,h1,aw,e0,h2,e,hl2,e1,hrl,hrd,hsn,z1,z2,hml]
 ·refine ⟨rows,made,kds,n,sn,R,Ap _,id,by lia,by lia,by lia,snM hs (by lia),?_⟩
  unfold Y4
  simp[PM,h1]
theorem AD(ns:List Int)(many ae:Int)(hl:ns.length<=63)(hr:0<ae)(hr2:ae<=64): ∀(ds:List dE) (n:Nat) {rows:List dE} {made:List Int} {kds:List Kd} {sn:dE} {m:Nat} (s7:Sl),n+3*ds.length<600000->m+ds.length<8000000->Sn m sn->RI rows made kds->rows≠[]->rows.length+ds.length<1000→
  ∃am ar aj n' sn' s7',RI am ar aj/\rows.length<=am.length/\((rows.length:Int)<=many->(am.length:Int)<=many)/\n<=n'/\n'<=n+3*ds.length/\Sn (m+ds.length) sn'/\XN (gN 7) Y4 ds (PM ns n many ae rows made sn s7)=some (.nx (PM ns n' many ae am ar sn' s7'))
 |[],n,rows,made,kds,sn,m,s7,_,_,hs,R,_,_=>⟨rows,made,kds,n,sn,s7,R,Ap _,id,by lia,by simp,hs,by simp⟩
 |d::ds,n,rows,made,kds,sn,m,s7,hn,hm,hs,R,h0,hz=>by
  simp only[Bo] at hn hm hz
  obtain⟨kj,nr,qb,n1,sn1,R1,a1,a2,a3,a4,a5,hs1,e1⟩:=zFJ ns n many ae (.va d) hl (by lia) (by lia) hs hr hr2 R h0 (by lia)
  obtain⟨am,ar,aj,n',sn',s7',R',b1,b2,b3,b4,hs',e⟩:=AD ns many ae hl hr hr2 ds n1 (.va d) (by lia) (by lia) hs1 R1 (λz=>by rw[z] at a1;simp at a1;exact h0 a1) (by lia)
  refine⟨am,ar,aj,n',sn',s7',R',by lia,λz=>b2 (a2 z),by lia,by simp only[Bo];lia,snM hs' (by simp only[Bo];lia),?_⟩
  rw[WH,KU,RN,show(PM ns n many ae rows made sn s7).set 7 (.va d)=PM ns n many ae rows made sn (.va d) from rfl,e1,P2,e]
theorem zFI(ns:List Int)(n:Nat)(many ae:Int){rows:List dE}{made:List Int}{kds:List Kd}{sn:dE}(s7:Sl)(hl:ns.length<=63)(hn:n<500000)(hs:NL n sn)(hr:0<ae)(hr2:ae<=64)(R:RI rows made kds)(hlt:(rows.length:Int)<many)(h40:many<=40):
  ∃am ar aj n' sn' s7',RI am ar aj/\rows.length<am.length/\(am.length:Int)<=many/\n<=n'/\n'<=n+20/\NL n' sn'/\XC (PM ns n many ae rows made sn s7)=some (.nx (PM ns n' many ae am ar sn' s7')):=by
 obtain⟨row,n1,sn1,c1,c2,hs1,okr,_,e⟩:=zFK ns n made sn ae hl (by lia) hs hr hr2
 obtain⟨x,hx,ex⟩:=XF ns n1 [.int 0,.int 1,.int 1,.int 2,.int 3] hl (by lia) (by simp)
 obtain⟨k,rfl,k0,k3⟩: ∃k:Nat,x= .int k/\0<=k/\k<=3:=by
  simp only[Aj,Ay,or_false] at hx
  rcases hx with rfl|rfl|rfl|rfl|rfl
  ·exact⟨0,rfl,by lia,by lia⟩
  ·exact⟨1,rfl,by lia,by lia⟩
  ·exact⟨1,rfl,by lia,by lia⟩
  ·exact⟨2,rfl,by lia,by lia⟩
  ·exact⟨3,rfl,by lia,by lia⟩
 have R1:=R.more okr
 have hrl:rows.length<16777216:=by lia
 have hml:made.length<16777216:=by have:=R.ml;lia
 have hdl:(bD 0 k).length=k:=JI k
 obtain⟨am,ar,aj,n',sn',s7',R',b1,b2,b3,b4,hs',ef⟩:=AD ns many ae hl hr hr2 (bD 0 k) (n1+1) s7 (by lia) (by lia) hs1 R1 (by simp) (by simp;lia)
 refine⟨am,ar,aj,n',sn',s7',R',by simp at b1;lia,b2 (by simp;lia),by lia,by lia,snM hs' (by lia),?_⟩
 obtain⟨y,u,e1,_⟩:=RO okr
 have hl2:=Q4 rows row
 have key:=EN y u e1
 have hrd:=okr.hard
 rw[e1] at hrd
 have hsn:=FJ hs1
 have hk1:(-4611686018427387904:Int)<=k/\(k:Int)<4611686018427387904:=by lia
 unfold XC
 by_cases h3:y= "store" ∨y= "put"
 ·rw [if_neg (by rw [key];simp [h3])] at ef
  simp only[PM] at ef
  rw[e1] at ef
  rcases h3 with rfl|rfl
  ·simp[PM,e,hl2,e1,hrl,hrd,hsn,ex,hk1,ef]
  ·simp[PM,e,hl2,e1,hrl,hrd,hsn,ex,hk1,ef]
 ·rw [if_pos (by rw [key];exact h3)] at ef
  simp only[PM,Hf,Az,Du] at ef
  rw[e1] at ef
  have z1: ¬ "store"=y:=λz=>h3 (.inl z.symm)
  have z2: ¬ "put"=y:=λz=>h3 (.inr z.symm)
  simp[PM,e,hl2,e1,hrl,hrd,hsn,ex,hk1,z1,z2,hml,ef]
theorem J1{t:VB}{g:VS}{k:Nat}{δ δ1 δ2:Ev}(h:t δ=some (true,δ1))(h2:g δ1=some (.nx δ2)):aX t g (k+1) δ=aX t g k δ2:=by
 show((t δ).bind λp=>if p.1=true then(g p.2).bind (again (aX t g k)) else some (.nx p.2))=_
 rw[h,Ak]
 show(if true=true then(g δ1).bind (again (aX t g k)) else _)=_
 rw[if_pos rfl,h2]
 rfl
theorem OU{t:VB}{g:VS}{k:Nat}{δ δ1:Ev}(h:t δ=some (false,δ1)):aX t g (k+1) δ=some (.nx δ1):=by
 show((t δ).bind λp=>if p.1=true then(g p.2).bind (again (aX t g k)) else some (.nx p.2))=_
 rw[h]
 rfl
theorem AE(ns:List Int)(many ae:Int)(hl:ns.length<=63)(hr:0<ae)(hr2:ae<=64)(h40:many<=40): ∀(f:Nat) (n:Nat) {rows:List dE} {made:List Int} {kds:List Kd} {sn:dE} (s7:Sl),many - rows.length<=f->(rows.length:Int)<=many->n+20*f<500000->NL n sn->RI rows made kds→
  ∃am ar aj n' sn' s7',RI am ar aj/\(am.length:Int)=many/\n<=n'/\n'<=n+20*f/\aX (fB (f2 oLt (f1 ZB (fO 4)) (fV 2))) XC (f+1) (PM ns n many ae rows made sn s7)=some (.nx (PM ns n' many ae am ar sn' s7'))
 | 0,n,rows,made,kds,sn,s7,h1,h2,hn,hs,R => by
  refine⟨rows,made,kds,n,sn,s7,R,by lia,by lia,by lia,OU ?_⟩
  have: ¬(rows.length:Int)<many:=by lia
  simp[PM,this]
 | f + 1,n,rows,made,kds,sn,s7,h1,h2,hn,hs,R => by
  by_cases hlt:(rows.length:Int)<many
  ·obtain ⟨kj,nr,qb,n1,sn1,u7,R1,a1,a2,a3,a4,hs1,e1⟩ := zFI ns n many ae s7 hl (by lia) hs hr hr2 R hlt h40
   obtain⟨am,ar,aj,n',sn',s7',R',b1,b2,b3,e⟩:=AE ns many ae hl hr hr2 h40 f n1 u7 (by lia) a2 (by lia) hs1 R1
   refine⟨am,ar,aj,n',sn',s7',R',b1,by lia,by lia,?_⟩
   rw[J1 (δ1:=PM ns n many ae rows made sn s7) (by simp[PM,hlt]) e1,e]
  ·refine ⟨rows,made,kds,n,sn,s7,R,by lia,by lia,by lia,OU ?_⟩
   simp[PM,hlt]
theorem zCA(ns:List Int)(n:Nat)(many ae:Int)(hl:ns.length<=63)(hn:n<400000)(hr:0<ae)(hr2:ae<=64)(h0:0<=many)(h40:many<=40):
  ∃rows kds n',Bl [] rows kds/\(rows.length:Int)=many/\n<=n'/\n'<=n+20*40/\X0 [WB ns,W4 n,.int many,.int ae]=some (.tup rows,[W4 n']):=by
 obtain⟨rows,made,kds,n',sn,s7,R,a1,a2,a3,e⟩:=AE ns many ae hl hr hr2 h40 many.toNat n (rows:=[]) (made:=[]) (kds:=[]) (sn:= .dct [] []) .no (by simp;lia) (by simpa using h0) (by lia) ⟨[],[],rfl,rfl,List.nodup_nil,Dc _⟩ ⟨.nil,λa=>by simp[Nm],by simp⟩
 refine⟨rows,kds,n',R.bl,a1,a2,by lia,?_⟩
 have e:=MU e
 simp only[PM,Du] at e
 unfold X0
 rw[cU,SA.eq_1]
 simp[cR,e]
theorem zE6{f g:VF}{δ δ1 δ2:Ev}{i j:Int}(h1:f δ=some (.int i,δ1))(h2:g δ1=some (.int j,δ2))(hb:(-4611686018427387904<=i/\i<4611686018427387904)/\ -4611686018427387904<=j/\j<4611686018427387904):iR2 f g δ=some (bD i (j - i).toNat,δ2):=by
 unfold iR2
 rw[h1,Ak,h2,Ak]
 exact if_pos hb
theorem Q9(nn:Nat)(tb:VB)(p:dE->Bool)(fe:VF)(f:dE->dE)(δ:Ev)(hδ:δ.length=nn): ∀(ds acc:List dE),(∀d∈ds,tb (δ++[Sl.va d])=some (p d,δ++[Sl.va d])/\(p d=true->fe (δ++[Sl.va d])=some (f d,δ++[Sl.va d])))->acc.length+ds.length<16777216->aF nn 1 (gN nn) tb fe ds acc δ=some (acc++(ds.filter p).map f,δ)
 | [],acc,_,_ => by simp
 | d :: ds,acc,h,hl => by
  have cj:(δ++[Sl.no]).set nn (.va d)=δ++[Sl.va d]:=by
   rw[Ek _ _ (by lia)]
   simp[hδ]
  have ay:(δ++[Sl.va d]).take nn=δ:=by rw[Co (by lia),Cg (by lia)]
  have au:acc.length<16777216:=by simp at hl;lia
  obtain⟨h1,h2⟩:=h d Ba
  cases hp:p d with
  |true=>
   have ih:=Q9 nn tb p fe f δ hδ ds (acc++[f d]) (λe he=>h e (Ao _ he)) (by simp at hl⊢;lia)
   have h2:=h2 hp
   rw[hp] at h1
   simp only[TU,ER,KU,cj,MP,h1,E5,h2,E6,if_pos au,ay,ih]
   simp[hp]
  |false=>
   have ih:=Q9 nn tb p fe f δ hδ ds acc (λe he=>h e (Ao _ he)) (by simp at hl⊢;lia)
   rw[hp] at h1
   simp only[TU,ER,KU,cj,MP,h1,zDU,ay,ih]
   simp[hp]
theorem aY.ints{M:Int->Prop}{row:dE}(h:aY M row): ∃(x:String) (a:Int) (as:List Int),row= .tup (.str x:: .int a::as.map .int)/\(x= "over" -> ∃b,as=[b]/\M b):=by
 cases h with
 | @number n _ _=>exact⟨"number",n,[],rfl,λz=>absurd z (by decide)⟩
 | @two x a b hx ha hb=>exact⟨x,a,[b],rfl,λ_=>⟨b,rfl,hb⟩⟩
 | @pick c a b _ _ _=>exact⟨"pick",c,[a,b],rfl,λz=>absurd z (by decide)⟩
 | @load p _ _=>exact⟨"load",p,[],rfl,λz=>absurd z (by decide)⟩
 | @take p c a _ _ _ _=>exact⟨"take",p,[c,a],rfl,λz=>absurd z (by decide)⟩
 | @store p a _ _ _=>exact⟨"store",p,[a],rfl,λz=>absurd z (by decide)⟩
 | @put p a c _ _ _ _=>exact⟨"put",p,[a,c],rfl,λz=>absurd z (by decide)⟩
theorem V8{k:Nat}: ∀as:List Int,∀d∈as.map dE.int,RU k d
 |[],d,h=>nomatch h
 |a::as,d,h=>by
  rcases Aj.mp h with rfl|h
  ·exact Z5
  ·exact V8 as d h
theorem FG{M:Int->Prop}{row:dE}(h:aY M row):RU 1 row:=by
 obtain⟨x,a,as,rfl,_⟩:=h.ints
 exact T6 (aZ YQ (aZ Z5 (V8 as)))
theorem zB1{sure:Int}{rows:List dE}{kds:List Kd}(hb:Bl [] rows kds){i:Int}(h0:0<=i)(h1:i<rows.length): ∃b,Y0 [.tup [.int sure,.tup rows],.int i]=some (.bl b,[]):=by
 have ai:kds.length=rows.length:=by simpa using hb.len
 obtain⟨row,g9,e0⟩: ∃row∈rows,WQ rows i=some row:=by
  have hi:i.toNat<rows.length:=by lia
  exact⟨rows[i.toNat],Hx hi,by rw[ZC h0 h1];simp[hi]⟩
 have ok:=hb.all row g9
 obtain⟨x,a,as,rfl,hov⟩:=ok.ints
 unfold Y0
 rw[cU]
 unfold QL
 by_cases hx:J6 x
 ·have m1:=cel4 hx
  exact⟨_,by simp[cR,e0,m1];rfl⟩
 ·obtain⟨⟨_,z1⟩,⟨_,z2⟩,⟨_,z3⟩,_,z4⟩:=off4 hx
  by_cases ho:x= "over"
  ·obtain⟨b,rfl,hbn⟩:=hov ho
   subst ho
   have b0:=hbn.1
   have b1:=hbn.lt
   obtain⟨kl,hr2,e2⟩: ∃row∈rows,WQ rows b=some row:=by
    have hi:b.toNat<rows.length:=by lia
    exact⟨rows[b.toNat],Hx hi,by rw[ZC b0 (by lia)];simp[hi]⟩
   obtain⟨x2,a2,as2,rfl,_⟩:=(hb.all kl hr2).ints
   have gd:WR (.str x2:: .int a2::as2.map dE.int) none (some 2)=[.str x2,.int a2]:=by
    have:=TY (ds:= .str x2:: .int a2::as2.map dE.int) (k:=2)
    simpa using this
   have ei: ∀δ,iR2 (fC (.int 1)) (fC (.int 1000)) δ=some (bD 1 ((1000:Int) - 1).toNat,δ):=λδ=>zE6 (f:=fC (.int 1)) (g:=fC (.int 1000)) (δ:=δ) (δ1:=δ) (δ2:=δ) (i:=1) (j:=1000) rfl rfl (by lia)
   have ec:=V6 0 (aG (c7 (fC (.str "number")) (c7 (fV 0) cB))) [] (λd=> .tup [.str "number",d]) rfl (bD 1 ((1000:Int) - 1).toNat) [] (λd _=>by simp) (by simp[bD])
   have hin: ∀neg,∃b,aN neg (.tup [.str x2,.int a2]) (.lst ((bD 1 ((1000:Int) - 1).toNat).map λd=> .tup [.str "number",d]))=some (.bl b):=λneg=>⟨_,SK (j:=1) (k:=1) (T6 (aZ YQ (aZ Z5 YR))) (λe he=>by
    obtain⟨d,hd,rfl⟩:=Bx.mp he
    obtain⟨q,rfl⟩: ∃q,d= .int q:=by
     unfold bD at hd
     obtain⟨q,_,rfl⟩:=Bx.mp hd
     exact⟨_,rfl⟩
    exact T6 (aZ YQ (aZ Z5 YR)))⟩
   obtain⟨bb,hbb⟩:=hin true
   simp only[Dh] at ec
   generalize (bD 1 ((1000:Int) - 1).toNat).map (λd=>dE.tup [.str "number",d])=big at*
   generalize bD 1 ((1000:Int) - 1).toNat=rg at*
   exact⟨bb,by simp -implicitDefEqProofs [cR,e0,e2,gd,bX,ei,ec,hbb]⟩
  ·exact⟨false,by simp[cR,e0,z1,z2,z3,z4,ho]⟩
def Z1(p:Int×Int):dE:= .tup [.int p.1,.int p.2]
noncomputable def NN:dE:= .tup [.str "load",.str "take",.str "store",.str "put"]
noncomputable def QQ(blk:dE)(ps:List (Int×Int))(j:Int)(there:Sl)(s5 s6 s7 s8:Sl):Ev:=
 [.va blk,.ow (.lst (ps.map Z1)),.va NN,.va (.int j),there,s5,s6,s7,s8]
theorem zKU{bs:List Bool}:aN false (.bl true) (.lst (bs.map .bl))=some (.bl (bs.any id)):=by
 rw[SK (j:=0) (k:=0) K8 (λe he=>by
  obtain⟨b,_,rfl⟩:=Bx.mp he
  exact K8)]
 induction bs with
 |nil=>rfl
 |cons b bs ih=>
  have e:HZ (.bl b) (.bl true)=b:=by cases b<;>rfl
  simp only[Az,IC,Hb,id,e]
  simp only[Fd,if_false,Option.some.injEq,dE.bl.injEq] at ih⊢
  rw[ih]
theorem EF{i:Int}: ∀{as:List Int},i∈as->OY (.int i) (as.map .int)=true
 |q::as,h=>by
  simp only[Az,IC]
  rcases Aj.mp h with rfl|h
  ·simp
  ·simp[EF h]
noncomputable def wrT:dE->Bool
 | .tup (.str x::_)=>decide (Bh "store"=x) || decide (Bh "put"=x)
 |_=>false
theorem OQ{s1 s2:VS}{δ δ1:Ev}{r:Option Ou}(h1:s1 δ=some (.nx δ1))(h2:s2 δ1=r):cK s1 s2 δ=r:=by rw[AH,h1,qS_n,h2]
theorem zHJ{sure:Int}{rows:List dE}{kds:List Kd}(hb:Bl [] rows kds)(ps:List (Int×Int)){i j:Int}{here there:dE}(i0:0<=i)(i1:i<rows.length)(j0:0<=j)(j1:j<rows.length)(hh:here∈rows)(ht:there∈rows){as:List Int}(hn:Z9 [there]=some (.lst (as.map .int),[]))(s7 s8:Sl)(hp:ps.length<1000000):
  ∃(c:Bool) (t7 t8:Sl),(i∈as->c=true)/\XA (QQ (.tup [.int sure,.tup rows]) ps j (.va there) (.va (.int i)) (.va here) s7 s8)=some (.nx (QQ (.tup [.int sure,.tup rows]) (ps++if c then[(i,j)] else[]) j (.va there) (.va (.int i)) (.va here) t7 t8)):=by
 obtain⟨b1,e1⟩:=zB1 (sure:=sure) hb i0 i1
 obtain⟨b2,e2⟩:=zB1 (sure:=sure) hb j0 j1
 have okh:=hb.all here hh
 have okt:=hb.all there ht
 have kh:=FG okh
 have kt:=FG okt
 obtain⟨x,a,xs,eh,_⟩:=okh.ints
 obtain⟨y,b,ys,et,_⟩:=okt.ints
 have hin:aN false (.int i) (.lst (as.map .int))=some (.bl (OY (.int i) (as.map .int))):=by
  rw[SK (j:=0) (k:=0) Z5 (V8 as)]
  simp
 have gb:=EF (i:=i) (as:=as)
 generalize OY (.int i) (as.map .int)=bi at*
 have ew: ∃w:List dE,aF 0 1 (gN 0) (fB (f2 (aN false) (f2 cJ (fV 0) (fC (.int 0))) (aG (c7 (fC (.str "store")) (c7 (fC (.str "put")) cB))))) (fV 0) [here,there] [] []=some (w,[])/\ ∀d∈w,RU 1 d:=by
  have c:=Q9 0 (fB (f2 (aN false) (f2 cJ (fV 0) (fC (.int 0))) (aG (c7 (fC (.str "store")) (c7 (fC (.str "put")) cB))))) wrT (fV 0) id [] rfl [here,there] [] (λd hd=>by
   simp only[Aj,Ay,or_false] at hd
   rcases hd with rfl|rfl
   ·rw[eh];simp[wrT,bV]
   ·rw[et];simp[wrT,bV]) (by simp)
  refine⟨_,c,λd hd=> ?_⟩
  simp only[Dh,List.map_id_fun,id,Eh,Aj,Ay,or_false] at hd
  rcases hd.1 with rfl|rfl
  ·exact kh
  ·exact kt
 obtain⟨w,ew,kw⟩:=ew
 have hne:OC (.lst w) (.lst [])=some (.bl (!HZ (.lst w) (.lst []))):=zAR (j:=2) (k:=0+1) (XD kw) (XD YR)
 generalize (!HZ (.lst w) (.lst []))=bw at*
 have hp':ps.length<16777216:=by lia
 have x4: ∃bx,aN false (.str x) NN=some (.bl bx):=⟨_,zE5⟩
 have y4: ∃by',aN false (.str y) NN=some (.bl by'):=⟨_,zE5⟩
 have x2: ∃bx,aN false (.str x) (.tup [.str "store",.str "put"])=some (.bl bx):=⟨_,EH⟩
 have y2: ∃by',aN false (.str y) (.tup [.str "store",.str "put"])=some (.bl by'):=⟨_,EH⟩
 obtain⟨bx,x4⟩:=x4
 obtain⟨by',y4⟩:=y4
 obtain⟨wx,x2⟩:=x2
 obtain⟨wy,y2⟩:=y2
 subst eh et
 have hbl:=zKU (bs:=[bi,b1 && b2,bx && (by' && (decide (a=b) && bw)),b1 && wy,b2 && wx])
 simp only[Az,Du] at hbl
 refine⟨[bi,b1 && b2,bx && (by' && (decide (a=b) && bw)),b1 && wy,b2 && wx].any id,.va (.lst w),.ow (.lst [.bl bi,.bl (b1 && b2),.bl (bx && (by' && (decide (a=b) && bw))),.bl (b1 && wy),.bl (b2 && wx)]),?_,?_⟩
 ·intro hi
  rw[gb hi]
  rfl
 ·unfold XA
  refine OQ (δ1:=QQ (.tup [.int sure,.tup rows]) ps j (.va (.tup (.str y:: .int b::ys.map .int))) (.va (.int i)) (.va (.tup (.str x:: .int a::xs.map .int))) (.va (.lst w)) s8) (by simp[QQ,bX,ew]) ?_
  refine OQ (δ1:=QQ (.tup [.int sure,.tup rows]) ps j (.va (.tup (.str y:: .int b::ys.map .int))) (.va (.int i)) (.va (.tup (.str x:: .int a::xs.map .int))) (.va (.lst w)) (.ow (.lst [.bl bi,.bl (b1 && b2)]))) ?_ ?_
  ·clear hbl
   cases b1<;>simp[QQ,hn,hin,e1,e2]
  refine OQ (δ1:=QQ (.tup [.int sure,.tup rows]) ps j (.va (.tup (.str y:: .int b::ys.map .int))) (.va (.int i)) (.va (.tup (.str x:: .int a::xs.map .int))) (.va (.lst w)) (.ow (.lst [.bl bi,.bl (b1 && b2),.bl (bx && (by' && (decide (a=b) && bw)))]))) ?_ ?_
  ·clear hbl
   cases bx<;>cases by'<;>by_cases hab:a=b<;>simp[QQ,x4,y4,hne,hab]
  refine OQ (δ1:=QQ (.tup [.int sure,.tup rows]) ps j (.va (.tup (.str y:: .int b::ys.map .int))) (.va (.int i)) (.va (.tup (.str x:: .int a::xs.map .int))) (.va (.lst w)) (.ow (.lst [.bl bi,.bl (b1 && b2),.bl (bx && (by' && (decide (a=b) && bw))),.bl (b1 && wy)]))) ?_ ?_
  ·clear hbl
   generalize (bx && (by' && (decide (a=b) && bw)))=q3
   cases b1<;>simp[-EH,QQ,e1,y2]
  refine OQ (δ1:=QQ (.tup [.int sure,.tup rows]) ps j (.va (.tup (.str y:: .int b::ys.map .int))) (.va (.int i)) (.va (.tup (.str x:: .int a::xs.map .int))) (.va (.lst w)) (.ow (.lst [.bl bi,.bl (b1 && b2),.bl (bx && (by' && (decide (a=b) && bw))),.bl (b1 && wy),.bl (b2 && wx)]))) ?_ ?_
  ·clear hbl
   generalize (bx && (by' && (decide (a=b) && bw)))=q3
   cases b2<;>simp[-EH,QQ,e2,x2]
  generalize (bx && (by' && (decide (a=b) && bw)))=q3 at*
  generalize hq1:(b1 && b2)=q1 at*
  generalize hq4:(b1 && wy)=q4 at*
  generalize hq5:(b2 && wx)=q5 at*
  generalize hc:[bi,q1,q3,q4,q5].any id=c at*
  cases c
  ·simp[QQ,hbl]
  ·simp[QQ,hbl,hp',Z1]
theorem W6(i:Nat)(d:dE)(ds:List dE):YW i (d::ds)= .tup [.int i,d]::YW (i+1) ds:=rfl
abbrev GP(a b:Nat):VG:=NU 2 (b6 (gN a) (b6 (gN b) YU))
theorem zAY{sure:Int}{rows:List dE}{kds:List Kd}(hb:Bl [] rows kds){j:Int}{there:dE}(j0:0<=j)(j1:j<rows.length)(ht:there∈rows){as:List Int}(hn:Z9 [there]=some (.lst (as.map .int),[])): ∀(hs:List dE) (k:Nat) (ps:List (Int×Int)) (s5 s6 s7 s8:Sl),(∀d∈hs,d∈rows)->k+hs.length<=rows.length->ps.length+hs.length<1000000→
  ∃(qs:List (Int×Int)) (t5 t6 t7 t8:Sl),(∀p∈qs,p.2=j/\(k:Int)<=p.1/\p.1<k+hs.length)/\(∀i∈as,(k:Int)<=i->i<k+hs.length->(i,j)∈qs)/\qs.length<=hs.length∧
   XN (GP 5 6) XA (YW k hs) (QQ (.tup [.int sure,.tup rows]) ps j (.va there) s5 s6 s7 s8)=some (.nx (QQ (.tup [.int sure,.tup rows]) (ps++qs) j (.va there) t5 t6 t7 t8))
 | [],k,ps,s5,s6,s7,s8,_,_,_ => ⟨[],s5,s6,s7,s8,by simp,λi _ h1 h2 => by simp at h2;lia,by simp,by simp [YW]⟩
 | h :: hs,k,ps,s5,s6,s7,s8,hm,hk,hp => by
  simp only[Bo] at hk hp
  obtain⟨c,t7,t8,c1,e⟩:=zHJ (sure:=sure) hb ps (i:=(k:Int)) (j:=j) (here:=h) (there:=there) (by lia) (by lia) j0 j1 (hm h Ba) ht hn s7 s8 (by lia)
  obtain⟨qs,u5,u6,u7,u8,q1,q2,q3,ih⟩:=zAY hb j0 j1 ht hn hs (k+1) (ps++if c then[((k:Int),j)] else[]) (.va (.int k)) (.va h) t7 t8 (λd hd=>hm d (Ao _ hd)) (by lia) (by cases c<;>simp<;>lia)
  refine⟨(if c then[((k:Int),j)] else[])++qs,u5,u6,u7,u8,?_,?_,?_,?_⟩
  ·intro p hp
   simp only[Bo]
   rcases Bi.mp hp with z|z
   ·cases c
    ·simp at z
    ·simp at z;subst z;exact⟨rfl,by simp,by simp;lia⟩
   ·obtain⟨z1,z2,z3⟩:=q1 p z
    exact⟨z1,by lia,by lia⟩
  ·intro i hi h1 h2
   simp only[Bo] at h2
   by_cases h3:i=k
   ·subst h3
    rw[c1 hi]
    simp
   ·exact Bi.mpr (.inr (q2 i hi (by lia) (by lia)))
  ·cases c<;>simp<;>lia
  ·rw[W6,WH]
   have s1:GP 5 6 (.tup [.int k,h]) (QQ (.tup [.int sure,.tup rows]) ps j (.va there) s5 s6 s7 s8)=some (QQ (.tup [.int sure,.tup rows]) ps j (.va there) (.va (.int k)) (.va h) s7 s8):=by simp[QQ]
   rw[s1,RN,e,P2,ih,Ax]
structure Prs(rows:List dE)(ps:List (Int×Int)):Prop where
 lt: ∀p∈ps,0<=p.1/\p.1<p.2/\p.2<rows.length
 nm: ∀(j:Nat) (row:dE) (as:List Int),rows[j]? =some row->Z9 [row]=some (.lst (as.map .int),[])-> ∀i∈as,0<=i->i<j->(i,(j:Int))∈ps
theorem ID{as bs:List Int}(h:as.map dE.int=bs.map dE.int):as=bs:=by
 induction as generalizing bs with
 | nil => cases bs with
  |nil=>rfl
  |cons=>simp at h
 | cons a as ih => cases bs with
  |nil=>simp at h
  |cons b bs=>
   simp only[Az,Jd,dE.int.injEq] at h
   rw[h.1,ih h.2]
theorem zAX{sure:Int}{rows:List dE}{kds:List Kd}(hb:Bl [] rows kds)(h40:rows.length<=40): ∀(ts:List dE) (k:Nat) (ps:List (Int×Int)) (s3:Int) (s4 s5 s6 s7 s8:Sl) (x3:Sl),rows.drop k=ts->k+ts.length=rows.length->ps.length+40*ts.length<10000→
  ∃(qs:List (Int×Int)) (t3 t4 t5 t6 t7 t8:Sl),(∀p∈qs,0<=p.1/\p.1<p.2/\p.2<rows.length)/\(∀(j:Nat) (row:dE) (as:List Int),k<=j->rows[j]? =some row->Z9 [row]=some (.lst (as.map .int),[])-> ∀i∈as,0<=i->i<j->(i,(j:Int))∈qs)/\qs.length<=40*ts.length∧
   XN (GP 3 4) XB (YW k ts) [.va (.tup [.int sure,.tup rows]),.ow (.lst (ps.map Z1)),.va NN,x3,s4,s5,s6,s7,s8]=some (.nx [.va (.tup [.int sure,.tup rows]),.ow (.lst ((ps++qs).map Z1)),.va NN,t3,t4,t5,t6,t7,t8])
 | [],k,ps,s3,s4,s5,s6,s7,s8,x3,h1,h2,_ => by
  refine⟨[],x3,s4,s5,s6,s7,s8,by simp,λj row as h3 h4=> ?_,by simp,by simp[YW]⟩
  have:=(Ad.mp h4).1
  simp at h2
  lia
 | t :: ts,k,ps,s3,s4,s5,s6,s7,s8,x3,h1,h2,hp => by
  simp only[Bo] at h2 hp
  have ht:t∈rows:=List.mem_of_mem_drop (by rw[h1];exact Ba)
  have hk:rows[k]? =some t:=by
   have:(rows.drop k)[0]? =some t:=by rw[h1];rfl
   simpa using this
  obtain⟨as,_,_,hn,_⟩:=SH (hb.all t ht)
  have ai:(rows.take k).length=k:=by rw[Ci];lia
  obtain⟨qs1,t5,t6,t7,t8,q1,q2,q3,e⟩:=zAY (sure:=sure) hb (j:=(k:Int)) (by lia) (by lia) ht hn (rows.take k) 0 ps s5 s6 s7 s8 (λd hd=>Lu hd) (by lia) (by lia)
  obtain⟨qs2,u3,u4,u5,u6,u7,u8,r1,r2,r3,ih⟩:=zAX hb h40 ts (k+1) (ps++qs1) 0 (.va t) t5 t6 t7 t8 (.va (.int k)) (by rw[<- Pw,h1];rfl) (by lia) (by simp;lia)
  refine⟨qs1++qs2,u3,u4,u5,u6,u7,u8,?_,?_,?_,?_⟩
  ·intro p hp
   rcases Bi.mp hp with z|z
   ·obtain⟨z1,z2,z3⟩:=q1 p z
    rw[ai] at z3
    exact⟨by lia,by lia,by lia⟩
   ·exact r1 p z
  ·intro j row bs hj hr hbs i hi i0 i1
   by_cases hjk:j=k
   ·subst hjk
    rw[hk] at hr
    injection hr with hr
    subst hr
    rw[hn] at hbs
    have:as=bs:=ID (by simpa using hbs)
    subst this
    exact Bi.mpr (.inl (q2 i hi (by lia) (by rw[ai];lia)))
   ·exact Bi.mpr (.inr (r2 j row bs (by lia) hr hbs i hi i0 i1))
  ·simp only[Bv,Bo];lia
  ·rw[W6,WH]
   have s1:GP 3 4 (.tup [.int k,t]) [.va (.tup [.int sure,.tup rows]),.ow (.lst (ps.map Z1)),.va NN,x3,s4,s5,s6,s7,s8]=some (QQ (.tup [.int sure,.tup rows]) ps k (.va t) s5 s6 s7 s8):=by simp[QQ]
   have s2:XB (QQ (.tup [.int sure,.tup rows]) ps k (.va t) s5 s6 s7 s8)=some (.nx (QQ (.tup [.int sure,.tup rows]) (ps++qs1) k (.va t) t5 t6 t7 t8)):=by
    unfold XB
    have hc:=TY (ds:=rows) (k:=k)
    rw[zFH]
    have:PX (GA (f2 cJ (fV 0) (fC (.int 1))) DD (GQ (fV 3))) (QQ (.tup [.int sure,.tup rows]) ps k (.va t) s5 s6 s7 s8)=some (YW 0 (rows.take k),QQ (.tup [.int sure,.tup rows]) ps k (.va t) s5 s6 s7 s8):=by simp[QQ,hc]
    rw[this,qF_s]
    exact e
   rw[s1,RN,s2,P2]
   simp only[QQ]
   rw[ih,Ax]
theorem EZ: ∀ps:List (Int×Int),OH (ps.map Z1)=some ps
 |[]=>rfl
 |p::ps=>by
  show(prD (Z1 p)).bind (λq=>(OH (ps.map Z1)).map λqs=>q::qs)=_
  rw[EZ ps]
  rfl
theorem AT(ps:List (Int×Int)): ∃qs:List (Int×Int),qs.Perm ps/\GL (.lst (ps.map Z1))=some (.lst (qs.map Z1)):=by
 refine⟨(JQ ps).map λi=>ps.getD i (0,0),?_,?_⟩
 ·have h := (UB ps).map λi => ps.getD i (0,0)
  refine h.trans ?_
  have:(Ar ps.length).map (λi=>ps.getD i (0,0))=ps:=by
   refine List.ext_getElem (by simp) λi h1 h2=> ?_
   simp at h1
   simp[h1]
  rw[this]
 ·show (OH (ps.map Z1)).bind (λqs => some (dE.lst ((JQ qs).map λi => (ps.map Z1).getD i dE.non))) = _
  rw[EZ,Ak,Ln]
  congr 2
  refine Go λi hi=> ?_
  have:i<ps.length:=Bt.mp ((UB ps).mem_iff.mp hi)
  simp[this]
theorem zD2{sure:Int}{rows:List dE}{kds:List Kd}(hb:Bl [] rows kds)(h40:rows.length<=40): ∃ps:List (Int×Int),Prs rows ps/\ps.length<=1600/\XZ [.tup [.int sure,.tup rows]]=some (.lst (ps.map Z1),[]):=by
 obtain⟨qs,t3,t4,t5,t6,t7,t8,q1,q2,q3,e⟩:=zAX (sure:=sure) hb h40 rows 0 [] 0 .no .no .no .no .no .no (by simp) (by simp) (by simp;lia)
 simp only[Du,Dh,NN] at e
 obtain⟨ps,hp,es⟩:=AT qs
 refine⟨ps,⟨λp h=>q1 p (hp.mem_iff.mp h),λj row as h1 h2 i hi i0 i1=>hp.mem_iff.mpr (q2 j row as (by lia) h1 h2 i hi i0 i1)⟩,by rw[hp.length_eq];lia,?_⟩
 unfold XZ
 rw[cU,R6.eq_1]
 simp[cR,e,es]
theorem V5(nn:Nat)(tb:VB)(p:dE->Bool)(fe:VF)(f:dE->dE)(δ:Ev)(hδ:δ.length=nn): ∀(ds acc:List dE),(∀d∈ds,∃a b,d= .tup [a,b]/\tb (δ++[Sl.va a,Sl.va b])=some (p d,δ++[Sl.va a,Sl.va b])/\(p d=true->fe (δ++[Sl.va a,Sl.va b])=some (f d,δ++[Sl.va a,Sl.va b])))->acc.length+ds.length<16777216->aF nn 2 (GP nn (nn+1)) tb fe ds acc δ=some (acc++(ds.filter p).map f,δ)
 | [],acc,_,_ => by simp
 | d :: ds,acc,h,hl => by
  obtain⟨a,b,rfl,h1,h2⟩:=h d Ba
  have cj:GP nn (nn+1) (.tup [a,b]) (δ++[Sl.no,Sl.no])=some (δ++[Sl.va a,Sl.va b]):=by
   have e1:(δ++[Sl.no,Sl.no]).set nn (.va a)=δ++[Sl.va a,Sl.no]:=by
    rw[Ek _ _ (by lia)]
    simp[hδ]
   have e2:(δ++[Sl.va a,Sl.no]).set (nn+1) (.va b)=δ++[Sl.va a,Sl.va b]:=by
    rw[Ek _ _ (by lia),hδ,show nn+1 - nn=1 by lia]
    rfl
   simp[e1,e2]
  have ay:(δ++[Sl.va a,Sl.va b]).take nn=δ:=by rw[Co (by lia),Cg (by lia)]
  have au:acc.length<16777216:=by simp at hl;lia
  cases hp:p (.tup [a,b]) with
  |true=>
   have ih:=V5 nn tb p fe f δ hδ ds (acc++[f (.tup [a,b])]) (λe he=>h e (Ao _ he)) (by simp at hl⊢;lia)
   have h2:=h2 hp
   rw[hp] at h1
   simp only[TU,zAV,cj,MP,h1,E5,h2,E6,if_pos au,ay,ih]
   simp[hp]
  |false=>
   have ih:=V5 nn tb p fe f δ hδ ds acc (λe he=>h e (Ao _ he)) (by simp at hl⊢;lia)
   rw[hp] at h1
   simp only[TU,zAV,cj,MP,h1,zDU,ay,ih]
   simp[hp]
noncomputable def ost(ns:List Int)(n:Nat)(blk:dE)(ps:List (Int×Int))(left made:List Int)(s6:Sl):Ev:=
 [.va (WB ns),.ow (W4 n),.va blk,.va (.lst (ps.map Z1)),.ow (.lst (left.map .int)),.ow (.lst (made.map .int)),s6]
noncomputable def pw(left:List Int)(r:Int):dE->Bool
 | .tup [.int a,.int b]=>decide (b=r) && OY (.int a) (left.map .int)
 |_=>false
theorem K3{i:Int}: ∀{as:List Int},OY (.int i) (as.map .int)=true↔i∈as
 |[]=>by simp
 |a::as=>by
  rw[Az,IC,He,zI3,decide_eq_true_eq,K3 (as:=as),Aj]
  exact⟨λh=>h.imp Eq.symm id,λh=>h.imp Eq.symm id⟩
theorem zBW(ps:List (Int×Int))(left:List Int)(r:Int)(hp:ps.length<16777216):
  aF 2 2 (GP 2 3) (RW (fB (f2 XH (fV 3) (fV 1))) (fB (f2 (aN false) (fV 2) (fO 0)))) (fC (.int 1)) (ps.map Z1) [] [.ow (.lst (left.map .int)),.va (.int r)]=some (((ps.map Z1).filter (pw left r)).map λ_=> .int 1,[.ow (.lst (left.map .int)),.va (.int r)]):=by
 have hin: ∀a:Int,aN false (.int a) (.lst (left.map .int))=some (.bl (OY (.int a) (left.map .int))):=λa=>by
  rw[SK (j:=0) (k:=0) Z5 (V8 left)]
  simp
 have:=V5 2 (RW (fB (f2 XH (fV 3) (fV 1))) (fB (f2 (aN false) (fV 2) (fO 0)))) (pw left r) (fC (.int 1)) (λ_=> .int 1) [.ow (.lst (left.map .int)),.va (.int r)] rfl (ps.map Z1) [] (λd hd=>by
  obtain⟨⟨a,b⟩,_,rfl⟩:=Bx.mp hd
  refine⟨.int a,.int b,rfl,?_,λ_=>by simp⟩
  have hi:=hin a
  have hpw:pw left r (Z1 (a,b))=(decide (b=r) && OY (.int a) (left.map .int)):=rfl
  rw[hpw]
  generalize left.map dE.int=L at*
  by_cases hb:b=r
  ·simp[hb,hi]
  ·simp[hb]) (by simpa using hp)
 simpa using this
theorem F8{ds:List dE}:HZ (.lst ds) (.lst [])=ds.isEmpty:=by cases ds<;>rfl
def rdD(ps:List (Int×Int))(left:List Int):dE->Bool
 | .int r=>((ps.map Z1).filter (pw left r)).isEmpty
 |_=>false
theorem OG{x:Int}: ∀{ns:List Int},x∈ns-> ∃j,WL x ns=some j/\ns.eraseIdx j=ns.erase x
 | i :: ns,h => by
  unfold WL
  by_cases e:i=x
  ·rw [if_pos e];exact ⟨0,rfl,by simp [e]⟩
  ·rw[if_neg e]
   obtain⟨j,h1,h2⟩:=OG (ns:=ns) (by
    rcases Aj.mp h with z|z
    ·exact absurd z.symm e
    ·exact z)
   refine⟨j+1,by rw[h1];rfl,?_⟩
   rw[List.eraseIdx_cons_succ,h2,List.erase_cons_tail (by simpa using e)]
theorem zD3{x:Int}{ns:List Int}(h:x∈ns):mRem (ns.map .int) [.int x]=some ((ns.erase x).map .int):=by
 obtain⟨j,h1,h2⟩:=OG h
 show(WO (ns.map .int)).bind (λns=>(WL x ns).map λj=>(ns.eraseIdx j).map dE.int)=_
 rw[QN,Ak,h1,Pl,h2]
theorem FC{ps:List (Int×Int)}{left:List Int}{r:Int}:rdD ps left (.int r)=true↔ ∀p∈ps,p.2=r->p.1∉left:=by
 show((ps.map Z1).filter (pw left r)).isEmpty=true↔_
 rw[Nw,List.filter_eq_nil_iff]
 constructor
 ·intro h p hp he hl
  have:=h (Z1 p) (Bx.mpr ⟨p,hp,rfl⟩)
  refine this ?_
  show(decide (p.2=r) && OY (.int p.1) (left.map .int))=true
  rw[K3.mpr hl,he]
  simp
 ·intro h d hd z
  obtain⟨p,hp,rfl⟩:=Bx.mp hd
  have z:(decide (p.2=r) && OY (.int p.1) (left.map .int))=true:=z
  rw[Af,decide_eq_true_eq,K3] at z
  exact h p hp z.1 z.2
theorem zA0(ps:List (Int×Int))(left:List Int)(hp:ps.length<16777216)(hll:left.length<16777216):
  aF 2 1 (gN 2) (fB (f2 XH (ZZ [1,2] 2 (UP (fV 0)) (NU 2 (b6 (gN 2) (b6 (gN 3) YU))) (RW (fB (f2 XH (fV 3) (fV 1))) (fB (f2 (aN false) (fV 2) (fO 0)))) (fC (.int 1))) (YN cB))) (fV 2) (left.map .int) [] [.va (.lst (ps.map Z1)),.ow (.lst (left.map .int))]=some ((left.filter λr=>rdD ps left (.int r)).map .int,[.va (.lst (ps.map Z1)),.ow (.lst (left.map .int))]):=by
 have:=Q9 2 (fB (f2 XH (ZZ [1,2] 2 (UP (fV 0)) (NU 2 (b6 (gN 2) (b6 (gN 3) YU))) (RW (fB (f2 XH (fV 3) (fV 1))) (fB (f2 (aN false) (fV 2) (fO 0)))) (fC (.int 1))) (YN cB))) (rdD ps left) (fV 2) id [.va (.lst (ps.map Z1)),.ow (.lst (left.map .int))] rfl (left.map .int) [] (λd hd=>by
  obtain⟨r,_,rfl⟩:=Bx.mp hd
  refine⟨?_,λ_=>by simp⟩
  have w:=zBW ps left r hp
  have hq:XH (.lst (((ps.map Z1).filter (pw left r)).map λ_=>dE.int 1)) (.lst [])=some (.bl (rdD ps left (.int r))):=by
   rw[zE0 (j:=1) (k:=1) (XD λd hd=>by
    obtain⟨_,_,rfl⟩:=Bx.mp hd
    exact Z5) (XD YR),F8,List.isEmpty_map]
   rfl
  generalize ((ps.map Z1).filter (pw left r)).map (λ_=>dE.int 1)=W at*
  generalize rdD ps left (.int r)=B at*
  generalize left.map dE.int=L at*
  generalize ps.map Z1=Q at*
  simp[bX,w,hq]) (by simpa using hll)
 rw[this,Pn]
 simp[Nj]
theorem zCT(ns:List Int)(n:Nat)(blk:dE)(ps:List (Int×Int))(left made:List Int)(s6:Sl)(hl:ns.length<=63)(hn:n<800000)(hne:left≠[])(hs:left.Pairwise (· < ·))(hlt: ∀p∈ps,p.1<p.2)(hll:left.length<1000)(hml:made.length<1000)(hpl:ps.length<10000):
  ∃x∈left,(∀p∈ps,p.2=x->p.1∉left)/\ ∃s6',ZT (ost ns n blk ps left made s6)=some (.nx (ost ns (n+1) blk ps (left.erase x) (made++[x]) s6')):=by
 have hr:=zA0 ps left (by lia) (by lia)
 have h0:0<((left.filter λr=>rdD ps left (.int r)).map dE.int).length:=by
  match left,hne,hs with
  |a::t,_,hs=>
   have:a∈((a::t).filter λr=>rdD ps (a::t) (.int r)):=by
    refine Eh.mpr ⟨Ba,FC.mpr λp hp he hi=> ?_⟩
    have h1:=hlt p hp
    rw[he] at h1
    rcases Aj.mp hi with z|z
    ·lia
    ·have:=(Jo.mp hs).1 _ z
     lia
   rw[Ck]
   exact List.length_pos_of_mem this
 obtain⟨d,hd,ed⟩:=XF ns n ((left.filter λr=>rdD ps left (.int r)).map .int) hl (by lia) h0
 obtain⟨x,hx,rfl⟩:=Bx.mp hd
 obtain⟨hx1,hx2⟩:=Eh.mp hx
 have hm:=zD3 hx1
 have hla:=Q4 (made.map dE.int) (.int x)
 have qp:made.length<16777216:=by lia
 refine⟨x,hx1,FC.mp hx2,.va (.lst ((left.filter λr=>rdD ps left (.int r)).map .int)),?_⟩
 unfold ZT
 simp only[ost,Hf,Az,Du]
 generalize (left.filter λr=>rdD ps left (.int r)).map dE.int=R at*
 generalize (left.erase x).map dE.int=E at*
 generalize left.map dE.int=L at*
 generalize ps.map Z1=Q at*
 have jo:(made.map dE.int).length<16777216:=by simpa using qp
 generalize made.map dE.int=D at*
 simp[bX,hr,ed,hm,hla,jo]
theorem EU(ns:List Int)(blk:dE)(ps:List (Int×Int))(hl:ns.length<=63)(hlt: ∀p∈ps,p.1<p.2)(hpl:ps.length<10000): ∀(f n:Nat) (left made:List Int) (s6:Sl),left.length=f->n+f<700000->left.Pairwise (· < ·)->made.length+left.length<1000->(∀p∈ps,p.1∈made∨p.1∈left)->(∀p∈ps,∀k:Nat,made[k]? =some p.2->p.1∈made.take k)→
  ∃(order:List Int) (s6':Sl),order.Perm (made++left)/\(∀p∈ps,∀k:Nat,order[k]? =some p.2->p.1∈order.take k)/\aX (fB (f2 OC (fO 4) (YN cB))) ZT (f+1) (ost ns n blk ps left made s6)=some (.nx (ost ns (n+f) blk ps [] order s6'))
 | 0,n,left,made,s6,hf,hn,hs,hm,h1,h2 => by
  have:left=[]:=Fl.mp hf
  subst this
  refine⟨made,s6,by simp,h2,OU ?_⟩
  have e:OC (.lst []) (.lst [])=some (.bl false):=by
   rw[zAR (j:=1) (k:=1) (XD YR) (XD YR),F8]
   rfl
  simp[ost,e]
 | f + 1,n,left,made,s6,hf,hn,hs,hm,h1,h2 => by
  have hne:left≠[]:=λz=>by rw[z] at hf;simp at hf
  obtain⟨x,hx,hp,u6,e1⟩:=zCT ns n blk ps left made s6 hl (by lia) hne hs hlt (by lia) (by lia) hpl
  have hle:=List.length_erase_of_mem hx
  obtain⟨order,s6',o1,o2,e2⟩:=EU ns blk ps hl hlt hpl f (n+1) (left.erase x) (made++[x]) u6 (by lia) (by lia) (hs.sublist (List.erase_sublist)) (by simp;lia) (λp hp'=>by
   rcases h1 p hp' with z|z
   ·exact .inl (Bi.mpr (.inl z))
   ·by_cases hxx:p.1=x
    ·exact .inl (by simp[hxx])
    ·exact .inr ((List.mem_erase_of_ne hxx).mpr z)) (λp hp' k hk=>by
   by_cases hkl:k<made.length
   ·rw[Ae hkl] at hk
    rw[Co (by lia)]
    exact h2 p hp' k hk
   ·have dj:=(Ad.mp hk).1
    simp at dj
    have:k=made.length:=by lia
    subst this
    simp at hk
    have hnl:=hp p hp' hk.symm
    rw[Px]
    exact(h1 p hp').resolve_right hnl)
  refine⟨order,s6',?_,o2,?_⟩
  ·refine o1.trans ?_
   rw[Ax,List.singleton_append]
   exact(List.perm_cons_erase hx).symm.append_left made
  ·have e:OC (.lst (left.map .int)) (.lst [])=some (.bl true):=by
    rw[zAR (j:=1) (k:=1) (XD (V8 left)) (XD YR),F8]
    cases left with
    |nil=>exact absurd rfl hne
    |cons=>rfl
   rw[J1 (δ1:=ost ns n blk ps left made s6) (by simp[ost,e]) e1,e2,show n+1+f=n+(f+1) by lia]
theorem CU{f:VF}{δ δ1:Ev}{j:Int}(h:f δ=some (.int j,δ1))(h0:0<=j)(h1:j<=16777216):TZ f δ=some (.lst (bD 0 j.toNat),δ1):=by
 unfold TZ
 rw[h,Ak]
 exact if_pos ⟨h0,h1⟩
def DM(k:Nat):List Int:=(Ar k).map λi:Nat=>(i:Int)
theorem zCB(k:Nat):bD 0 k=(DM k).map .int:=by simp[bD,DM]
theorem FF{k:Nat}{a:Int}:a∈DM k↔0<=a/\a<k:=by
 unfold DM
 rw[Bx]
 constructor
 ·rintro ⟨i,hi,rfl⟩
  have:=Bt.mp hi
  lia
 ·rintro ⟨h0,h1⟩
  exact⟨a.toNat,Bt.mpr (by lia),by lia⟩
theorem GZ(k:Nat):(DM k).Pairwise (· < ·):=Kf _ (λa b h=>by lia) (List.pairwise_lt_range)
theorem LG(k:Nat):(DM k).length=k:=by simp[DM]
theorem zAM(ns:List Int)(n:Nat){sure:Int}{rows:List dE}{kds:List Kd}(hl:ns.length<=63)(hn:n<500000)(hb:Bl [] rows kds)(h40:rows.length<=40):
  ∃(ps:List (Int×Int)) (order:List Int),Prs rows ps/\order.Perm (DM rows.length)/\(∀p∈ps,∀k:Nat,order[k]? =some p.2->p.1∈order.take k)/\aM [WB ns,W4 n,.tup [.int sure,.tup rows]]=some (.lst (order.map .int),[W4 (n+rows.length)]):=by
 obtain⟨ps,P,hpl,em⟩:=zD2 (sure:=sure) hb h40
 obtain⟨order,s6,o1,o2,e⟩:=EU ns (.tup [.int sure,.tup rows]) ps hl (λp hp=>(P.lt p hp).2.1) (by lia) rows.length n (DM rows.length) [] .no (LG _) (by lia) (GZ _) (by simp[LG];lia) (λp hp=> .inr (FF.mpr ⟨(P.lt p hp).1,by have:=P.lt p hp;lia⟩)) (λp hp k hk=>by simp at hk)
 refine⟨ps,order,P,by simpa using o1,o2,?_⟩
 have e:=MU e
 simp only[ost,Du] at e
 have er:TZ (f1 ZB (f2 cJ (fV 2) (fC (.int 1)))) [.va (WB ns),.ow (W4 n),.va (.tup [.int sure,.tup rows]),.no,.no,.no,.no]=some (.lst ((DM rows.length).map .int),[.va (WB ns),.ow (W4 n),.va (.tup [.int sure,.tup rows]),.no,.no,.no,.no]):=by
  rw[<- zCB,CU (j:=(rows.length:Int)) (δ1:=[.va (WB ns),.ow (W4 n),.va (.tup [.int sure,.tup rows]),.no,.no,.no,.no]) (by simp) (by lia) (by lia)]
  simp
 unfold aM
 rw[cU,YD.eq_1]
 generalize (DM rows.length).map dE.int=L at*
 generalize order.map dE.int=O at*
 generalize ps.map Z1=Q at*
 simp[cR,em,er,e]
theorem aY.strong{M:Int->Prop}{row:dE}(h:aY M row): ∃as:List Int,(∀a∈as,M a)/\aY (· ∈as) row/\Z9 [row]=some (.lst (as.map .int),[]):=by
 cases h with
 | @number n h0 h1=>exact⟨[],(λ_ h=>nomatch h),.number h0 h1,by kernel_rfl⟩
 | @two x a b hx ha hb=>
  refine⟨[a,b],by simp[ha,hb],.two hx (by simp) (by simp),?_⟩
  simp only[Aj,Ay,or_false] at hx
  rcases hx with rfl|rfl|rfl|rfl|rfl|rfl|rfl<;>kernel_rfl
 | @pick c a b hc ha hb=>exact⟨[c,a,b],by simp[hc,ha,hb],.pick (by simp) (by simp) (by simp),by kernel_rfl⟩
 | @load p h0 h1=>exact⟨[],(λ_ h=>nomatch h),.load h0 h1,by kernel_rfl⟩
 | @take p c a h0 h1 hc ha=>exact⟨[c,a],by simp[hc,ha],.take h0 h1 (by simp) (by simp),by kernel_rfl⟩
 | @store p a h0 h1 ha=>exact⟨[a],by simp[ha],.store h0 h1 (by simp),by kernel_rfl⟩
 | @put p a c h0 h1 ha hc=>exact⟨[a,c],by simp[ha,hc],.put h0 h1 (by simp) (by simp),by kernel_rfl⟩
theorem GY{as:List Int}{row:dE}(h:aY (· ∈as) row){ks:List aR}{vs:List dE}(μ:Int->Int)(hk: ∀a∈as,bO ks vs (.inl a)=some (.int (μ a))):
  ∃bz,cA [row,.dct ks vs]=some (bz,[])/\aY (λb=> ∃a∈as,b=μ a) bz/\RT .w bz=RT .w row:=by
 cases h with
 | @number n h0 h1=>
  refine⟨_,?_,.number h0 h1,rfl⟩
  unfold cA
  rw[cU]
  unfold aT
  simp[cR]
 | @two x a b hx ha hb=>
  have z0:=(dne hx (y:= "number") (by decide)).1
  have z1:=(dne hx (y:= "load") (by decide)).2
  have z2:=(dne hx (y:= "take") (by decide)).2
  have z3:=(dne hx (y:= "store") (by decide)).2
  have z4:=(dne hx (y:= "put") (by decide)).2
  refine⟨.tup [.str x,.int (μ a),.int (μ b)],?_,.two hx ⟨a,ha,rfl⟩ ⟨b,hb,rfl⟩,?_⟩
  ·unfold cA
   rw[cU]
   unfold aT
   simp[cR,z0,z1,z2,z3,z4,bX,hk a ha,hk b hb]
  ·simp only[Aj,Ay,or_false] at hx
   rcases hx with rfl|rfl|rfl|rfl|rfl|rfl|rfl<;>rfl
 | @pick c a b hc ha hb=>
  refine⟨.tup [.str "pick",.int (μ c),.int (μ a),.int (μ b)],?_,.pick ⟨c,hc,rfl⟩ ⟨a,ha,rfl⟩ ⟨b,hb,rfl⟩,rfl⟩
  unfold cA
  rw[cU]
  unfold aT
  simp[cR,bX,hk a ha,hk b hb,hk c hc]
 | @load p h0 h1=>
  refine⟨.tup [.str "load",.int p],?_,.load h0 h1,rfl⟩
  unfold cA
  rw[cU]
  unfold aT
  simp[cR,bX]
 | @take p c a h0 h1 hc ha=>
  refine⟨.tup [.str "take",.int p,.int (μ c),.int (μ a)],?_,.take h0 h1 ⟨c,hc,rfl⟩ ⟨a,ha,rfl⟩,rfl⟩
  unfold cA
  rw[cU]
  unfold aT
  simp[cR,bX,hk a ha,hk c hc]
 | @store p a h0 h1 ha=>
  refine⟨.tup [.str "store",.int p,.int (μ a)],?_,.store h0 h1 ⟨a,ha,rfl⟩,rfl⟩
  unfold cA
  rw[cU]
  unfold aT
  simp[cR,bX,hk a ha]
 | @put p a c h0 h1 ha hc=>
  refine⟨.tup [.str "put",.int p,.int (μ a),.int (μ c)],?_,.put h0 h1 ⟨a,ha,rfl⟩ ⟨c,hc,rfl⟩,rfl⟩
  unfold cA
  rw[cU]
  unfold aT
  simp[cR,bX,hk a ha,hk c hc]
theorem Bl.at{kds aj:List Kd}{rows:List dE}(h:Bl kds rows aj): ∀{j:Nat} {row:dE},rows[j]? =some row->aY (λa=>Nm aj .w a/\a<kds.length+j) row/\aj[kds.length+j]? =some (RT .w row)/\ ∀a,Nm kds .w a->Nm aj .w a:=by
 have keep: ∀{k k':List Kd} {rs:List dE},Bl k rs k'-> ∀(i:Nat) (x:Kd),k[i]? =some x->k'[i]? =some x:=by
  intro k k' rs h
  induction h with
  |nil=>exact λ_ _ z=>z
  |cons _ _ ih=>exact λi x z=>ih i x (by rw[Ae (Ad.mp z).1];exact z)
 induction h with
 | nil => intro j row hr;simp at hr
 | @cons kds aj r rows a t ih=>
  intro j row hr
  cases j with
  |zero=>
   simp at hr
   subst hr
   refine⟨a.imp λx hx=>⟨⟨hx.1,keep t _ _ (hx.snoc (j:=RT .w r)).2⟩,by have:=hx.lt;lia⟩,keep t _ _ (by simp),λx hx=>⟨hx.1,keep t _ _ (hx.snoc (j:=RT .w r)).2⟩⟩
  |succ j=>
   obtain⟨h1,h2,h3⟩:=ih (by simpa using hr)
   rw[Bv,Dt] at h1 h2
   refine⟨h1.imp λx hx=>⟨hx.1,by have:=hx.2;lia⟩,by rw[show kds.length+(j+1)=kds.length+1+j by lia];exact h2,λx hx=>h3 x hx.snoc⟩
noncomputable def swD:dE->dE
 | .tup [a,b]=> .tup [b,a]
 |_=> .non
noncomputable def BW:Nat->List Int->List (aR×dE)
 |_,[]=>[]
 |k,x::xs=>(.inl x,.int (k:Int))::BW (k+1) xs
theorem IE: ∀(xs:List Int) (k:Nat),UR ((YW k (xs.map .int)).map swD)=some (BW k xs)
 |[],_=>rfl
 |x::xs,k=>by
  rw[Az,W6,Az]
  show(C5 (.tup [.int x,.int (k:Int)])).bind (λp=>(UR ((YW (k+1) (xs.map .int)).map swD)).map λps=>p::ps)=_
  rw[IE xs (k+1)]
  rfl
theorem O0: ∀(xs:List Int) (k:Nat),(BW k xs).map Dj=xs.map .inl
 |[],_=>rfl
 |x::xs,k=>by rw[BW,Az,O0 xs (k+1)];rfl
theorem EK: ∀(xs:List Int) (k i:Nat),i<xs.length->((BW k xs).map Eg)[i]? =some (.int ((k+i:Nat):Int))
 |[],_,i,h=>by simp at h
 |x::xs,k,0,_=>rfl
 |x::xs,k,i+1,h=>by
  have:=EK xs (k+1) i (by simpa using h)
  rw[BW,Az,List.getElem?_cons_succ,this]
  congr 3
  lia
theorem zB4{order:List Int}(nd:order.Nodup){a:Int}(ha:a∈order):bO ((BW 0 order).map Dj) ((BW 0 order).map Eg) (.inl a)=some (.int (order.idxOf a:Int)):=by
 have hi:order.idxOf a<order.length:=Je ha
 rw[II _ _ (order.idxOf a) (.inl a) ?_ (by simp) ?_,EK _ _ _ hi]
 ·simp
 ·rw[O0]
  exact Kf _ (λa b h e=>h (by injection e)) nd
 ·rw[O0,Cr,Br hi,Mv hi]
  rfl
def VD(rows:List dE)(r:Int):dE:=(rows[r.toNat]?).getD .non
noncomputable def GX(rows:List dE)(names:dE):dE->dE
 | .int r=>match cA [VD rows r,names] with
  |some (d,_)=>d
  |none=> .non
 |_=> .non
theorem FD{rows os:List dE}{names bz:dE}{r:Int}(e:cA [VD rows r,names]=some (bz,os)):GX rows names (.int r)=bz:=by simp only[GX,e]
def KP(order:List Int):dE:= .dct ((BW 0 order).map Dj) ((BW 0 order).map Eg)
theorem zDP{rows:List dE}{kds:List Kd}(hb:Bl [] rows kds){ps:List (Int×Int)}(P:Prs rows ps){order:List Int}(o1:order.Perm (DM rows.length))(o2: ∀p∈ps,∀k:Nat,order[k]? =some p.2->p.1∈order.take k){pre rest:List Int}{r:Int}(ho:order=pre++r::rest):
  ∃bz,cA [VD rows r,KP order]=some (bz,[])/\WQ rows r=some (VD rows r)/\aY (Nm (pre.map λa=>RT .w (VD rows a)) .w) bz/\RT .w bz=RT .w (VD rows r):=by
 have nd:order.Nodup:=o1.nodup_iff.mpr ((GZ _).imp λh=>by lia)
 have hr:r∈order:=by rw[ho];simp
 have hr2:=FF.mp (o1.mem_iff.mp hr)
 have g9:rows[r.toNat]? =some (VD rows r):=by
  unfold VD
  rw[Br (by lia)]
  rfl
 obtain⟨h1,h2,_⟩:=hb.at g9
 obtain⟨as,a1,a2,a3⟩:=h1.strong
 have dw: ∀a∈as,a∈pre:=λa ha=>by
  have h3:=a1 a ha
  have h4:a<r:=by have:=h3.2;simp at this;lia
  have hp:=P.nm r.toNat _ as g9 a3 a ha h3.1.1 (by lia)
  have:=o2 _ hp pre.length (by rw[ho];simp;lia)
  rw[ho,Px] at this
  exact this
 obtain⟨bz,e,ok,mk⟩:=GY a2 (ks:=(BW 0 order).map Dj) (vs:=(BW 0 order).map Eg) (λa=>(order.idxOf a:Int)) (λa ha=>zB4 nd (by rw[ho];exact Bi.mpr (.inl (dw a ha))))
 refine⟨bz,e,by rw[ZC hr2.1 (by lia)];exact g9,ok.imp λb hb'=> ?_,mk⟩
 obtain⟨a,ha,rfl⟩:=hb'
 have hap:=dw a ha
 have hi:pre.idxOf a<pre.length:=Je hap
 have hio:order.idxOf a=pre.idxOf a:=by rw[ho,List.idxOf_append,if_pos hap]
 refine⟨by lia,?_⟩
 rw[hio,Ge,Cr,Br hi,Mv hi]
 have h3:=(a1 a ha).1
 have hlt:=h3.lt
 have ai:kds.length=rows.length:=by simpa using hb.len
 have o9:rows[a.toNat]? =some (VD rows a):=by
  unfold VD
  rw[Br (by have:=h3.1;lia)]
  rfl
 obtain⟨_,h5,_⟩:=hb.at o9
 simp only[Fy,Jm] at h5
 have:=h3.2
 rw[h5] at this
 injection this with this
 rw[Pl,this]
theorem AA{rows:List dE}{kds:List Kd}(hb:Bl [] rows kds){ps:List (Int×Int)}(P:Prs rows ps){order:List Int}(o1:order.Perm (DM rows.length))(o2: ∀p∈ps,∀k:Nat,order[k]? =some p.2->p.1∈order.take k): ∀(rest pre:List Int),order=pre++rest->Bl (pre.map λa=>RT .w (VD rows a)) ((rest.map .int).map (GX rows (KP order))) (order.map λa=>RT .w (VD rows a))
 |[],pre,ho=>by rw[ho,Dn];exact .nil
 |r::rest,pre,ho=>by
  obtain⟨bz,e,_,ok,mk⟩:=zDP hb P o1 o2 ho
  have er:=FD e
  have ih:=AA hb P o1 o2 rest (pre++[r]) (by rw[ho,Ax];rfl)
  rw[Az,Az,er]
  refine .cons ok ?_
  rw[mk]
  simpa using ih
theorem zBS(ns:List Int)(n:Nat)(most:Int)(hl:ns.length<=63)(hn:n<100000)(h0:0<=most)(h40:most<=40):
  ∃(sure:Int) (rows:List dE) (kds:List Kd) (n':Nat),Bl [] rows kds/\(rows.length:Int)<=most/\0<=sure/\sure<=64/\n'<=n+1000/\Y5 [WB ns,W4 n,.int most]=some (.tup [.int sure,.tup rows],[W4 n']):=by
 obtain⟨x,hx,ex⟩:=XF ns n [.int 3,.int 6,.int 9,.int 64] hl (by lia) (by simp)
 obtain⟨ae,rfl,r0,r1⟩: ∃q:Int,x= .int q/\0<q/\q<=64:=by
  simp only[Aj,Ay,or_false] at hx
  rcases hx with rfl|rfl|rfl|rfl<;>exact⟨_,rfl,by lia,by lia⟩
 have d1:=YC ns (n+1) (ae+1) hl (by lia) (by lia)
 have d1a:=RA ns (n+1) (b:=ae+1) (by lia)
 have d1b:NP ns (n+1) (ae+1)<ae+1:=Em _ (by lia)
 obtain⟨y,hy,ey⟩:=XF ns (n+2) [.int 0,.int ae,.int ae,.int (NP ns (n+1) (ae+1))] hl (by lia) (by simp)
 obtain⟨sure,rfl,s0,s1⟩: ∃q:Int,y= .int q/\0<=q/\q<=64:=by
  simp only[Aj,Ay,or_false] at hy
  rcases hy with rfl|rfl|rfl|rfl<;>exact⟨_,rfl,by lia,by lia⟩
 have d2:=YC ns (n+3) (most+1) hl (by lia) (by lia)
 have d2a:=RA ns (n+3) (b:=most+1) (by lia)
 have d2b:NP ns (n+3) (most+1)<most+1:=Em _ (by lia)
 obtain⟨rows,kds,n1,hb,ai,m1,m2,e1⟩:=zCA ns (n+4) (NP ns (n+3) (most+1)) ae hl (by lia) r0 r1 d2a (by lia)
 have d3:=YC ns n1 3 hl (by lia) (by decide)
 have hrl:rows.length<=40:=by lia
 by_cases h3:0<NP ns n1 3
 ·refine ⟨sure,rows,kds,n1 + 1,hb,by lia,s0,s1,by lia,?_⟩
  unfold Y5
  rw[cU]
  unfold WN
  simp[cR,ex,d1,ey,d2,e1,d3,h3]
 ·obtain ⟨ps,order,P,o1,o2,e2⟩ := zAM ns (n1 + 1) (sure := sure) hl (by lia) hb hrl
  have hol:order.length=rows.length:=by rw[o1.length_eq,LG]
  have nd:order.Nodup:=o1.nodup_iff.mpr ((GZ _).imp λh=>by lia)
  have c1:=V5 0 WY (λ_=>true) (aG (c7 (fV 1) (c7 (fV 0) cB))) swD [] rfl (YW 0 (order.map .int)) [] (λd hd=>by
   obtain⟨i,hi,e⟩:=List.getElem_of_mem hd
   obtain⟨z,_,rfl⟩:=NQ (Ad.mpr ⟨hi,e⟩)
   exact⟨_,_,rfl,by simp,λ_=>by simp[swD]⟩) (by rw[NR];simp;lia)
  have f1:(YW 0 (order.map dE.int)).filter (λ_=>true)=YW 0 (order.map .int):=List.filter_eq_self.mpr λ_ _=>rfl
  rw[f1,Dh] at c1
  have hd:ES (.lst ((YW 0 (order.map .int)).map swD))=some (KP order):=by
   show(UR ((YW 0 (order.map .int)).map swD)).bind (λkds=>if(kds.map Dj).Nodup then some (dE.dct (kds.map Dj) (kds.map Eg)) else none)=_
   rw[IE,Ak,if_pos]
   ·rfl
   ·rw[O0]
    exact Kf _ (λa b h e=>h (by injection e)) nd
  have c2:=V6 2 (cV 2 [] cA (aE (f2 cJ (f2 cJ (fV 0) (fC (.int 1))) (fV 2)) (aE (fV 1) cG))) [.va (.tup [.int sure,.tup rows]),.va (KP order)] (GX rows (KP order)) rfl (order.map .int) [] (λd hd=>by
   obtain⟨r,hr,rfl⟩:=Bx.mp hd
   obtain⟨pre,rest,ho⟩:=List.append_of_mem hr
   obtain⟨bz,e,ea,_,_⟩:=zDP hb P o1 o2 ho
   have er:=FD e
   rw[er]
   simp[ea,e]) (by simp;lia)
  rw[Dh] at c2
  have B:=AA hb P o1 o2 order [] rfl
  refine⟨sure,(order.map .int).map (GX rows (KP order)),_,n1+1+rows.length,B,by simp;lia,s0,s1,by lia,?_⟩
  have h3': ¬0<NP ns n1 3:=h3
  unfold Y5
  rw[cU]
  unfold WN
  have hln:((order.map dE.int).map (GX rows (KP order))).length<=16777216:=by simp;lia
  generalize (order.map dE.int).map (GX rows (KP order))=R at*
  generalize (YW 0 (order.map dE.int)).map swD=S at*
  generalize KP order=D at*
  simp[cR,ex,d1,ey,d2,e1,d3,h3',e2,bX,c1,hd,c2]
noncomputable def BV:Kd->Bool
 | .w=>true
 |_=>false
theorem zKW{kds:List Kd}{a:Int}(h:Nm kds .w a):Ab (kds.map BV) a:=⟨h.1,by rw[Cr,h.2];rfl⟩
theorem mkw{x:String}{t:List dE}:Y1 [.tup (.str x::t)]=some (.bl (BV (RT .w (.tup (.str x::t)))),[]):=by
 unfold Y1;rw[cU];unfold VT
 by_cases h:x= "store"
 ·subst h
  simp[cR,bS,RT,bV,BV]
 ·by_cases h2:x= "put"
  ·subst h2
   simp[cR,bS,RT,bV,BV]
  ·have h3 : ¬ "store" = x := λz => h z.symm
   have h4: ¬ "put"=x:=λz=>h2 z.symm
   simp[cR,bS,RT,bV,BV,h,h2,h3,h4]
theorem zBT(blk rws:dE)(sure:Int){kds aj:List Kd}{rows:List dE}(h:Bl kds rows aj):kds.length+rows.length<1000-> ∀s:Sl,∃s',XN (gN 4) W9 rows [.va blk,.va (.int sure),.va rws,.ow (.lst ((kds.map BV).map .bl)),s]=some (.nx [.va blk,.va (.int sure),.va rws,.ow (.lst ((aj.map BV).map .bl)),s']):=by
 induction h with
 | nil => exact λ_ s => ⟨s,by simp⟩
 | @cons kds aj row rows ok h ih=>
  intro hk s
  obtain⟨s',ih⟩:=ih (by simp at hk⊢;lia) (.va row)
  refine⟨s',?_⟩
  have e:=zB7 (ok.imp λa=>zKW)
  obtain⟨x,t,rfl,_⟩:=RO ok
  have hk':kds.length<16777216:=by simp at hk;lia
  rw[Hf,Hf] at ih
  simp only[Az,Du] at ih
  rw[WH,KU,RN]
  have b1:W9 [.va blk,.va (.int sure),.va rws,.ow (.lst ((kds.map BV).map .bl)),.va (.tup (.str x::t))]=some (.nx [.va blk,.va (.int sure),.va rws,.ow (.lst ((kds.map BV).map .bl++[.bl (BV (RT .w (.tup (.str x::t))))])),.va (.tup (.str x::t))]):=by
   unfold W9
   simp only[Ln] at e
   simp[e,mkw,hk',dE.hard]
  have s1:([.va blk,.va (.int sure),.va rws,.ow (.lst ((kds.map BV).map .bl)),s]:Ev).set 4 (.va (.tup (.str x::t)))=[.va blk,.va (.int sure),.va rws,.ow (.lst ((kds.map BV).map .bl)),.va (.tup (.str x::t))]:=rfl
  rw[s1,b1,P2]
  exact ih
theorem SE{sure:Int}{rows:List dE}{kds:List Kd}(h:Bl [] rows kds)(s0:0<=sure)(s1:sure<=64)(r40:rows.length<=40):ZW [.tup [.int sure,.tup rows]]=some (.bl true,[]):=by
 obtain⟨s',e1⟩:=zBT (.tup [.int sure,.tup rows]) (.tup rows) sure h (by simp;lia) .no
 simp only[Du] at e1
 have h40: ¬(40:Int)<(rows.length:Int):=by lia
 unfold ZW
 rw[cU,RX.eq_1]
 simp[cR,UG,UF,s0,s1,h40,e1]
theorem HV{sure:Int}{rows:List dE}{kds:List Kd}(h:Bl [] rows kds)(s0:0<=sure)(s1:sure<=64)(r40:rows.length<=40){cs:List Int}(hcs: ∀c∈cs,Wd c)(hs:sure<=cs.length)(gh:cs.length<=64):ZM [.tup [.int sure,.tup rows],.lst (cs.map .int)]=some (.non,[]):=by
 have e2:=SE h s0 s1 r40
 have e3:=zBM hcs hs gh
 unfold ZM
 rw[cU]
 unfold UJ
 simp[cR,e2,e3]
def HK(rws:dE)(cs:List dE)(ws:List dE)(a b c d:Sl):Ev:=
 [.va rws,.ow (.lst cs),.ow (.lst ws),a,b,c,d]
@[simp] theorem zNX{i:Nat}{F:b9}{ds:List dE}:C7 i F ds=(ds[i]?).bind λx=>(YV x).bind λes=>(F (ds.take i++[.lst es])).map λq=>(q.1,q.2.dropLast):=(rfl)
inductive Tr:List dE->List dE->List Int->List dE->List Int->Prop
 |nil {ws:List dE} {cs:List Int}:Tr [] ws cs ws cs
 |cons {row m:dE} {rows ws ws':List dE} {as cs cs1 cs':List Int}:aJ [row]=some (.lst (as.map .int),[])->NG row (as.map (wv ws)) cs m cs1->Tr rows (ws++[m]) cs1 ws' cs'->Tr (row::rows) ws cs ws' cs'
theorem Tr.ext{rows ws ws':List dE}{cs cs':List Int}(h:Tr rows ws cs ws' cs'): ∃ex,ws'=ws++ex/\ex.length=rows.length:=by
 induction h with
 |nil=>exact⟨[],by simp,rfl⟩
 | @cons row m rows ws ws' as cs cs1 cs' _ _ _ ih=>
  obtain⟨ex,h1,h2⟩:=ih
  exact⟨m::ex,by rw[h1];simp,by simp[h2]⟩
structure AllT(kds:List Kd)(rows:List dE)(aj:List Kd)(ws:List dE)(cs:List Int)(cs':List Int)(ws':List dE):Prop where
 bl:Bl kds rows aj
 W:Ws aj ws'
 tr:Tr rows ws cs ws' cs'
 ok: ∀c∈cs',Wd c
 len:cs'.length=cs.length
 oks: ∀d∈ws',RU 0 d
 prog: ∀rws a b c d,∃a1 b1 c1 d1,XN (GP 3 4) Y7 (YW kds.length rows) (HK rws (cs.map .int) ws a b c d)=some (.nx (HK rws (cs'.map .int) ws' a1 b1 c1 d1))
structure OneT(kds:List Kd)(rows:List dE)(ws:List dE)(cs:List Int)(cs':List Int)(ws':List dE)(m:Nat)(s:String):Prop where
 lt:m<rows.length
 pre: ∃k,AllT kds (rows.take m) k ws cs cs' ws'
 flt: ∃(row:dE) (as:List Int),rows[m]? =some row/\aJ [row]=some (.lst (as.map .int),[])/\B4 row (as.map (wv ws')) cs' s
 prog: ∀rws a b c d,∃δ,XN (GP 3 4) Y7 (YW kds.length rows) (HK rws (cs.map .int) ws a b c d)=some (.rt (.tup [.lst ws',.tup [.int ((kds.length+m:Nat):Int),.str s]]) δ)/\ ∃a1 b1 c1 d1,δ=HK rws (cs'.map .int) ws' a1 b1 c1 d1
theorem zBD{rws:dE}{cs ws:List dE}{a b c d:Sl}{i r:dE}:GP 3 4 (.tup [i,r]) (HK rws cs ws a b c d)=some (HK rws cs ws (.va i) (.va r) c d):=by simp[HK]
theorem zEV{kds:List Kd}{row:dE}(ok:aY (Nm kds .w) row){ws:List dE}(W:Ws kds ws){cs:List Int}(hcs: ∀c∈cs,Wd c)(hk:kds.length<1000):
    ∃as:List Int,aJ [row]=some (.lst (as.map .int),[])∧
    ((∃m cs1,NG row (as.map (wv ws)) cs m cs1/\ ∀rws i c d,∃c1 d1,Y7 (HK rws (cs.map .int) ws (.va i) (.va row) c d)=some (.nx (HK rws (cs1.map .int) (ws++[m]) (.va i) (.va row) c1 d1)))∨
     ∃s,B4 row (as.map (wv ws)) cs s/\ ∀rws i c d,∃c1 d1,Y7 (HK rws (cs.map .int) ws (.va i) (.va row) c d)=some (.rt (.tup [.lst ws,.tup [i,.str s]]) (HK rws (cs.map .int) ws (.va i) (.va row) c1 d1))):=by
  have hwl:ws.length<16777216:=by rw[W.len];lia
  obtain⟨as,hM,hcn,_,np⟩:=SH ok
  have has:as.length<=3:=by rw[hcn];exact zI7 _
  have c2:=HI (d:= .lst ws) (ws:=ws) has λa ha=>by
    rw[zHG]
    exact(W.word (hM a ha)).1
  refine⟨as,np,?_⟩
  have st:=AX ok (as.map (wv ws)) cs (by simpa using hcn) (λw hw=>by
    obtain⟨q,hq,rfl⟩:=Bx.mp hw
    exact(W.word (hM q hq)).2) hcs
  unfold DoR at st
  generalize as.map (wv ws)=zs at c2 st⊢
  rcases st with⟨m,cs1,D,p2⟩|⟨s,F,p2⟩
  · refine .inl ⟨m,cs1,D,λrws i c d => ⟨.va m,.va .non,?_⟩⟩
    unfold Y7
    simp[HK,np,bX,c2,p2,hwl]
  · refine .inr ⟨s,F,λrws i c d => ⟨.va .non,.va (.str s),?_⟩⟩
    unfold Y7
    simp[HK,np,bX,c2,p2]
theorem simT{kds aj:List Kd}{rows:List dE}(h:Bl kds rows aj): ∀(ws:List dE) (cs:List Int),Ws kds ws->(∀d∈ws,RU 0 d)->(∀c∈cs,Wd c)->kds.length+rows.length<1000→
  (∃cs' ws',AllT kds rows aj ws cs cs' ws')∨ ∃cs' ws' m s,OneT kds rows ws cs cs' ws' m s:=by
 induction h with
 | @nil kds => exact λws cs W hws hcs _ => .inl ⟨cs,ws,.nil,W,.nil,hcs,rfl,hws,λrws a b c d => ⟨a,b,c,d,by simp [YW]⟩⟩
 | @cons kds aj row rows ok h ih=>
  intro ws cs W hws hcs hk
  simp only[Bo] at hk
  obtain⟨as,np,st⟩:=zEV ok W hcs (by lia)
  rcases st with⟨m,cs1,D,pr⟩|⟨s,F,pr⟩
  ·have W':Ws (kds++[RT .w row]) (ws++[m]):=W.snoc D.word
   have ih:=ih (ws++[m]) cs1 W' (λd hd=>by
    rcases Bi.mp hd with z|z
    ·exact hws d z
    ·simp at z;rw[z];exact D.made) (D.ok hcs) (by simp;lia)
   have up: ∀{rs:List dE} {k:List Kd} {cs':List Int} {ws':List dE},AllT (kds++[RT .w row]) rs k (ws++[m]) cs1 cs' ws'->AllT kds (row::rs) k ws cs cs' ws':=λA=>⟨.cons ok A.bl,A.W,.cons np D A.tr,A.ok,A.len.trans D.len,A.oks,λrws a b c d=>by
    obtain⟨c1,d1,e⟩:=pr rws (.int kds.length) c d
    obtain⟨a2,b2,c2,d2,e2⟩:=A.prog rws (.va (.int kds.length)) (.va row) c1 d1
    rw[Bv,Dt] at e2
    exact⟨a2,b2,c2,d2,by rw[W6,WH,zBD,RN,e,P2,e2]⟩⟩
   rcases ih with⟨cs',ws',A⟩|⟨cs',ws',k,s,F⟩
   ·exact .inl ⟨cs',ws',up A⟩
   ·obtain⟨kk,A⟩:=F.pre
    refine .inr ⟨cs',ws',k+1,s,by have:=F.lt;simp;lia,⟨kk,by rw[Iu];exact up A⟩,by simpa using F.flt,λrws a b c d=> ?_⟩
    obtain⟨c1,d1,e⟩:=pr rws (.int kds.length) c d
    obtain⟨δ,e2,hδ⟩:=F.prog rws (.va (.int kds.length)) (.va row) c1 d1
    rw[Bv,Dt] at e2
    refine⟨δ,?_,hδ⟩
    rw[W6,WH,zBD,RN,e,P2,e2,show kds.length+1+k=kds.length+(k+1) by lia]
  ·refine .inr ⟨cs,ws,0,s,by simp,⟨kds,by rw [Py];exact ⟨.nil,W,.nil,hcs,rfl,hws,λrws a b c d => ⟨a,b,c,d,by simp [YW]⟩⟩⟩,⟨row,as,rfl,np,F⟩,λrws a b c d => ?_⟩
   obtain⟨c1,d1,e⟩:=pr rws (.int kds.length) c d
   refine⟨HK rws (cs.map .int) ws (.va (.int kds.length)) (.va row) c1 d1,?_,_,_,_,_,rfl⟩
   rw[W6,WH,zBD,RN,e,zJE,Nat.add_zero]
theorem zDO{sure:Int}{rows:List dE}{kds:List Kd}(h:Bl [] rows kds)(s0:0<=sure)(s1:sure<=64)(r40:rows.length<=40){cs cs':List Int}{ws':List dE}(hcs: ∀c∈cs,Wd c)(hs:sure<=cs.length)(gh:cs.length<=64){fd:dE}
  (A:(∃k,AllT [] rows k [] cs cs' ws'/\fd= .non)∨ ∃m s,OneT [] rows [] cs cs' ws' m s/\fd= .tup [.int m,.str s]):
  LQ [.tup [.int sure,.tup rows],.lst (cs.map .int)]=some (.tup [.lst (cs'.map .int),fd],[])/\V4 [.tup [.int sure,.tup rows],.lst (cs.map .int)]=some (.lst ws',[]):=by
 have ec:=HV h s0 s1 r40 hcs hs gh
 have e5:YZ [.tup rows,.lst (cs.map .int)]=some (.tup [.lst ws',fd],[.lst (cs'.map .int)]):=by
  rcases A with⟨k,A,rfl⟩|⟨m,s,A,rfl⟩
  ·obtain⟨a1,b1,c1,d1,e1⟩:=A.prog (.tup rows) .no .no .no .no
   simp only[HK,Fy] at e1
   unfold YZ
   rw[cU,T0.eq_1]
   simp[cR,e1]
  ·obtain⟨δ1,e1,a1,b1,c1,d1,rfl⟩:=A.prog (.tup rows) .no .no .no .no
   simp only[HK,Jm,Fy] at e1
   unfold YZ
   rw[cU,T0.eq_1]
   simp[cR,e1]
 refine⟨?_,?_⟩
 ·unfold LQ
  rw[cU]
  unfold zBF
  simp[cR,ec,e5]
 ·unfold V4
  rw[cU]
  unfold N0
  simp[cR,ec,e5]
theorem NG.num{row m:dE}{zs cs cs1:List Int}{n:Int}(h:NG row zs cs m cs1)(e:row= .tup [.str "number",.int n]):m= .int n:=by
 cases h with
 |number=>simp at e;rw[e]
 |two hx=>
  simp[bV] at e
 |_=>simp[bV] at e
theorem Tr.num{rows ws ws':List dE}{cs cs':List Int}(h:Tr rows ws cs ws' cs'): ∀{j:Nat} {n:Int},rows[j]? =some (.tup [.str "number",.int n])->ws'[ws.length+j]? =some (.int n):=by
 induction h with
 | nil => intro j n hj;simp at hj
 | @cons row m rows ws ws' as cs cs1 cs' _ D t ih=>
  intro j n hj
  cases j with
  |zero=>
   simp at hj
   obtain⟨ex,hx,_⟩:=t.ext
   rw[hx,D.num hj]
   simp
  |succ j=>
   have:=ih (j:=j) (n:=n) (by simpa using hj)
   rw[Bv,Dt] at this
   rw[show ws.length+(j+1)=ws.length+1+j by lia]
   exact this
theorem MM{x:String}(h: ¬J6 x){t:List dE}:cI [.tup (.str x::t)]=some (.non,[]):=by
 obtain⟨⟨_,z1⟩,⟨_,z2⟩,⟨_,z3⟩,_,z4⟩:=off4 h
 unfold cI;rw[cU];unfold ZX
 simp[cR,ZF,bS,z1,z2,z3,z4]
theorem JC{x:String}(h:J6 x){d:dE}{t:List dE}:cI [.tup (.str x::d::t)]=some (d,[]):=by
 unfold cI;rw[cU];unfold ZX
 rcases h with rfl|rfl|rfl|rfl<;>simp[cR,ZF,bS]
theorem B4.far{row:dE}{zs cs:List Int}{s x:String}{a:Int}{t:List dE}(h:B4 row zs cs s)(e:row= .tup (.str x:: .int a::t))(hx:J6 x):(cs.length:Int)<=a:=by
 cases h with
 |over=>simp[bV] at e;rw[<- e.1] at hx;exact absurd hx (by unfold J6;decide)
 |load h=>simp at e;rw[<- e.2.1];exact h
 |take _ h=>simp at e;rw[<- e.2.1];exact h
 |store h=>simp at e;rw[<- e.2.1];exact h
 |put _ h=>simp at e;rw[<- e.2.1];exact h
theorem B4.off{row:dE}{zs cs:List Int}{s x:String}{t:List dE}(h:B4 row zs cs s)(e:row= .tup (.str x::t))(hx: ¬J6 x):x= "over" /\ ∃u,zs=[u,0]:=by
 cases h with
 |over=>simp[bV] at e;exact⟨e.1.symm,_,rfl⟩
 |load=>simp[bV] at e;exact absurd (.inl e.1.symm) hx
 |take=>simp[bV] at e;exact absurd (.inr (.inl e.1.symm)) hx
 |store=>simp[bV] at e;exact absurd (.inr (.inr (.inl e.1.symm))) hx
 |put=>simp[bV] at e;exact absurd (.inr (.inr (.inr e.1.symm))) hx
def D4(sure:Int)(rows:List dE)(i:Nat)(row:dE)(b:Bool):Prop:=
 ∀(as:List Int) (ws:List dE) (cs:List Int) (s:String),aJ [row]=some (.lst (as.map .int),[])->B4 row (as.map (wv ws)) cs s->sure<=cs.length->(∀(j:Nat) (n:Int),rows[j]? =some (.tup [.str "number",.int n])->j<i->ws[j]? =some (.int n))->b=true
theorem aY.isnum{M:Int->Prop}{row:dE}{t:List dE}(h:aY M row)(e:row= .tup (.str "number"::t)): ∃n,row= .tup [.str "number",.int n]:=by
 cases h with
 | @number n a b=>exact⟨n,rfl⟩
 |two hx=>
  simp[bV] at e
  rw[e.1] at hx
  exact absurd hx (by decide)
 |_=>simp[bV] at e
theorem zC9{x:String}{a:Int}{t:List dE}:Z7 [.tup (.str x:: .int a::t)]=some (.bl (decide (x= "number") && !decide (a=0)),[]):=by
 unfold Z7;rw[cU];unfold X6
 by_cases h:x= "number"
 ·subst h
  simp[cR]
 ·simp[cR,h]
theorem zI9{sure:Int}{rows:List dE}{kds:List Kd}(hb:Bl [] rows kds){i:Nat}{row:dE}(hr:rows[i]? =some row): ∃b,aP [.tup [.int sure,.tup rows],.int i]=some (.bl b,[])/\D4 sure rows i row b:=by
 have hil:i<rows.length:=(Ad.mp hr).1
 have ai : kds.length = rows.length := by simpa using hb.len
 have e0 : WQ rows (i : Int) = some row := by rw [ZC (by lia) (by lia)];simpa using hr
 have ok:=(hb.at hr).1
 obtain⟨x,a,as,rfl,hov⟩:=ok.ints
 unfold aP
 rw[cU]
 unfold UI
 by_cases hx:J6 x
 ·have hp:=JC hx (d:= .int a) (t:=as.map .int)
  have ho : ¬ x = "over" := λz => by subst z;exact absurd hx (by unfold J6;decide)
  refine⟨decide (sure<=a),by simp[cR,e0,hp,ho],λas ws cs s _ F hs _=> ?_⟩
  have:=F.far rfl hx
  simp;lia
 ·have hp:=MM hx (t:= .int a::as.map .int)
  by_cases ho:x= "over"
  ·obtain⟨b,rfl,hbn,hbi⟩:=hov ho
   subst ho
   have b0:=hbn.1
   have b1:=hbn.lt
   simp at hbi
   have hi:b.toNat<rows.length:=by lia
   have e2:WQ rows b=some rows[b.toNat]:=by rw[ZC b0 (by lia)];simp[hi]
   have hr2:rows[b.toNat]? =some rows[b.toNat]:=Br hi
   have ok2:=(hb.at hr2).1
   generalize rows[b.toNat]=kl at e2 hr2 ok2
   obtain⟨x2,a2,as2,rfl,_⟩:=ok2.ints
   have e3:=zC9 (x:=x2) (a:=a2) (t:=as2.map .int)
   refine⟨!(decide (x2= "number") && !decide (a2=0)),?_,λas ws cs s hn F hs hw=> ?_⟩
   ·by_cases h1:x2= "number"
    ·by_cases h2:a2=0
     ·simp[h1,h2] at e3 e2
      simp[cR,e0,e2,e3,h1,h2]
     ·simp[h1,h2] at e3 e2
      simp[cR,e0,e2,e3,h1,h2]
    ·simp[h1] at e3
     simp[cR,e0,e2,e3,h1]
   ·obtain⟨_,u,hz⟩:=F.off rfl hx
    have hn2:aJ [.tup (.str "over":: .int a::[b].map .int)]=some (.lst ([a,b].map .int),[]):=by kernel_rfl
    have has:as=[a,b]:=ID (by
     have:=hn.symm.trans hn2
     simpa using this)
    rw[has] at hz
    simp at hz
    by_cases h1:x2= "number"
    ·by_cases h2:a2=0
     ·simp[h2]
     ·obtain ⟨n,hnn⟩ := ok2.isnum (t := .int a2 :: as2.map .int) (by rw [h1])
      have hn3:=hnn
      simp at hn3
      rw[hnn] at hr2
      have:=hw _ _ hr2 (by lia)
      have hwl:=(Ad.mp this).1
      have hv:wv ws b=n:=by
       unfold wv
       rw[ZC b0 (by lia),this]
      rw[hz.2] at hv
      exact absurd (hn3.2.1.trans hv.symm) h2
    ·simp[h1]
  ·refine⟨false,by simp[cR,e0,hp,ho],λas ws cs s _ F _ _=>absurd (F.off rfl hx).1 ho⟩
noncomputable def cbO:Option (dE×List dE)->Bool
 |some (.bl b,_)=>b
 |_=>false
noncomputable def X3(sure:Int)(rows:List dE)(i:Nat):Bool:=cbO (aP [.tup [.int sure,.tup rows],.int i])
theorem KI{sure:Int}{rows:List dE}{kds:List Kd}(hb:Bl [] rows kds){i:Nat}{row:dE}(hr:rows[i]? =some row):aP [.tup [.int sure,.tup rows],.int i]=some (.bl (X3 sure rows i),[])/\D4 sure rows i row (X3 sure rows i):=by
 obtain⟨b,h1,h2⟩:=zI9 (sure:=sure) hb hr
 have:X3 sure rows i=b:=by unfold X3;rw[h1];rfl
 rw[this]
 exact⟨h1,h2⟩
theorem UC{x:String}{t:List dE}: ∃b,YS [.tup (.str x::t)]=some (.bl b,[]):=by
 unfold YS;rw[cU];unfold N3
 exact⟨_,by simp[cR,bS];rfl⟩
theorem JB{x:String}{a:Int}{t:List dE}: ∃d,cI [.tup (.str x:: .int a::t)]=some (d,[])/\(d= .non∨d= .int a):=by
 by_cases h:J6 x
 ·exact⟨_,JC h,.inr rfl⟩
 ·exact⟨_,MM h,.inl rfl⟩
theorem AS{x y:String}{a b:Int}{t u:List dE}: ∃r,bF [.tup (.str x:: .int a::t),.tup (.str y:: .int b::u)]=some (.bl r,[]):=by
 obtain⟨w1,h1⟩:=UC (x:=x) (t:= .int a::t)
 obtain⟨w2,h2⟩:=UC (x:=y) (t:= .int b::u)
 obtain⟨d1,p1,q1⟩:=JB (x:=x) (a:=a) (t:=t)
 obtain⟨d2,p2,q2⟩:=JB (x:=y) (a:=b) (t:=u)
 have he: ∃r,XH d1 d2=some (.bl r):=by
  rcases q1 with rfl|rfl<;>rcases q2 with rfl|rfl<;>exact⟨_,zE0 (j:=0) (k:=0) (by first|exact K9|exact Z5) (by first|exact K9|exact Z5)⟩
 obtain⟨r,he⟩:=he
 unfold bF;rw[cU];unfold Y8
 cases r with
 |false=>exact⟨false,by simp[cR,p1,p2,he]⟩
 |true=>
  cases w1 with
  |false=>exact⟨w2,by simp[cR,p1,p2,he,h1,h2]⟩
  |true=>exact⟨true,by simp[cR,p1,p2,he,h1,h2]⟩
theorem FK{sure:Int}{rows:List dE}{kds:List Kd}(hb:Bl [] rows kds){i j:Nat}(hi:i<rows.length)(hj:j<rows.length): ∃b,ZN [.tup [.int sure,.tup rows],.int i,.int j]=some (.bl b,[])/\(X3 sure rows i=true->X3 sure rows j=true->b=true):=by
 have r1:rows[i]? =some rows[i]:=Br hi
 have r2:rows[j]? =some rows[j]:=Br hj
 have e1:WQ rows (i:Int)=some rows[i]:=by rw[ZC (by lia) (by lia)];simp[hi]
 have e2:WQ rows (j:Int)=some rows[j]:=by rw[ZC (by lia) (by lia)];simp[hj]
 have c1:=(KI (sure:=sure) hb r1).1
 have c2:=(KI (sure:=sure) hb r2).1
 have k1:=(hb.at r1).1
 have k2:=(hb.at r2).1
 generalize rows[i]=x1 at*
 generalize rows[j]=x2 at*
 generalize X3 sure rows i=b1 at*
 generalize X3 sure rows j=b2 at*
 obtain⟨as,_,_,_,hn⟩:=SH k2
 have hin:aN false (.int (i:Int)) (.lst (as.map .int))=some (.bl (OY (.int (i:Int)) (as.map .int))):=SK (j:=0) (k:=0) Z5 (V8 as)
 generalize OY (.int (i:Int)) (as.map .int)=q at hin
 generalize as.map dE.int=N at hn hin
 obtain⟨y1,a1,t1,rfl,_⟩:=k1.ints
 obtain⟨y2,a2,t2,rfl,_⟩:=k2.ints
 obtain⟨w1,h1⟩:=UC (x:=y1) (t:= .int a1::t1.map .int)
 obtain⟨w2,h2⟩:=UC (x:=y2) (t:= .int a2::t2.map .int)
 obtain⟨r,h3⟩:=AS (x:=y1) (y:=y2) (a:=a1) (b:=a2) (t:=t1.map .int) (u:=t2.map .int)
 unfold ZN;rw[cU];unfold UO
 generalize t1.map dE.int=T1 at*
 generalize t2.map dE.int=T2 at*
 cases q with
 | true => exact ⟨true,by simp [cR,e1,e2,hn,hin],λ_ _ => rfl⟩
 |false=>
  cases r with
  | true => exact ⟨true,by simp [cR,e1,e2,hn,hin,h3],λ_ _ => rfl⟩
  |false=>
   cases b1 with
   |true=>
    cases b2 with
    |true=>exact⟨true,by simp[cR,e1,e2,hn,hin,h3,c1,c2],λ_ _=>rfl⟩
    |false=>
     cases w2 with
     |true=>exact⟨true,by simp[cR,e1,e2,hn,hin,h3,c1,c2,h2],λ_ _=>rfl⟩
     |false=>exact⟨false,by simp[cR,e1,e2,hn,hin,h3,c1,c2,h2],λ_ h=>h⟩
   |false=>
    cases b2 with
    |true=>exact⟨w1,by simp[cR,e1,e2,hn,hin,h3,c1,c2,h1],λh=>by cases h⟩
    |false=>exact⟨false,by simp[cR,e1,e2,hn,hin,h3,c1,c2],λh _=>h⟩
theorem DN(lo:Int)(n:Nat):bD lo (n+1)= .int lo::bD (lo+1) n:=by
 unfold bD
 rw[Hj]
 simp only[Az,Ln]
 refine congr (congrArg List.cons (by simp)) (Go λk _=> ?_)
 simp only[Mq]
 congr 1
 push_cast
 lia
noncomputable def qK2(ix:List Nat)(nl:Nat)(r:Option (List dE×Ev))(gg:VG)(tb:VB)(fi2:VI)(gg2:VG)(tb2:VB)(fe:VF):Option (dE×Ev):=r.bind λp=>(X5 ix.length nl gg tb fi2 gg2 tb2 fe p.1 [] (bX ix p.2)).map λq=>(.lst q.1,ZH ix q.2 p.2)
@[simp] theorem zKL{ix:List Nat}{nl:Nat}{fi fi2:VI}{gg gg2:VG}{tb tb2:VB}{fe:VF}{δ:Ev}:QK ix nl fi gg tb fi2 gg2 tb2 fe δ=qK2 ix nl (fi δ) gg tb fi2 gg2 tb2 fe:=(rfl)
@[simp] theorem zPK{ix:List Nat}{nl:Nat}{fi2:VI}{gg gg2:VG}{tb tb2:VB}{fe:VF}{ds:List dE}{δ:Ev}:qK2 ix nl (some (ds,δ)) gg tb fi2 gg2 tb2 fe=qKb ix δ (X5 ix.length nl gg tb fi2 gg2 tb2 fe ds [] (bX ix δ)):=(rfl)
noncomputable def HJ(n:Nat):Nat->Nat->List dE
 |_,0=>[]
 |j,k+1=>(bD ((j:Int)+1) ((n:Int) - ((j:Int)+1)).toNat).map (λd=>dE.tup [.int j,d])++HJ n (j+1) k
theorem zB9(n i:Int): ∀(ds acc:List dE) (s:Sl),acc.length+ds.length<100000-> ∃s',NC (gN 2) WY (aG (c7 (fV 1) (c7 (fV 2) cB))) ds acc [.va (.int n),.va (.int i),s]=some (acc++ds.map (λd=>dE.tup [.int i,d]),[.va (.int n),.va (.int i),s'])
 |[],acc,s,_=>⟨s,by simp[NC]⟩
 |d::ds,acc,s,hl=>by
  simp only[Bo] at hl
  obtain⟨s',ih⟩:=zB9 n i ds (acc++[.tup [.int i,d]]) (.va d) (by simp;lia)
  refine⟨s',?_⟩
  have au:acc.length<16777216:=by lia
  simp only[NC]
  simp[au,ih]
theorem EB(n:Nat)(hn:n<=40): ∀(k j:Nat) (acc:List dE),j+k<=40->acc.length+k*40<100000->X5 1 2 (gN 1) WY (iR2 (f2 ZV (fV 1) (fC (.int 1))) (fV 0)) (gN 2) WY (aG (c7 (fV 1) (c7 (fV 2) cB))) (bD (j:Int) k) acc [.va (.int n)]=
  some (acc++HJ n j k,[.va (.int n)])
 |0,j,acc,_,_=>by simp[bD,X5,HJ]
 |k+1,j,acc,hj,hl=>by
  have hrl:(bD ((j:Int)+1) ((n:Int) - ((j:Int)+1)).toNat).length<=40:=by simp[bD];lia
  obtain⟨s',e⟩:=zB9 (n:Int) (j:Int) (bD ((j:Int)+1) ((n:Int) - ((j:Int)+1)).toNat) acc .no (by lia)
  have ih:=EB n hn k (j+1) (acc++(bD ((j:Int)+1) ((n:Int) - ((j:Int)+1)).toNat).map (λd=>dE.tup [.int j,d])) (by lia) (by simp;lia)
  have ei:iR2 (f2 ZV (fV 1) (fC (.int 1))) (fV 0) [.va (.int n),.va (.int j),.no]=some (bD ((j:Int)+1) ((n:Int) - ((j:Int)+1)).toNat,[.va (.int n),.va (.int j),.no]):=zE6 (δ1:=[.va (.int n),.va (.int j),.no]) rfl rfl (by lia)
  rw[DN]
  simp -implicitDefEqProofs only[X5,zAV,Fn,Dh,KU,List.set_cons_succ,List.set_cons_zero,Ak,F0,if_true,ei,e,Iu,Py]
  rw[show((j:Int)+1)=((j+1:Nat):Int) by push_cast;rfl] at ih⊢
  rw[ih]
  simp[HJ]
theorem EY(n:Nat)(hn:n<=40): ∀k j,(HJ n j k).length<=k*40
 |0,j=>by simp[HJ]
 |k+1,j=>by
  have:=EY n hn k (j+1)
  simp[HJ,bD]
  lia
theorem LB(n:Nat){d:dE}: ∀k j,j+k<=n->d∈HJ n j k-> ∃a b:Nat,d= .tup [.int a,.int b]/\a<b/\b<n
 | 0,j,_,h => by simp [HJ] at h
 | k + 1,j,hk,h => by
  rcases Bi.mp h with h|h
  ·obtain⟨e,he,rfl⟩:=Bx.mp h
   unfold bD at he
   obtain⟨q,hq,rfl⟩:=Bx.mp he
   have:=Bt.mp hq
   exact⟨j,j+1+q,by push_cast;rfl,by lia,by lia⟩
  ·exact LB n k (j+1) (by lia) h
theorem EO(n a b:Nat)(ha:a<b)(hb:b<n): ∀k j,j<=a->a<j+k->dE.tup [.int a,.int b]∈HJ n j k
 | 0,j,h,h' => by lia
 | k + 1,j,h,h' => by
  refine Bi.mpr ?_
  by_cases he:j=a
  ·subst he
   refine .inl (Bx.mpr ⟨.int b,?_,rfl⟩)
   unfold bD
   exact Bx.mpr ⟨b - (j+1),Bt.mpr (by lia),by congr 1;lia⟩
  ·exact .inr (EO n a b ha hb k (j+1) (by lia) (by lia))
noncomputable def JS(sure:Int)(rows:List dE):dE->Bool
 | .tup [a,b]=>cbO (ZN [.tup [.int sure,.tup rows],a,b])
 |_=>false
theorem zAW{sure:Int}{rows:List dE}{kds:List Kd}(hb:Bl [] rows kds)(s0:0<=sure)(s1:sure<=64)(r40:rows.length<=40):RV [.tup [.int sure,.tup rows]]=some (.lst ((HJ rows.length 0 rows.length).filter (JS sure rows)),[]):=by
 have e1:=SE hb s0 s1 r40
 have e2:=EB rows.length r40 rows.length 0 [] (by lia) (by simp;lia)
 have e3:=V5 1 (fB (cV 3 [] ZN (aE (fV 0) (aE (fV 1) (aE (fV 2) cG))))) (JS sure rows) (aG (c7 (fV 1) (c7 (fV 2) cB))) id [.va (.tup [.int sure,.tup rows])] rfl (HJ rows.length 0 rows.length) [] (λd hd=>by
  obtain⟨a,b,rfl,h1,h2⟩:=LB rows.length rows.length 0 (by lia) hd
  obtain⟨q,hq,_⟩:=FK (sure:=sure) hb (i:=a) (j:=b) (by lia) h2
  refine⟨_,_,rfl,?_,λ_=>by simp⟩
  simp -implicitDefEqProofs [hq,JS,cbO]) (by have:=EY rows.length r40 rows.length 0;simp;lia)
 simp only[Dh] at e2 e3
 rw[show((0:Nat):Int)=0 from rfl] at e2
 have e4:Y2 [.tup [.int sure,.tup rows]]=some (.lst ((HJ rows.length 0 rows.length).filter (JS sure rows)),[]):=by
  unfold Y2;rw[cU];unfold VU
  have hr:(-4611686018427387904:Int)<=rows.length/\(rows.length:Int)<4611686018427387904:=by lia
  simp -implicitDefEqProofs [cR,bX,hr,e2,e3]
 unfold RV;rw[cU];unfold GD
 simp -implicitDefEqProofs [cR,e1,e4]
theorem zD1{sure:Int}{rows:List dE}{kds:List Kd}(hb:Bl [] rows kds){i j:Nat}(hi:i<j)(hj:j<rows.length)(h1:X3 sure rows i=true)(h2:X3 sure rows j=true):dE.tup [.int i,.int j]∈(HJ rows.length 0 rows.length).filter (JS sure rows):=by
 obtain⟨b,h3,h4⟩:=FK (sure:=sure) hb (i:=i) (j:=j) (by lia) hj
 refine Eh.mpr ⟨EO rows.length i j hi hj rows.length 0 (by lia) (by lia),?_⟩
 simp[JS,h3,cbO,h4 h1 h2]
theorem zIE{bs:List Bool}:aN true (.bl true) (.lst (bs.map .bl))=some (.bl (!bs.any id)):=by
 rw[SK (j:=0) (k:=0) K8 (λe he=>by
  obtain⟨b,_,rfl⟩:=Bx.mp he
  exact K8)]
 congr 2
 have:OY (.bl true) (bs.map .bl)=bs.any id:=by
  induction bs with
  |nil=>rfl
  |cons b bs ih=>
   have e:HZ (.bl b) (.bl true)=b:=by cases b<;>rfl
   simp only[Az,IC,Hb,id,e,ih]
   try simp
 rw[this]
 rfl
noncomputable def PK(sure:Int)(rows:List dE):List Bool:=(Ar rows.length).map (X3 sure rows)
noncomputable def BZ(ns:List Int)(n:Nat)(blk:dE)(M:List dE)(k c f g:Sl):Ev:=[.va (WB ns),.ow (W4 n),.va blk,.va (.lst M),k,c,f,g,.no]
theorem zAZ{sure:Int}{rows:List dE}{i:Nat}(h:i<rows.length):WQ ((PK sure rows).map dE.bl) (i:Int)=some (.bl (X3 sure rows i)):=by
 rw[ZC (by lia) (by simp[PK];lia)]
 simp[PK,h]
theorem CN{cs:List Int}{sure:Int}(hcs: ∀c∈cs,Wd c)(s0:0<=sure)(hs:sure<=cs.length)(hc:cs.length<=64)(j:Int)(hj:j=64∨j=sure): ∃cs2:List Int,WR (cs.map .int) none (some j)=cs2.map .int/\(∀c∈cs2,Wd c)/\sure<=cs2.length/\cs2.length<=64:=by
 have h1:j=((j.toNat:Nat):Int):=by lia
 refine⟨cs.take j.toNat,?_,λc h=>hcs c (Lu h),by simp;lia,by simp;lia⟩
 rw[h1,TY,Ge,List.map_take]
theorem zDF{sure:Int}{rows:List dE}{kds:List Kd}(hb:Bl [] rows kds)(s0:0<=sure)(s1:sure<=64)(r40:rows.length<=40)(ns:List Int)(hl:ns.length<=63)(n:Nat)(hn:n<10000)(k:Int)(c f g:Sl):
  ∃n' c' f' g',n'<=n+67/\VJ (BZ ns n (.tup [.int sure,.tup rows]) ((PK sure rows).map .bl) (.va (.int k)) c f g)=some (.nx (BZ ns n' (.tup [.int sure,.tup rows]) ((PK sure rows).map .bl) (.va (.int k)) c' f' g')):=by
 obtain⟨cs0,n',hc0,hs0,gh,hn',e1⟩:=zBN ns n sure hl hn s0 s1
 have main: ∀j:Int,(k<2/\j=64)∨(¬k<2/\j=sure)-> ∃n' c' f' g',n'<=n+67/\VJ (BZ ns n (.tup [.int sure,.tup rows]) ((PK sure rows).map .bl) (.va (.int k)) c f g)=some (.nx (BZ ns n' (.tup [.int sure,.tup rows]) ((PK sure rows).map .bl) (.va (.int k)) c' f' g')):=λj hkj=>by
  have hj:j=64∨j=sure:=by lia
  obtain⟨cs,e2,hcs,hs,hcl⟩:=CN hc0 s0 hs0 gh j hj
  have hM: ∀i,i<rows.length->WQ ((PK sure rows).map dE.bl) (i:Int)=some (.bl (X3 sure rows i)):=λi h=>zAZ h
  have hin:=zIE (bs:=PK sure rows)
  have oo: ∀i,i<rows.length->X3 sure rows i=true->(PK sure rows).any id=true:=λi h h2=>List.any_eq_true.mpr ⟨true,Bx.mpr ⟨i,Bt.mpr h,h2⟩,rfl⟩
  generalize (PK sure rows).any id=A at hin oo
  generalize (PK sure rows).map dE.bl=M at*
  unfold BZ
  rcases simT hb [] cs Ws.nil (λ_ h=>nomatch h) hcs (by simp;lia) with⟨cs',ws',T⟩|⟨cs',ws',m,s,F⟩
  ·obtain⟨r1,r2⟩:=zDO hb s0 s1 r40 hcs hs hcl (.inl ⟨_,T,rfl⟩)
   obtain⟨ex,x1,x2⟩:=T.tr.ext
   have hwl:ws'.length=rows.length:=by rw[x1];simpa using x2
   refine⟨n',.va (.lst (cs.map .int)),.va (.lst (cs'.map .int)),.va .non,hn',?_⟩
   generalize cs.map dE.int=C at*
   generalize cs'.map dE.int=C' at*
   generalize cs0.map dE.int=C0 at*
   unfold VJ
   cases A with
   |true=>rcases hkj with⟨hk,rfl⟩|⟨hk,rfl⟩<;>simp[e1,hk,e2,r1,r2,hwl,hin]
   |false=>rcases hkj with⟨hk,rfl⟩|⟨hk,rfl⟩<;>simp[e1,hk,e2,r1,r2,hwl,hin]
  ·obtain⟨r1,r2⟩:=zDO hb s0 s1 r40 hcs hs hcl (.inr ⟨m,s,F,rfl⟩)
   obtain⟨kk,T⟩:=F.pre
   obtain⟨row,as,hr,hnm,hf⟩:=F.flt
   have hm:=F.lt
   have om:X3 sure rows m=true:=(KI (sure:=sure) hb hr).2 as ws' cs' s hnm hf (by rw[T.len];exact hs) λj q hj hjm=>by
    have:=T.tr.num (j:=j) (n:=q) (by rw[Cf hjm];exact hj)
    simpa using this
   have hat:=hM m hm
   rw[om] at hat
   have hA:=oo m hm om
   subst hA
   refine⟨n',.va (.lst (cs.map .int)),.va (.lst (cs'.map .int)),.va (.tup [.int m,.str s]),hn',?_⟩
   generalize cs.map dE.int=C at*
   generalize cs'.map dE.int=C' at*
   generalize cs0.map dE.int=C0 at*
   unfold VJ
   rcases hkj with⟨hk,rfl⟩|⟨hk,rfl⟩<;>simp[e1,hk,e2,r1,hat,hin]
 by_cases hk:k<2
 ·exact main 64 (.inl ⟨hk,rfl⟩)
 ·exact main sure (.inr ⟨hk,rfl⟩)
theorem EM{sure:Int}{rows:List dE}{kds:List Kd}(hb:Bl [] rows kds)(s0:0<=sure)(s1:sure<=64)(r40:rows.length<=40)(ns:List Int)(hl:ns.length<=63): ∀(ks:List Int) (n:Nat) (k c f g:Sl),n+67*ks.length<10000→
  ∃n' k' c' f' g',XN (gN 4) VJ (ks.map .int) (BZ ns n (.tup [.int sure,.tup rows]) ((PK sure rows).map .bl) k c f g)=some (.nx (BZ ns n' (.tup [.int sure,.tup rows]) ((PK sure rows).map .bl) k' c' f' g'))
 |[],n,k,c,f,g,_=>⟨n,k,c,f,g,by simp⟩
 |q::ks,n,k,c,f,g,hn=>by
  simp only[Bo] at hn
  obtain⟨n1,c1,f1,g1,h1,e1⟩:=zDF hb s0 s1 r40 ns hl n (by lia) q c f g
  obtain⟨n2,k2,c2,f2,g2,e2⟩:=EM hb s0 s1 r40 ns hl ks n1 (.va (.int q)) c1 f1 g1 (by lia)
  refine⟨n2,k2,c2,f2,g2,?_⟩
  have hs:(BZ ns n (.tup [.int sure,.tup rows]) ((PK sure rows).map .bl) k c f g).set 4 (.va (.int q))=BZ ns n (.tup [.int sure,.tup rows]) ((PK sure rows).map .bl) (.va (.int q)) c f g:=rfl
  rw[Az,WH,KU,hs,RN,e1,P2,e2]
theorem J5{α:Type}{R:α->α->Prop}{g:α->dE}: ∀{L:List α},L.Pairwise R-> ∀d∈XT (L.map g) ((L.map g).drop 1),∃a b,d= .tup [g a,g b]/\R a b/\a∈L/\b∈L
 | [],_,d,h => by simp [XT] at h
 | [x],_,d,h => by simp [XT] at h
 | x :: y :: L,hp,d,h => by
  simp only[Az,List.drop_succ_cons,Jq,XT,Aj] at h
  rcases h with rfl|h
  ·exact ⟨x,y,rfl,(Jo.mp hp).1 y (by simp),by simp,by simp⟩
  ·obtain ⟨a,b,e,r,m1,m2⟩ := J5 (R := R) (g := g) (Jo.mp hp).2 d (by simpa using h)
   exact⟨a,b,e,r,Ao _ m1,Ao _ m2⟩
theorem FS: ∀ds es:List dE,(XT ds es).length<=ds.length
 |[],_=>by simp[XT]
 |d::ds,[]=>by simp[XT]
 |d::ds,e::es=>by simpa[XT] using FS ds es
theorem zBL: ∀W:List dE,WR W (some 1) none=W.drop 1
 |[]=>rfl
 |_::_=>zI6
theorem EG{d:dE}(hd:HZ d d=true): ∀{ds:List dE},d∈ds->OY d ds=true
 |[],h=>nomatch h
 |e::ds,h=>by
  rw[IC]
  rcases Aj.mp h with rfl|h
  ·simp[hd]
  ·simp[EG hd h]
end L2
namespace RR
open PySem L2
theorem zB2(ns:List Int)(hl:ns.length<=63):LP [.lst (ns.map .int)]=some (.bl true,[]):=by
 obtain⟨sure,rows,kds,n,hb,ai,s0,s1,hn,e1⟩:=zBS ns 0 16 hl (by lia) (by lia) (by lia)
 have r40:rows.length<=40:=by lia
 have hS:dE.lst (ns.map .int)=WB ns:=rfl
 obtain⟨n2,u1,u2,u3,u4,e3⟩:=EM hb s0 s1 r40 ns hl [0,1,2,3] n .no .no .no .no (by simp;lia)
 have qy:=SE hb s0 s1 r40
 have e2:=V6 1 (cV 2 [] Y6 (aE (fV 0) (aE (fV 1) cG))) [.va (.tup [.int sure,.tup rows])] (λd=>match d with| .int i=> .bl (X3 sure rows i.toNat)|_=> .non) rfl (bD 0 rows.length) [] (λd hd=>by
  unfold bD at hd
  obtain⟨q,hq,rfl⟩:=Bx.mp hd
  have hq:=Bt.mp hq
  have er:rows[q]? =some rows[q]:=Br hq
  have ea:WQ rows (q:Int)=some rows[q]:=by rw[ZC (by lia) (by lia)];simp[hq]
  have ec:=(KI (sure:=sure) hb er).1
  have ew:V3 [.tup [.int sure,.tup rows],.int q]=some (rows[q],[]):=by
   have h1:(q:Int)<=(rows.length:Int) - 1:=by lia
   unfold V3;rw[cU];unfold NZ
   simp[cR,qy,h1,ea]
  have em:Y6 [.tup [.int sure,.tup rows],.int q]=some (.bl (X3 sure rows q),[]):=by
   unfold Y6;rw[cU];unfold UN
   simp[cR,ew,ec]
  simp[em]) (by simp[bD];lia)
 have hM:((bD 0 rows.length).map (λd=>match d with| .int i=>dE.bl (X3 sure rows i.toNat)|_=> .non))=(PK sure rows).map .bl:=by
  unfold bD PK
  simp
 rw[hM] at e2
 have e4:=Q9 1 (fB (f2 cJ (fV 0) (fV 1))) (λd=>match d with| .int i=>X3 sure rows i.toNat|_=>false) (fV 1) id [.va (.lst ((PK sure rows).map .bl))] rfl (bD 0 rows.length) [] (λd hd=>by
  unfold bD at hd
  obtain⟨q,hq,rfl⟩:=Bx.mp hd
  have:=zAZ (sure:=sure) (Bt.mp hq)
  simp[this]) (by simp[bD];lia)
 have hW:((bD 0 rows.length).filter (λd=>match d with| .int i=>X3 sure rows i.toNat|_=>false)).map id=((Ar rows.length).filter (X3 sure rows)).map λq:Nat=>dE.int q:=by
  unfold bD
  rw[List.map_id,Pn]
  simp[Nj]
 rw[hW] at e4
 have hp:((Ar rows.length).filter (X3 sure rows)).Pairwise (· < ·):=List.pairwise_lt_range.filter _
 have gb: ∀q∈(Ar rows.length).filter (X3 sure rows),q<rows.length/\X3 sure rows q=true:=λq hq=>⟨Bt.mp (Eh.mp hq).1,(Eh.mp hq).2⟩
 have hml:(PK sure rows).length=rows.length:=by simp[PK]
 have hLl:((Ar rows.length).filter (X3 sure rows)).length<=rows.length:=by simpa using List.length_filter_le (X3 sure rows) (Ar rows.length)
 generalize (Ar rows.length).filter (X3 sure rows)=L at*
 have e5:=zAW hb s0 s1 r40
 have hz:=J5 (g:=λq:Nat=>dE.int q) hp
 have e6:=V5 1 (fB (f2 (aN true) (aG (c7 (fV 1) (c7 (fV 2) cB))) (cV 1 [] RV (aE (fV 0) cG)))) (λ_=>false) (fC (.int 1)) id [.va (.tup [.int sure,.tup rows])] rfl (XT (L.map λq:Nat=>dE.int q) ((L.map λq:Nat=>dE.int q).drop 1)) [] (λd hd=>by
  obtain⟨a,b,rfl,hab,ha,hbm⟩:=hz d hd
  refine⟨_,_,rfl,?_,λh=>by cases h⟩
  have hi:=zD1 (sure:=sure) hb hab (gb b hbm).1 (gb a ha).2 (gb b hbm).2
  have hk: ∀e∈(HJ rows.length 0 rows.length).filter (JS sure rows),RU 1 e:=λe he=>by
   obtain⟨x,y,rfl,_⟩:=LB rows.length rows.length 0 (by lia) (Eh.mp he).1
   exact T6 (aZ Z5 (aZ Z5 YR))
  have hin:=SK (neg:=true) (j:=1) (k:=1) (d:= .tup [.int (a:Int),.int (b:Int)]) (T6 (aZ Z5 (aZ Z5 YR))) hk
  rw[EG (by simp) hi] at hin
  generalize (HJ rows.length 0 rows.length).filter (JS sure rows)=PP at*
  simp[e5,hin]) (by have:=FS (L.map λq:Nat=>dE.int q) ((L.map λq:Nat=>dE.int q).drop 1);rw[Ck] at this;simp only[Fy];lia)
 generalize (L.map λq:Nat=>dE.int q)=W at*
 have e3:XN (gN 4) VJ (bD 0 4) (BZ ns n (.tup [.int sure,.tup rows]) ((PK sure rows).map .bl) .no .no .no .no)=some (.nx (BZ ns n2 (.tup [.int sure,.tup rows]) ((PK sure rows).map .bl) u1 u2 u3 u4)):=e3
 have hx:cR [] 9 [WB ns]=[.va (WB ns),.no,.no,.no,.no,.no,.no,.no,.no]:=(rfl)
 have cj:(aC 1 (xO (YN cB))) [.va (WB ns),.no,.no,.no,.no,.no,.no,.no,.no]=some (.nx [.va (WB ns),.ow (W4 0),.no,.no,.no,.no,.no,.no,.no]):=(rfl)
 have hr:(-4611686018427387904:Int)<=rows.length/\(rows.length:Int)<4611686018427387904:=by lia
 have hct:=zBL W
 rw[hS]
 unfold LP
 rw[cU,zBG.eq_1,hx,AH,cj,qS_n]
 unfold BZ at e3
 have jo:((PK sure rows).map dE.bl).length=rows.length:=by rw[Ck,hml]
 generalize (PK sure rows).map dE.bl=M at*
 have hfl: ∀Z:List dE,Z.filter (λ_=>false)=[]:=λZ=>by simp
 simp only[Dh,hfl,Du] at e2 e4 e6
 rw[List.drop_one] at e6
 have hee:XH (.lst []) (.lst [])=some (.bl true):=(rfl)
 simp -implicitDefEqProofs [-zFL,-WH,e1,bX,hr,e2,e3,e4,jo,hct,e6,hee]
end RR
namespace KK
open PySem PySem.W
noncomputable abbrev g(a i:Nat)(n:Str)(d m:Value):Obj:=⟨.type "function",none,.func (fnOf n n (L2.ZL (RR.top i)) (L2.aA (RR.top i)) (L2.c5 (RR.top i)) d .none .none m none (.ref (a - 1)) .none),#[]⟩
theorem p(P:Oi)(a i:Nat)(n:Str)(m:Value)(h1:nsIn (K P) mainGlobals n=some (some (.ref a)):=by kernel_rfl)(h2:(K P).lookup a=some (g a i n .none m):=by kernel_rfl)(h3:codeIn (K P) (.ref (a - 1)) n=true:=by kernel_rfl):L2.A4 (K P) n (RR.top i) a:=L2.a4 h1 h2 h3 (by unfold keepIn;simp only[h2])
end KK
namespace RR
open PySem L2
abbrev Zn(K:An)(x:Str):Prop:=Lk K mainGlobals x=some none
abbrev Gn(K:An)(x:Str)(v:Value):Prop:=Lk K mainGlobals x=some (some v)
theorem NJ{α:Type}{P:List α->Prop}(z: ∀a,P [a]): ∀us:List α,us.length=1->P us
 |[a],_=>z a
theorem WU{α:Type}{P:List α->Prop}(z: ∀a b,P [a,b]): ∀us:List α,us.length=2->P us
 |[a,b],_=>z a b
theorem M6{α:Type}{P:List α->Prop}(z: ∀a b c,P [a,b,c]): ∀us:List α,us.length=3->P us
 |[a,b,c],_=>z a b c
theorem Len4{α:Type}{P:List α->Prop}(z: ∀a b c d,P [a,b,c,d]): ∀us:List α,us.length=4->P us
 |[a,b,c,d],_=>z a b c d
theorem Len5{α:Type}{P:List α->Prop}(z: ∀a b c d e,P [a,b,c,d,e]): ∀us:List α,us.length=5->P us
 |[a,b,c,d,e],_=>z a b c d e
theorem Len6{α:Type}{P:List α->Prop}(z: ∀a b c d e f,P [a,b,c,d,e,f]): ∀us:List α,us.length=6->P us
 |[a,b,c,d,e,f],_=>z a b c d e f
theorem zIG{l:Qt}{w:World}{K:An}{h:Heap}{mg:Str->Option Value}{fa:Addr}(X:K.In h)(G:h.Ns mainGlobals mg)(hfa:mg "law"=some (.ref fa))
  {f_x0 f_x1 f_x2 f_x3 f_x4 f_x5 f_x6 f_x7 f_x8 f_x9 f_x10 f_x11 f_x12 f_x13 f_x14 f_x15 f_x16 f_x17 f_x18 f_x19 f_x20 f_x21 f_x22 f_x23 f_x24 f_x25 f_x26 f_x27 f_x28 f_x29 f_x30:Addr}
  {kV_x30 dc_x30 pm_x30 cd_x30 ct_x30:Value}
  {t1:Tok}
  {a2 f_x31 f_x32 f_x33 f_x34 f_x35 f_x36 f_x37 f_x38 f_x39 f_x40 f_x42 f_x41 f_x45 f_x46 f_x47 f_x48 f_x49 f_x43 f_x44 f_x50:Addr}
  {kV_x50 dc_x50 pm_x50 cd_x50 ct_x50:Value}
  {t3 t4 t5 t6 t7 t8 t9 t10:Tok}
  {a11:Addr}
  {t12 t13 t14 t15 t16 t17 t18:Tok}
  {a19:Addr}
  {h20 h21 h22 h23 h24 h25 h26:Int}
  {t27 t28 t29 t30 t31:Tok}
  {a32:Addr}
  {t33 t34 t35 t36 t37 t38 t39:Tok}
  {a40:Addr}
  {t41 t42 t43:Tok}
  {a44:Addr}
  {t45:Tok}
  {a46:Addr}
  {t47 t48 t49:Tok}
  {a50:Addr}
  {t51 t52:Tok}
  {a53:Addr}
  {t54 t55 t56:Tok}
  {a57 a58:Addr}
  {h59 h60 h61 h62 h63 h64:Int}
  {t65 t66:Tok}
  {a67:Addr}
  {t68 t69:Tok}
  {a70:Addr}
  {t71:Tok}
  (pk:A4 K "is_whole" (top 8) f_x0)
  (mj:A4 K "plus" (top 9) f_x1)
  (ly:A4 K "minus" (top 10) f_x2)
  (li:A4 K "times" (top 11) f_x3)
  (l6:A4 K "least" (top 12) f_x4)
  (ko:A4 K "most" (top 13) f_x5)
  (kn:A4 K "less" (top 14) f_x6)
  (km:A4 K "over" (top 15) f_x7)
  (pj:A4 K "pick" (top 16) f_x8)
  (ph:A4 K "done" (top 18) f_x9)
  (mi:A4 K "parts_of" (top 27) f_x10)
  (mh:A4 K "makes_word" (top 28) f_x11)
  (mf:A4 K "place_of" (top 29) f_x12)
  (me:A4 K "names_of" (top 30) f_x13)
  (md:A4 K "may_name" (top 31) f_x14)
  (ma:A4 K "fits" (top 32) f_x15)
  (m9:A4 K "is_row" (top 33) f_x16)
  (m8:A4 K "is_block" (top 34) f_x17)
  (m6:A4 K "row_at" (top 35) f_x18)
  (lz:A4 K "writes" (top 37) f_x19)
  (lx:A4 K "is_safe_number" (top 38) f_x20)
  (lw:A4 K "can_fault" (top 39) f_x21)
  (lv:A4 K "share_written_cell" (top 40) f_x22)
  (lu:A4 K "must_stay" (top 41) f_x23)
  (ls:A4 K "must_pairs" (top 42) f_x24)
  (lr:A4 K "may_fault" (top 43) f_x25)
  (lq:A4 K "must" (top 44) f_x26)
  (ln:A4 K "is_cells" (top 47) f_x27)
  (ll:A4 K "touches" (top 48) f_x28)
  (lj:A4 K "do_on_cell" (top 49) f_x29)
  (ni:K.lookup a2=some ⟨.type "tuple",none,.seq #[.int 0 t1] 0,#[]⟩)
  (jd:Lk K mainGlobals "do_row"=some (some (.ref f_x30)))
  (ny:K.lookup f_x30=some ⟨.type "function",none,.func (Io "do_row" "do_row" (ZL (top 50)) (aA (top 50)) (c5 (top 50)) (.ref a2) kV_x30 dc_x30 pm_x30 none cd_x30 ct_x30),#[]⟩)
  (p3:Jk K cd_x30 "do_row"=true)
  (g0:Gy K (.ref f_x30)=true)
  (lh:A4 K "do_rows" (top 51) f_x31)
  (lg:A4 K "check_run" (top 52) f_x32)
  (lf:A4 K "run" (top 53) f_x33)
  (lc:A4 K "values" (top 54) f_x34)
  (lb:A4 K "_law_cell_at" (top 56) f_x35)
  (la:A4 K "_law_mixed" (top 57) f_x36)
  (l9:A4 K "_law_draw" (top 58) f_x37)
  (l8:A4 K "_law_pick" (top 59) f_x38)
  (l7:A4 K "_law_place" (top 60) f_x39)
  (l5:A4 K "_law_row" (top 61) f_x40)
  (l3:A4 K "_law_next" (top 63) f_x42)
  (l4:A4 K "_law_rows" (top 62) f_x41)
  (ky:A4 K "_law_names" (top 66) f_x45)
  (kx:A4 K "_law_may" (top 67) f_x46)
  (ku:A4 K "_law_must" (top 68) f_x47)
  (kr:A4 K "_law_mixed_order" (top 69) f_x48)
  (kq:A4 K "_law_renamed" (top 70) f_x49)
  (l0:A4 K "_law_block" (top 64) f_x43)
  (kz:A4 K "_law_cells" (top 65) f_x44)
  (p7:Lk K mainGlobals "law"=some (some (.ref f_x50)))
  (nw:K.lookup f_x50=some ⟨.type "function",none,.func (Io "law" "law" (ZL (top 71)) (aA (top 71)) (c5 (top 71)) .none kV_x50 dc_x50 pm_x50 none cd_x50 ct_x50),#[]⟩)
  (oz:Jk K cd_x50 "law"=true)
  (o6:Gy K (.ref f_x50)=true)
  (kf:Zn K "len")
  (iu:Zn K "range")
  (k9:Zn K "min")
  (kc:Zn K "max")
  (jf:Zn K "list")
  (iq:Zn K "tuple")
  (fu:Zn K "sorted")
  (d9:Zn K "isinstance")
  (jh:Zn K "bool")
  (kg:Zn K "int")
  (k8:Zn K "str")
  (dg:Zn K "enumerate")
  (k7:Zn K "zip")
  (ki:Zn K "all")
  (jg:Zn K "dict")
  (dq:Gn K "MOST_WORD" (.int 999 t3))
  (nk:K.lookup a11=some ⟨.type "tuple",none,.seq #[.str "plus" t4,.str "minus" t5,.str "times" t6,.str "least" t7,.str "most" t8,.str "less" t9,.str "over" t10] 0,#[]⟩)
  (j3:Gn K "DEEDS" (.ref a11))
  (nj:K.lookup a19=some ⟨.type "dict",none,.dict #[⟨h20,.str "plus" t12,.ref f_x1⟩,⟨h21,.str "minus" t13,.ref f_x2⟩,⟨h22,.str "times" t14,.ref f_x3⟩,⟨h23,.str "least" t15,.ref f_x4⟩,⟨h24,.str "most" t16,.ref f_x5⟩,⟨h25,.str "less" t17,.ref f_x6⟩,⟨h26,.str "over" t18,.ref f_x7⟩] 7,#[]⟩)
  (nv:(a19==Ex)=false)
  (js:Gn K "MADE" (.ref a19))
  (dr:Gn K "MOST_SURE" (.int 64 t27))
  (du:Gn K "MOST_ROWS" (.int 40 t28))
  (db:Gn K "MOST_PLACE" (.int 63 t29))
  (nh:K.lookup a32=some ⟨.type "tuple",none,.seq #[.str "row" t30,.str "row" t31] 0,#[]⟩)
  (df:Gn K "DEED_PARTS" (.ref a32))
  (ng:K.lookup a40=some ⟨.type "tuple",none,.seq #[.str "word" t39] 0,#[]⟩)
  (mz:K.lookup a44=some ⟨.type "tuple",none,.seq #[.str "row" t41,.str "row" t42,.str "row" t43] 0,#[]⟩)
  (my:K.lookup a46=some ⟨.type "tuple",none,.seq #[.str "place" t45] 0,#[]⟩)
  (mx:K.lookup a50=some ⟨.type "tuple",none,.seq #[.str "place" t47,.str "row" t48,.str "row" t49] 0,#[]⟩)
  (mw:K.lookup a53=some ⟨.type "tuple",none,.seq #[.str "place" t51,.str "row" t52] 0,#[]⟩)
  (mv:K.lookup a57=some ⟨.type "tuple",none,.seq #[.str "place" t54,.str "row" t55,.str "row" t56] 0,#[]⟩)
  (mq:K.lookup a58=some ⟨.type "dict",none,.dict #[⟨h59,.str "number" t33,.ref a40⟩,⟨h60,.str "pick" t34,.ref a44⟩,⟨h61,.str "load" t35,.ref a46⟩,⟨h62,.str "take" t36,.ref a50⟩,⟨h63,.str "store" t37,.ref a53⟩,⟨h64,.str "put" t38,.ref a57⟩] 6,#[]⟩)
  (nu:(a58==Ex)=false)
  (cw:Gn K "OTHER_PARTS" (.ref a58))
  (mo:K.lookup a67=some ⟨.type "tuple",none,.seq #[.str "load" t65,.str "take" t66] 0,#[]⟩)
  (ft:Gn K "READERS" (.ref a67))
  (mn:K.lookup a70=some ⟨.type "tuple",none,.seq #[.str "store" t68,.str "put" t69] 0,#[]⟩)
  (fo:Gn K "WRITERS" (.ref a70))
  (de:Gn K "MOST_CELLS" (.int 64 t71)):
  ∃fd:Et,(∀(s:Ag) (v:Value),Ov s fd ⟨[v],[]⟩ [("_law_script",v)])/\ ∀base:Heap,K.In base->base.Ns mainGlobals mg->bJ l.prog w K mg base CX0 9 fa fd ["_law_script"] (spV K [] 1 LP):=by
 have e:=hfa.symm.trans (Gp X G p7)
 cases e
 have T:Txt K mg:=⟨λ_ _ e=>Gp X G e,
   Dm X G kf,
   Dm X G iu,
   Dm X G k9,
   Dm X G kc,
   Dm X G jf,
   Dm X G iq,
   Dm X G fu,
   Dm X G d9,
   Dm X G jh,
   Dm X G kg,
   Dm X G k8,
   Dm X G dg,
   Dm X G k7,
   Dm X G ki,
   Dm X G jg,
   ⟨_,.ref a11,Gp X G j3,rfl,λ_ _ _=>(.tup (xs:=[.str "plus",.str "minus",.str "times",.str "least",.str "most",.str "less",.str "over"]) (.inr ⟨_,_,_,nk,rfl,rfl,(by show 7<=sizeLine;decide),(.cons ⟨_,rfl⟩ (.cons ⟨_,rfl⟩ (.cons ⟨_,rfl⟩ (.cons ⟨_,rfl⟩ (.cons ⟨_,rfl⟩ (.cons ⟨_,rfl⟩ (.cons ⟨_,rfl⟩ .nil)))))))⟩) (.cons (.str _) (.cons (.str _) (.cons (.str _) (.cons (.str _) (.cons (.str _) (.cons (.str _) (.cons (.str _) .nil))))))))⟩,
   ⟨_,.ref a32,Gp X G df,rfl,λ_ _ _=>(.tup (xs:=[.str "row",.str "row"]) (.inr ⟨_,_,_,nh,rfl,rfl,(by show 2<=sizeLine;decide),(.cons ⟨_,rfl⟩ (.cons ⟨_,rfl⟩ .nil))⟩) (.cons (.str _) (.cons (.str _) .nil)))⟩,
   ⟨_,.ref a19,Gp X G js,rfl,λ_ _ _=>(.ktb (D:=[("plus",.ref f_x1),("minus",.ref f_x2),("times",.ref f_x3),("least",.ref f_x4),("most",.ref f_x5),("less",.ref f_x6),("over",.ref f_x7)]) ⟨nv,_,_,_,nj,⟨rfl,rfl,rfl⟩,rfl,(.cons rfl rfl (.cons rfl rfl (.cons rfl rfl (.cons rfl rfl (.cons rfl rfl (.cons rfl rfl (.cons rfl rfl .nil)))))))⟩ (.cons (.fn mj.ns) (.cons (.fn ly.ns) (.cons (.fn li.ns) (.cons (.fn l6.ns) (.cons (.fn ko.ns) (.cons (.fn kn.ns) (.cons (.fn km.ns) .nil))))))))⟩,
   ⟨_,.int 64,Gp X G de,⟨_,rfl⟩,λ_ _ _=>(.int _)⟩,
   ⟨_,.int 63,Gp X G db,⟨_,rfl⟩,λ_ _ _=>(.int _)⟩,
   ⟨_,.int 40,Gp X G du,⟨_,rfl⟩,λ_ _ _=>(.int _)⟩,
   ⟨_,.int 64,Gp X G dr,⟨_,rfl⟩,λ_ _ _=>(.int _)⟩,
   ⟨_,.int 999,Gp X G dq,⟨_,rfl⟩,λ_ _ _=>(.int _)⟩,
   ⟨_,.ref a58,Gp X G cw,rfl,λ_ _ _=>(.ktb (D:=[("number",.ref a40),("pick",.ref a44),("load",.ref a46),("take",.ref a50),("store",.ref a53),("put",.ref a57)]) ⟨nu,_,_,_,mq,⟨rfl,rfl,rfl⟩,rfl,(.cons rfl rfl (.cons rfl rfl (.cons rfl rfl (.cons rfl rfl (.cons rfl rfl (.cons rfl rfl .nil))))))⟩ (.cons (.tup (xs:=[.str "word"]) (.inr ⟨_,_,_,ng,rfl,rfl,(by show 1<=sizeLine;decide),(.cons ⟨_,rfl⟩ .nil)⟩) (.cons (.str _) .nil)) (.cons (.tup (xs:=[.str "row",.str "row",.str "row"]) (.inr ⟨_,_,_,mz,rfl,rfl,(by show 3<=sizeLine;decide),(.cons ⟨_,rfl⟩ (.cons ⟨_,rfl⟩ (.cons ⟨_,rfl⟩ .nil)))⟩) (.cons (.str _) (.cons (.str _) (.cons (.str _) .nil)))) (.cons (.tup (xs:=[.str "place"]) (.inr ⟨_,_,_,my,rfl,rfl,(by show 1<=sizeLine;decide),(.cons ⟨_,rfl⟩ .nil)⟩) (.cons (.str _) .nil)) (.cons (.tup (xs:=[.str "place",.str "row",.str "row"]) (.inr ⟨_,_,_,mx,rfl,rfl,(by show 3<=sizeLine;decide),(.cons ⟨_,rfl⟩ (.cons ⟨_,rfl⟩ (.cons ⟨_,rfl⟩ .nil)))⟩) (.cons (.str _) (.cons (.str _) (.cons (.str _) .nil)))) (.cons (.tup (xs:=[.str "place",.str "row"]) (.inr ⟨_,_,_,mw,rfl,rfl,(by show 2<=sizeLine;decide),(.cons ⟨_,rfl⟩ (.cons ⟨_,rfl⟩ .nil))⟩) (.cons (.str _) (.cons (.str _) .nil))) (.cons (.tup (xs:=[.str "place",.str "row",.str "row"]) (.inr ⟨_,_,_,mv,rfl,rfl,(by show 3<=sizeLine;decide),(.cons ⟨_,rfl⟩ (.cons ⟨_,rfl⟩ (.cons ⟨_,rfl⟩ .nil)))⟩) (.cons (.str _) (.cons (.str _) (.cons (.str _) .nil)))) .nil)))))))⟩,
   ⟨_,.ref a67,Gp X G ft,rfl,λ_ _ _=>(.tup (xs:=[.str "load",.str "take"]) (.inr ⟨_,_,_,mo,rfl,rfl,(by show 2<=sizeLine;decide),(.cons ⟨_,rfl⟩ (.cons ⟨_,rfl⟩ .nil))⟩) (.cons (.str _) (.cons (.str _) .nil)))⟩,
   ⟨_,.ref a70,Gp X G fo,rfl,λ_ _ _=>(.tup (xs:=[.str "store",.str "put"]) (.inr ⟨_,_,_,mn,rfl,rfl,(by show 2<=sizeLine;decide),(.cons ⟨_,rfl⟩ (.cons ⟨_,rfl⟩ .nil))⟩) (.cons (.str _) (.cons (.str _) .nil)))⟩⟩
 have f8:=zD9 (st:=top 50) ny p3 g0
 have p6:=f8.binds (ps:=J9) (ds:=[]) (m:=4) ni rfl λ_ _ _ _ _ _ us hl=>match us,hl with|[_,_,_,_],_=>⟨_,rfl,rfl⟩
 have ju:=f8.binds (ps:=J9) (ds:=[.int 0 t1]) (m:=3) ni rfl λ_ _ _ _ _ _ us hl=>match us,hl with|[_,_,_],_=>⟨_,rfl,rfl⟩
 have p8:=zBH (st:=top 71) nw oz o6
 refine⟨Io "law" "law" (ZL (top 71)) (aA (top 71)) (c5 (top 71)) .none kV_x50 dc_x50 pm_x50 none cd_x50 ct_x50,λs v=> .of_eq rfl,λbase _ _=> ?_⟩
 have bo:cM l.prog w K mg base "is_whole" 1 Qx0 [] bK f_x0:=aB X G pk (λU=>zJY U T) (M6 λ_ _ _=>rfl)
 have k6:cM l.prog w K mg base "plus" 1 Qx1 [] QA f_x1:=aB X G mj (λU=>zJX U T) (WU λ_ _=>rfl)
 have k5:cM l.prog w K mg base "minus" 1 Qx2 [] TK f_x2:=aB X G ly (λU=>zJW U T) (WU λ_ _=>rfl)
 have k4:cM l.prog w K mg base "times" 1 Qx3 [] TL f_x3:=aB X G li (λU=>zJV U T) (WU λ_ _=>rfl)
 have jz:cM l.prog w K mg base "least" 1 Qx4 [] TJ f_x4:=aB X G l6 (λU=>zJU U T) (WU λ_ _=>rfl)
 have jy:cM l.prog w K mg base "most" 1 Qx5 [] P8 f_x5:=aB X G ko (λU=>zJT U T) (WU λ_ _=>rfl)
 have jx:cM l.prog w K mg base "less" 1 Qx6 [] P7 f_x6:=aB X G kn (λU=>zJS U T) (WU λ_ _=>rfl)
 have jw:cM l.prog w K mg base "over" 1 Qx7 [] UE f_x7:=aB X G km (λU=>zJR U T) (WU λ_ _=>rfl)
 have jv:cM l.prog w K mg base "pick" 1 Qx8 [] P9 f_x8:=aB X G pj (λU=>zJQ U T) (M6 λ_ _ _=>rfl)
 have j6:cM l.prog w K mg base "done" 2 Qx9 [] WD f_x9:=aB X G ph (λU=>zJP U T k6 k5 k4 jz jy jx jw jv) (WU λ_ _=>rfl)
 have d8:cM l.prog w K mg base "parts_of" 1 B7 [] aU f_x10:=aB X G mi (λU=>zHF U T) (NJ λ_=>rfl)
 have ip:cM l.prog w K mg base "makes_word" 1 Qx11 [] Y1 f_x11:=aB X G mh (λU=>zHE U T) (NJ λ_=>rfl)
 have bn:cM l.prog w K mg base "place_of" 1 FW [] cI f_x12:=aB X G mf (λU=>zHD U T) (NJ λ_=>rfl)
 have d7:cM l.prog w K mg base "names_of" 2 B8 [] aJ f_x13:=aB X G me (λU=>zHC U T d8) (NJ λ_=>rfl)
 have io:cM l.prog w K mg base "may_name" 2 Qx14 [] X1 f_x14:=aB X G md (λU=>zHB U T bo) (WU λ_ _=>rfl)
 have im:cM l.prog w K mg base "fits" 3 Qx15 [] WE f_x15:=aB X G ma (λU=>zHA U T bo io) (M6 λ_ _ _=>rfl)
 have il:cM l.prog w K mg base "is_row" 4 Qx16 [] V2 f_x16:=aB X G m9 (λU=>zH9 U T d8 im) (WU λ_ _=>rfl)
 have cb:cM l.prog w K mg base "is_block" 5 FX [] ZW f_x17:=aB X G m8 (λU=>zH8 U T bo ip il) (NJ λ_=>rfl)
 have ik:cM l.prog w K mg base "row_at" 6 Qx18 [] V3 f_x18:=aB X G m6 (λU=>zH7 U T bo cb) (WU λ_ _=>rfl)
 have ci:cM l.prog w K mg base "writes" 1 B9 [] YS f_x19:=aB X G lz (λU=>zH6 U T) (NJ λ_=>rfl)
 have ij:cM l.prog w K mg base "is_safe_number" 1 Qx20 [] Z7 f_x20:=aB X G lx (λU=>zH5 U T) (NJ λ_=>rfl)
 have cv:cM l.prog w K mg base "can_fault" 2 CA [] aP f_x21:=aB X G lw (λU=>zH4 U T bn ij) (WU λ_ _=>rfl)
 have ii:cM l.prog w K mg base "share_written_cell" 2 Qx22 [] bF f_x22:=aB X G lv (λU=>zH3 U T bn ci) (WU λ_ _=>rfl)
 have ig:cM l.prog w K mg base "must_stay" 3 Qx23 [] ZN f_x23:=aB X G lu (λU=>zH2 U T d7 ci cv ii) (M6 λ_ _ _=>rfl)
 have i9:cM l.prog w K mg base "must_pairs" 4 Qx24 [] Y2 f_x24:=aB X G ls (λU=>zH1 U T ig) (NJ λ_=>rfl)
 have i8:cM l.prog w K mg base "may_fault" 7 Qx25 [] Y6 f_x25:=aB X G lr (λU=>zH0 U T ik cv) (WU λ_ _=>rfl)
 have i7:cM l.prog w K mg base "must" 6 Qx26 [] RV f_x26:=aB X G lq (λU=>zGZ U T cb i9) (NJ λ_=>rfl)
 have i6:cM l.prog w K mg base "is_cells" 2 Qx27 [] XY f_x27:=aB X G ln (λU=>zGY U T bo) (WU λ_ _=>rfl)
 have i5:cM l.prog w K mg base "touches" 1 Qx28 [] ZE f_x28:=aB X G ll (λU=>zGX U T) (WU λ_ _=>rfl)
 have f9:cM l.prog w K mg base "do_on_cell" 2 Qx29 [3] bU f_x29:=aB X G lj (λU=>zGW U T i5) (Len4 λ_ _ _ _=>rfl)
 have je:cM l.prog w K mg base "do_row" 3 J9 [2] ZP f_x30:=⟨Gp X G jd,⟨_,zAP f8 T j6 bn f9,p6⟩,g0⟩
 have en:DefD l.prog w K mg base "do_row" 3 J9 (spV K [2] 4 ZP) f_x30 (.int 0):=⟨Gp X G jd,⟨_,_,zAP f8 T j6 bn f9,ju,by first|exact⟨_,rfl⟩|rfl⟩,g0⟩
 have cz:cM l.prog w K mg base "do_rows" 4 CB [1] YZ f_x31:=aB X G lh (λU=>zGV U T d7 je en) (WU λ_ _=>rfl)
 have cy:cM l.prog w K mg base "check_run" 6 CC [] ZM f_x32:=aB X G lg (λU=>zGU U T cb i6) (WU λ_ _=>rfl)
 have i4:cM l.prog w K mg base "run" 7 Qx33 [] LQ f_x33:=aB X G lf (λU=>zGT U T cz cy) (WU λ_ _=>rfl)
 have i3:cM l.prog w K mg base "values" 7 Qx34 [] V4 f_x34:=aB X G lc (λU=>zGS U T cz cy) (WU λ_ _=>rfl)
 have gy:cM l.prog w K mg base "_law_cell_at" 1 Qx35 [] Z8 f_x35:=aB X G lb (λU=>zGR U T) (WU λ_ _=>rfl)
 have gx:cM l.prog w K mg base "_law_mixed" 2 Qx36 [] YL f_x36:=aB X G la (λU=>zGQ U T gy) (M6 λ_ _ _=>rfl)
 have ap:cM l.prog w K mg base "_law_draw" 3 KA [1] cD f_x37:=aB X G l9 (λU=>zGP U T gx) (M6 λ_ _ _=>rfl)
 have ao:cM l.prog w K mg base "_law_pick" 4 NK [1] b5 f_x38:=aB X G l8 (λU=>zGO U T ap) (M6 λ_ _ _=>rfl)
 have cu:cM l.prog w K mg base "_law_place" 5 Qx39 [1,2] aQ f_x39:=aB X G l7 (λU=>zGN U T ap ao) (Len5 λ_ _ _ _ _=>rfl)
 have gw:cM l.prog w K mg base "_law_row" 6 Qx40 [1,3] W3 f_x40:=aB X G l5 (λU=>zGM U T ap ao cu) (Len5 λ_ _ _ _ _=>rfl)
 have gu:cM l.prog w K mg base "_law_next" 5 Qx42 [1,4] ZJ f_x42:=aB X G l3 (λU=>zGK U T ao) (Len6 λ_ _ _ _ _ _=>rfl)
 have gv:cM l.prog w K mg base "_law_rows" 7 Qx41 [1] X0 f_x41:=aB X G l4 (λU=>zGL U T ao gw gu) (Len4 λ_ _ _ _=>rfl)
 have gn:cM l.prog w K mg base "_law_names" 1 Qx45 [] Z9 f_x45:=aB X G ky (λU=>zGH U T) (NJ λ_=>rfl)
 have cx:cM l.prog w K mg base "_law_may" 1 Qx46 [] Y0 f_x46:=aB X G kx (λU=>zGG U T) (WU λ_ _=>rfl)
 have gm:cM l.prog w K mg base "_law_must" 2 Qx47 [] XZ f_x47:=aB X G ku (λU=>zGF U T gn cx) (NJ λ_=>rfl)
 have gl:cM l.prog w K mg base "_law_mixed_order" 5 Qx48 [1] aM f_x48:=aB X G kr (λU=>zGE U T ao gm) (M6 λ_ _ _=>rfl)
 have gk:cM l.prog w K mg base "_law_renamed" 1 Qx49 [] cA f_x49:=aB X G kq (λU=>zGD U T) (WU λ_ _=>rfl)
 have gq:cM l.prog w K mg base "_law_block" 8 Qx43 [1] Y5 f_x43:=aB X G l0 (λU=>zGJ U T ap ao gv gl gk) (M6 λ_ _ _=>rfl)
 have gp:cM l.prog w K mg base "_law_cells" 5 Qx44 [1] YK f_x44:=aB X G kz (λU=>zGI U T ap ao) (M6 λ_ _ _=>rfl)
 exact zGC p8 T i8 i7 i4 i3 gq gp
theorem AW(K:An)(H:Hp)(a:Addr)(ns:List Int)(hl:ns.length<=63)(h:W8 K H a (ns.map V.int)):spV K [] 1 LP [.ref a] H (λv _=>v= .bl true) λ_ _ _=>False:=by
 have hr:cO K (Zp (λ_=>False) [] [.ref a]) H (ns.map V.int) (ns.map dE.int):=by
  clear h hl
  induction ns with
  |nil=>exact .nil
  |cons n ns ih=>exact .cons (.int n) ih
 have hz: ∀b,¬Zp (λ_=>False) [] [V.ref a] b:=λb h=>by
  rcases h with h|⟨i,h,_⟩
  ·exact h
  ·cases h
 refine⟨λ_=>False,[.lst (ns.map .int)],.bl true,[],rfl,⟨rfl,(λi h=>nomatch h),λi d hi e=> ?_,(λi d h=>nomatch h),(λi j b h=>nomatch h),λa h=>h.elim⟩,zB2 ns hl,λv H' _ _ r=>by cases r;rfl⟩
 cases i with
 |zero=>
  cases e
  refine⟨_,rfl,?_⟩
  rcases h with(h|⟨o,h⟩)|h
  ·exact .lst h (hz a) hr
  ·exact .fzl (.inl ⟨o,h⟩) hr
  ·exact .fzl (.inr h) hr
 |succ i=>cases i<;>cases e
end RR
open PySem PySem.W PyProof.Rows
set_option maxRecDepth 100000 in
set_option maxHeartbeats 0 in
theorem PySem.Challenge.cw_lanepacks_k06_whole_faults_foreseen_holds : PySem.Challenge.rw_lanepacks_k06_whole_faults_foreseen.Holds := by
 w_on;refine holds_law KK.said λsaid=> ?_
 refine holds_open (q:=KK.view) (loose:=KK.lo) (Xt:=KK.X) (XP:=XL KK.view []) (Yf:=KK.H.obs) (Ya:=KK.H.val) (YP:=KK.H.says) (N:=5676) KK.hl (Hook.of _) (Hook.keeps _) (λs e=>xl_of s (Lv.mp e).1) XL.keeps (by rfl) (by rfl) (by rfl) (λs e=>recFacts_of (Lv.mp e).2) (by rfl) (by first|assumption|decide+kernel) (by decide+kernel) ⟨rfl,rfl,rfl,rfl,rfl,by decide+kernel⟩ ?hw ?hc
 case hw=>w_witness2
 refine L2.BN (l:=Ia) (n:=63) (k:=9) (x:= "_law_script") (CX:=L2.CX0) (sp:=λK=>L2.spV K [] 1 L2.LP) rfl (by decide) rfl ⟨rfl,by decide,by decide⟩ (λw h Y=>W.kIn_of (K:=KK.K) (as:=KK.A) (e:=KK.kA) Y) ?F (λK H a ns hl _ hS=>RR.AW K H a ns hl hS) λ_ _ _ _ z=>z
 case F=>
  intro w mg fa h KX G hmg
  exact RR.zIG (K:=KK.K w.params) (f_x0:=78) (f_x1:=85) (f_x2:=92) (f_x3:=99) (f_x4:=106) (f_x5:=113) (f_x6:=120) (f_x7:=127) (f_x8:=134) (f_x9:=142) (f_x10:=159) (f_x11:=166) (f_x12:=173) (f_x13:=178) (f_x14:=185) (f_x15:=192) (f_x16:=197) (f_x17:=204) (f_x18:=211) (f_x19:=218) (f_x20:=225) (f_x21:=232) (f_x22:=239) (f_x23:=246) (f_x24:=251) (f_x25:=258) (f_x26:=265) (f_x27:=270) (f_x28:=277) (f_x29:=284) (f_x30:=292) (kV_x30:= .none) (dc_x30:= .none) (pm_x30:= .str "lanepacks.running" 556) (cd_x30:= .ref 291) (ct_x30:= .none) (t1:=584) (a2:=285) (f_x31:=297) (f_x32:=304) (f_x33:=311) (f_x34:=318) (f_x35:=325) (f_x36:=332) (f_x37:=339) (f_x38:=346) (f_x39:=353) (f_x40:=358) (f_x42:=372) (f_x41:=365) (f_x45:=389) (f_x46:=394) (f_x47:=399) (f_x48:=404) (f_x49:=409) (f_x43:=377) (f_x44:=382) (f_x50:=414) (kV_x50:= .none) (dc_x50:= .none) (pm_x50:= .str "law_lanepacks_k06_whole_faults_foreseen" 633) (cd_x50:= .ref 413) (ct_x50:= .none) (t3:=266) (t4:=268) (t5:=269) (t6:=270) (t7:=271) (t8:=272) (t9:=273) (t10:=274) (a11:=71) (t12:=350) (t13:=351) (t14:=352) (t15:=353) (t16:=354) (t17:=355) (t18:=356) (a19:=135) (h20:=Bz w.params "plus") (h21:=Bz w.params "minus") (h22:=Bz w.params "times") (h23:=Bz w.params "least") (h24:=Bz w.params "most") (h25:=Bz w.params "less") (h26:=Bz w.params "over") (t27:=376) (t28:=378) (t29:=380) (t30:=382) (t31:=383) (a32:=143) (t33:=385) (t34:=387) (t35:=391) (t36:=393) (t37:=397) (t38:=400) (t39:=386) (a40:=145) (t41:=388) (t42:=389) (t43:=390) (a44:=146) (t45:=392) (a46:=147) (t47:=394) (t48:=395) (t49:=396) (a50:=148) (t51:=398) (t52:=399) (a53:=149) (t54:=401) (t55:=402) (t56:=403) (a57:=150) (a58:=144) (h59:=Bz w.params "number") (h60:=Bz w.params "pick") (h61:=Bz w.params "load") (h62:=Bz w.params "take") (h63:=Bz w.params "store") (h64:=Bz w.params "put") (t65:=411) (t66:=412) (a67:=151) (t68:=414) (t69:=415) (a70:=152) (t71:=558) KX G hmg
   (KK.p _ 78 8 "is_whole" (.str "lanepacks.words" 264))
   (KK.p _ 85 9 "plus" (.str "lanepacks.words" 264))
   (KK.p _ 92 10 "minus" (.str "lanepacks.words" 264))
   (KK.p _ 99 11 "times" (.str "lanepacks.words" 264))
   (KK.p _ 106 12 "least" (.str "lanepacks.words" 264))
   (KK.p _ 113 13 "most" (.str "lanepacks.words" 264))
   (KK.p _ 120 14 "less" (.str "lanepacks.words" 264))
   (KK.p _ 127 15 "over" (.str "lanepacks.words" 264))
   (KK.p _ 134 16 "pick" (.str "lanepacks.words" 264))
   (KK.p _ 142 18 "done" (.str "lanepacks.words" 264))
   (KK.p _ 159 27 "parts_of" (.str "lanepacks.blocks" 374))
   (KK.p _ 166 28 "makes_word" (.str "lanepacks.blocks" 374))
   (KK.p _ 173 29 "place_of" (.str "lanepacks.blocks" 374))
   (KK.p _ 178 30 "names_of" (.str "lanepacks.blocks" 374))
   (KK.p _ 185 31 "may_name" (.str "lanepacks.blocks" 374))
   (KK.p _ 192 32 "fits" (.str "lanepacks.blocks" 374))
   (KK.p _ 197 33 "is_row" (.str "lanepacks.blocks" 374))
   (KK.p _ 204 34 "is_block" (.str "lanepacks.blocks" 374))
   (KK.p _ 211 35 "row_at" (.str "lanepacks.blocks" 374))
   (KK.p _ 218 37 "writes" (.str "lanepacks.orders" 487))
   (KK.p _ 225 38 "is_safe_number" (.str "lanepacks.orders" 487))
   (KK.p _ 232 39 "can_fault" (.str "lanepacks.orders" 487))
   (KK.p _ 239 40 "share_written_cell" (.str "lanepacks.orders" 487))
   (KK.p _ 246 41 "must_stay" (.str "lanepacks.orders" 487))
   (KK.p _ 251 42 "must_pairs" (.str "lanepacks.orders" 487))
   (KK.p _ 258 43 "may_fault" (.str "lanepacks.orders" 487))
   (KK.p _ 265 44 "must" (.str "lanepacks.orders" 487))
   (KK.p _ 270 47 "is_cells" (.str "lanepacks.running" 556))
   (KK.p _ 277 48 "touches" (.str "lanepacks.running" 556))
   (KK.p _ 284 49 "do_on_cell" (.str "lanepacks.running" 556))
   (by kernel_rfl)
   (by kernel_rfl)
   (by kernel_rfl)
   (by kernel_rfl)
   (by kernel_rfl)
   (KK.p _ 297 51 "do_rows" (.str "lanepacks.running" 556))
   (KK.p _ 304 52 "check_run" (.str "lanepacks.running" 556))
   (KK.p _ 311 53 "run" (.str "lanepacks.running" 556))
   (KK.p _ 318 54 "values" (.str "lanepacks.running" 556))
   (KK.p _ 325 56 "_law_cell_at" KK.m)
   (KK.p _ 332 57 "_law_mixed" KK.m)
   (KK.p _ 339 58 "_law_draw" KK.m)
   (KK.p _ 346 59 "_law_pick" KK.m)
   (KK.p _ 353 60 "_law_place" KK.m)
   (KK.p _ 358 61 "_law_row" KK.m)
   (KK.p _ 372 63 "_law_next" KK.m)
   (KK.p _ 365 62 "_law_rows" KK.m)
   (KK.p _ 389 66 "_law_names" KK.m)
   (KK.p _ 394 67 "_law_may" KK.m)
   (KK.p _ 399 68 "_law_must" KK.m)
   (KK.p _ 404 69 "_law_mixed_order" KK.m)
   (KK.p _ 409 70 "_law_renamed" KK.m)
   (KK.p _ 377 64 "_law_block" KK.m)
   (KK.p _ 382 65 "_law_cells" KK.m)
   (by kernel_rfl)
   (by kernel_rfl)
   (by kernel_rfl)
   (by kernel_rfl)
   (by kernel_rfl)
   (by kernel_rfl)
   (by kernel_rfl)
   (by kernel_rfl)
   (by kernel_rfl)
   (by kernel_rfl)
   (by kernel_rfl)
   (by kernel_rfl)
   (by kernel_rfl)
   (by kernel_rfl)
   (by kernel_rfl)
   (by kernel_rfl)
   (by kernel_rfl)
   (by kernel_rfl)
   (by kernel_rfl)
   (by kernel_rfl)
   (by kernel_rfl)
   (by kernel_rfl)
   (by kernel_rfl)
   (by decide)
   (by kernel_rfl)
   (by kernel_rfl)
   (by kernel_rfl)
   (by kernel_rfl)
   (by kernel_rfl)
   (by kernel_rfl)
   (by kernel_rfl)
   (by kernel_rfl)
   (by kernel_rfl)
   (by kernel_rfl)
   (by kernel_rfl)
   (by kernel_rfl)
   (by kernel_rfl)
   (by decide)
   (by kernel_rfl)
   (by kernel_rfl)
   (by kernel_rfl)
   (by kernel_rfl)
   (by kernel_rfl)
   (by kernel_rfl)
end
