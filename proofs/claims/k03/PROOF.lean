import PyProof.Rows.All
import KE.KFromBytes
import KE.KTab
import KE.KIsAll
import KE.KDictOf
import KE.KEqDeep
import KE.KItem
import KE.KUnpackStar
import Wide.FinOn
import Wide.Line
import KE.KSortTup
import PyProof.AttrMissSeq
import PySem.Challenge.RW_lanepacks_k03_whole_runs
set_option Elab.async false
set_option linter.all false
set_option maxRecDepth 100000
set_option maxHeartbeats 4000000
set_option bootstrap.genMatcherCode false
open PySem renaming wpAny_bind→A0,starEach→A2,Shared→A7,wpAny_pure→A9,bootBuiltins→As,Program→Aw,wpAny_holding→Be,wpAny_mono→Br,sizeLine_eq→Bt,mem_of_lookup→Bu,compareOp→C0,Around→C3,wpAny_newObj_type→C6,wpAny_callSpecial?_slot→C8,wpAny_field→Cs,wpAny_call_entry→Cv,swapsWithSole→D4,swappedStores→D5,wpAny_seqItems→D6,wpAny_truthy_bool→D7,FuncData→D9,backTo→Dc,sysModules→De,wpAny_Call_Name_kw→Dg,wpAny_setField_rec→Dj,wpAny_passesOwn→Dq,binaryOp→Dz,wpAny_standAt→E7,wpAny_pyIter_list→E8,swapsWith→El,wpAny_pyIter_tuple→Em,behindInMarks→Eo,attributeBase→Es,tupleKind_room_in1→Et,wpAny_assign_Name→F1,wpAny_rule→F3,sliceBounds→F6,wpAny_bindName→Fb,wpAny_updateSeq_pair→Fe,bindName→Ff,unpackItems→Fp,letOwnedTupleGo→Fq,keywordEach→Fu,Keyword→Fv,wpAny_typeOf→Gb,Spec→Gh,wpAny_sequenceKey→Gm,wpAny_comprehension_free→Gp,getItem→Gv,wpAny_onRaise→Gz,wpAny_eqBool_int→Hc,noFill_tuple_add→Hd,wpAny_pyNext_list_item→Hf,DictEntry→Hl,importedModules→Hm,wpAny_execs_nil→Ho,wpAny_pyNext_list_end→Hq,concat_meets→Ht,call_meetsIn→Hv,ZipApart→Ig,PyData→Ik,newFunctionEnv→Io,holding→Iq,codeAny→Iu,callerA→Ix,Builtin→J0,bltViewBooted→J3,seq_tuple_add→J6,backToKw→J7,wpAny_attempt→Ja,getattributeRaised→Jd,call_meets→Ji,valueAt→Jj,wpAny_Call_method→Jk,wpAny_pyIter_enum→Jq,codeAny_mono→Jw,seqIndex_neg→Jx,Params→Kf,PassesOwn→Kj,lastMarks→Kl,BindsTo→Km,seqIndex_of→Kn,wpAny_letGo→Kt,pushCells→Kw,wpAny_Name→Li,call→Lj,Within→Lu,stored→Lw
open PySem.Heap renaming get?_push_of_some→A1,lt_size→Ac,get?_push_size→Ai,size_push→Cj,SameBut→Dt,get?_push_ne→F8,ExtBut→Fz,get?_update_other→Hi,get?_update_self→Hu,get?_update_ne→J2
open Bool renaming and_eq_true→A3,false_ne_true→Cn,false_eq_true→Di,or_eq_true→Ew,beq_eq_decide_eq→Ie,and_eq_true_iff→Ij,false_or→Ln,true_and→Lr
open List renaming getElem?_eq_some_iff→A5,getElem?_append_left→A6,mem_cons→A8,size_toArray→Af,mem_cons_of_mem→Ag,mem_singleton→Ah,not_mem_nil→Aj,mem_cons_self→Ak,append_assoc→Am,map_cons→An,getElem?_append_right→Ar,range→At,mem_append_right→Ay,length_cons→B0,replicate→B4,mem_append→B5,getElem?_set_ne→B6,length_set→B9,mem_append_left→Bb,length_take→Bf,length_append→Bg,length_map→Bi,take_of_length_le→Bm,lookup_cons→Bn,getElem?_eq_none→Bp,perm_append_comm→Bq,nodup_cons→Bv,take_append_of_le_length→Bw,mem_range→Bx,mem_map→By,getElem?_set_self→Bz,getElem?_take_of_lt→C1,take_append_drop→C5,getElem?_map→C7,map_nil→Ce,lookup_cons_self→Cg,getElem?_eq_getElem→Ci,set_comm→Cm,append_nil→Cq,getElem?_replicate→Cr,mem_of_getElem?→Cu,drop_eq_getElem_cons→Cy,set_append_right→D0,nil_append→D1,length_singleton→Dh,length_eq_zero_iff→Du,drop_length→Dv,find?_cons→E2,cons_append→Ee,mem_filter→Ek,map_append→Ex,length_range→F7,all_eq_true→Fd,any_cons→Fg,dropLast_concat_getLast→Fj,filterMap_cons→Fn,length_nil→Fw,forIn_cons→Fx,take_succ_cons→Fy,map_congr_left→G0,idxOf_lt_length_of_mem→G5,map_set→Ge,getElem?_eq_none_iff→Gg,reverse_perm→Gr,getElem_mem→He,range_succ_eq_map→Hj,of_mem_zip→Hr,length_replicate→Hs,mem_iff_getElem?→Ib,getElem?_mapIdx→Ih,drop_zero→Il,forIn_nil→Im,take_take→Ip,lookup→Iy,mem_filterMap→J5,getElem_idxOf→Je,ext_getElem?→Jo,zip_nil_left→Jp,map_map→Jz,getElem_inj→K1,length_drop→K3,isEmpty_iff→K5,zipIdx_cons→K7,zip_append→Kq,zipIdx_nil→Ks,mapM_cons→L5,take_succ→L6,drop_take→L7,drop_drop→L9,take_left→La,all_cons→Lo,all_map→Ly
open Option renaming bind_some→Aa,isSome_some→J8,getD_none→K4,map_some→L1
open PySem.W renaming Frag→Ad,mg_none_of→Ca,kia_one→Dr,mg_of→Ef,keepIn→Ep,kas_item→Fi,fnOf→Fs,codeIn→Ga,nsIn→Hz,kitx_list→Ir,cellsFrom_some→K2,methodObj→Ki,kasC_bind→Kx,kasC_modify→Ky,kas_item_eq→L0,looseW→Lb,instObj→Ls,OpenLaw→Lx
open Nat renaming le_refl→Ae,lt_of_lt_of_le→Aq,ne_of_lt→Au,lt_irrefl→Bo,zero_le→Cc,le_trans→Df,le_succ→E3,min_eq_left→E5,ne_of_gt→Eg,le_of_succ_le→Fa,zero_add→Gc,sub_self→Gd,lt_succ_of_lt→Jt,le_of_lt→Jv,lt_trans→Jy,add_zero→K0,lt_of_not_le→K6,succ_le_succ→K9,not_lt_zero→Ku,min_le_left→Kv,add_assoc→Lq
open PySem.F renaming slot_list_append→Ao,type_list_append→Ap,slot_dict_get→Cf,entry_dict_get→Db,slot_tuple_iterator_next→Dd,args_tuple_add_2→Eh,entry_tuple_add→Er,args_dict_get_2→Eu,slot_tuple_add→Ez,args_tuple_iterator_next_1→Fh,entry_tuple_iterator_next→G1,slot_zip_next→G2,slot_dict_getitem→Gf,args_dict_get_3→Gw,plainAttrs_dict→Gx,plainAttrs_list→Gy,type_dict_get→Hw,args_zip_next_1→Jr,entry_zip_next→K8
open PySem.Str renaming ofString→Av,ofString_eq_toList→F0
open PySem.Value renaming ref→Ax,type→Gi,int→Kg,str→Kh,bool→Lg,isStrOf→Ll,isInt→M3,float→M4
open PySem.NameKind renaming free→Az,cell→Bk
open PySem.PyData renaming keyHash→B7,depthAll→D8,canLay0→Dw,canLayAll0→F9,depth→Fc,eqv→Fk,int→Jn,strOk→Lz
open PySem.Builtin.SmallTypes renaming nextOf→B8,ownedTupleIsFree→Cd,ownedTupleHandOut→Ed
open Option.some renaming inj→Ba
open Prod renaming fst→Bh,snd→C2
open Array renaming toList_append→Bj,toList_push→E9,toList_reverse→Eb,length_toList→Fo,perm_iff_toList_perm→G9,eraseIdxIfInBounds→Go,getD→Gq,toList_inj→Kb,toList→Lv
open List.Perm renaming append_left→C4,append_right→Dy,trans→G3,append→Ka,cons→L8
open Ne renaming symm→C9
open ForInStep renaming yield→Cb
open PyProof.Rows renaming assignInOrder_cons→Ck,callWith_type1→Cp,slot_tuple_getitem→Cw,SortSt→Dn,seqObj→Ej,assignInOrder_nil→F2,envOfC→Gk,subscriptTail_builtinR→Hh,AllBare→Hn,listUpdate_at→Jb,unpackItems_tuple→Jh,IntsAre→Jl,pairsOf→Js,SortKind→Ke,seqEpoch_at→Kz,expectedOf→Lc,plainGoodE→Ld,plainGoodD→Le,drecsOf→Lk,tail_any→Lm
open PySem.Builtin.Range renaming rangeSize→Co,small→M6
open PySem.PassesOwn renaming never→Ct
open PySem.SeqAt renaming shaped→Cz
open PySem.Obj renaming mapSeq→D2,data_mapFields→J9
open Int renaming emod_lt_of_pos→D3,emod_nonneg→Ey,toNat_natCast→F5,ediv_nonneg→Ic
open PySem.Builtin.Slice renaming slicePlaces→Dk,sliceAdjust→Ec,sliceApplied→G7,slicePartIndex→Kc,sliceFields→L4
open PyProof.Rows.KTD renaming datumAt→Dm
open PySem.Builtin.Tuple renaming tupleExact→Ds,tupleItemsOf→G8,tupleIsExact→L3
open PySem.Calls renaming callWith_builtin→Dx,spliced_cons→E1,evalArgs_plain→Ea,spliced_nil→F4,Name_function_global→G6
open Pure renaming pure→E4
open False renaming elim→E6
open PySem.AutoSeq1 renaming wpAny_loadPart'→Ei
open PyProof.Rows.SortSt renaming mk'→Fl
open Prod.mk renaming inj→Fm
open List.cons renaming injEq→G4
open PyProof.Rows.IsTup renaming new→Gj
open List.Pairwise renaming map→Gs,nil→Jm
open PySem.Challenge renaming pw_lanepacks_k03_whole_runs→Gu,rw_lanepacks_k03_whole_runs→Hb
open PySem.Builtin.Dict renaming updateFrom→Ha,pairItems→Hk,missed→J1
open PyProof renaming noPylong_small→Hg
open Or renaming inl→Hx,inr→Hy
open Classical renaming choose_spec→Ia
open PySem.Around renaming under_plainId→Ii
open PySem.Heap.SameBut renaming update→Iz
open PySem.Paired renaming length→J4,snoc→M5
open Sum renaming inl→Jf,inr→Jg
open Char renaming toNat→Ju
open PySem.IsRange renaming new→Kk
open PySem.Heap.DictOf renaming new→Ko
open PySem.Shared renaming heap→Kr
open Function renaming comp→Lp
open PySem.MeetsSeq.EqGives renaming int→M0
open PySem.Heap.IsSliceOf renaming new→M7
open PySem.W.WShape renaming has→M8
noncomputable section
namespace RR
open PySem
def top(i:Nat):Stmt:=PySem.Challenge.pw_lanepacks_k03_whole_runs.main.body.getD i (.Pass ⟨0,0,0,0⟩)
end RR
namespace KK
open PySem PySem.W PySem.Calls PyProof.Rows
def dA(s:Stmt):Arguments:=match s with
 | .FunctionDef _ a _ _ _ _ _ _ _ _=>a
 |_=>⟨[],[],none,[],[],none,[]⟩
def dB(s:Stmt):List Stmt:=match s with
 | .FunctionDef _ _ b _ _ _ _ _ _ _=>b
 |_=>[]
def dS(s:Stmt):Scope:=match s with
 | .FunctionDef _ _ _ _ _ _ c _ _ _=>c
 |_=>{kind:= .function,names:=[],isGenerator:=false,isCoroutine:=false}
abbrev s(x:Str)(t:Nat):Value:= .str x t
abbrev e(P:Kf)(x:Str)(t:Nat)(v:Value):Hl:=⟨PyData.keyHash P x,s x t,v⟩
abbrev f(a i:Nat)(n:Str)(d m:Value):Nat×Obj:=(a,⟨.type "function",none,.func (fnOf n n (dA (RR.top i)) (dB (RR.top i)) (dS (RR.top i)) d .none .none m none (.ref (a - 1)) .none),#[]⟩)
abbrev co(a:Nat)(n:Str)(t:Nat)(l k:Int)(u:Nat)(x y z v:Value):Nat×Obj:=(a,⟨.type "code",none,.fields #[s n t,s n (t+1),s "/claim/cut.py" (t+2),.int l 0,.int k 0,.int 0 0,.int 0 0,.int 3 0,x,.bool true,.int 181 0,y,.none,z,v,.ref (a - 1),.int u 0,.int l 0,s "/claim/cut.py" (u+1)],#[]⟩)
abbrev c(a:Nat)(n:Str)(t:Nat)(l k:Int)(u:Nat):Nat×Obj:=co a n t l k u (.ref (a - 5)) (.ref (a - 4)) (.ref (a - 3)) (.ref (a - 2))
abbrev b(a:Nat)(n:Str)(t:Nat)(l k:Int)(u:Nat):Nat×Obj:=co a n t l k u (.ref (a - 3)) (.ref (a - 2)) .none .none
noncomputable def K(P:Kf):Frag:=[(3,⟨.type "dict",none,.dict #[e P "__name__" 165 (s "law_lanepacks_k03_whole_runs" 530),e P "__doc__" 166 (.none),e P "__package__" 167 (.none),e P "__loader__" 168 (.builtin "__main__.__loader__#opaque"),e P "__spec__" 169 (.none),e P "__annotations__" 170 (.ref 6),e P "__builtins__" 171 (.ref 4),e P "__file__" 173 (s "/claim/cut.py" 172),e P "__cached__" 174 (.none),e P "PackError" 206 (.ref 24),e P "NoBlock" 222 (.ref 37),e P "NoCells" 238 (.ref 49),e P "MOST_WORD" 242 (.int 999 241),e P "DEEDS" 250 (.ref 52),e P "is_whole" 259 (.ref 59),e P "plus" 267 (.ref 66),e P "minus" 275 (.ref 73),e P "times" 283 (.ref 80),e P "least" 291 (.ref 87),e P "most" 299 (.ref 94),e P "less" 307 (.ref 101),e P "over" 315 (.ref 108),e P "pick" 324 (.ref 115),e P "MADE" 339 (.ref 116),e P "done" 348 (.ref 123),e P "MOST_SURE" 352 (.int 64 351),e P "MOST_ROWS" 354 (.int 40 353),e P "MOST_PLACE" 356 (.int 63 355),e P "DEED_PARTS" 359 (.ref 124),e P "OTHER_PARTS" 385 (.ref 125),e P "READERS" 388 (.ref 132),e P "WRITERS" 391 (.ref 133),e P "parts_of" 398 (.ref 140),e P "makes_word" 405 (.ref 147),e P "place_of" 412 (.ref 154),e P "names_of" 418 (.ref 159),e P "may_name" 426 (.ref 166),e P "fits" 435 (.ref 173),e P "is_row" 441 (.ref 178),e P "is_block" 452 (.ref 185),e P "MOST_CELLS" 456 (.int 64 455),e P "is_cells" 462 (.ref 190),e P "touches" 470 (.ref 197),e P "do_on_cell" 480 (.ref 204),e P "do_row" 494 (.ref 212),e P "do_rows" 500 (.ref 217),e P "check_run" 508 (.ref 224),e P "run" 519 (.ref 231),e P "values" 529 (.ref 238),e P "_law_cell_at" 541 (.ref 245),e P "_law_mixed" 551 (.ref 252),e P "_law_draw" 560 (.ref 259),e P "_law_pick" 569 (.ref 266),e P "_law_place" 580 (.ref 273),e P "_law_row" 586 (.ref 278),e P "_law_rows" 600 (.ref 285),e P "_law_next" 617 (.ref 292),e P "_law_block" 623 (.ref 297),e P "_law_cells" 629 (.ref 302),e P "_law_deed" 640 (.ref 309),e P "_law_step" 652 (.ref 316),e P "_law_names" 659 (.ref 323),e P "_law_play" 665 (.ref 328),e P "_law_may" 671 (.ref 333),e P "_law_must" 677 (.ref 338),e P "_law_mixed_order" 683 (.ref 343),e P "_law_renamed" 689 (.ref 348),e P "law" 703 (.ref 355)] 68,#[]⟩),
 (52,⟨.type "tuple",none,.seq #[s "plus" 243,s "minus" 244,s "times" 245,s "least" 246,s "most" 247,s "less" 248,s "over" 249] 0,#[]⟩),
 f 59 7 "is_whole" (.none) (s "lanepacks.words" 239),
 c 58 "is_whole" 251 11 3 257,
 f 66 8 "plus" (.none) (s "lanepacks.words" 239),
 c 65 "plus" 260 15 2 265,
 f 73 9 "minus" (.none) (s "lanepacks.words" 239),
 c 72 "minus" 268 17 2 273,
 f 80 10 "times" (.none) (s "lanepacks.words" 239),
 c 79 "times" 276 19 2 281,
 f 87 11 "least" (.none) (s "lanepacks.words" 239),
 c 86 "least" 284 21 2 289,
 f 94 12 "most" (.none) (s "lanepacks.words" 239),
 c 93 "most" 292 23 2 297,
 f 101 13 "less" (.none) (s "lanepacks.words" 239),
 c 100 "less" 300 25 2 305,
 f 108 14 "over" (.none) (s "lanepacks.words" 239),
 c 107 "over" 308 27 2 313,
 f 115 15 "pick" (.none) (s "lanepacks.words" 239),
 c 114 "pick" 316 29 3 322,
 (116,⟨.type "dict",none,.dict #[e P "plus" 325 (.ref 66),e P "minus" 326 (.ref 73),e P "times" 327 (.ref 80),e P "least" 328 (.ref 87),e P "most" 329 (.ref 94),e P "less" 330 (.ref 101),e P "over" 331 (.ref 108)] 7,#[]⟩),
 f 123 17 "done" (.none) (s "lanepacks.words" 239),
 c 122 "done" 340 32 2 346,
 (124,⟨.type "tuple",none,.seq #[s "row" 357,s "row" 358] 0,#[]⟩),
 (125,⟨.type "dict",none,.dict #[e P "number" 360 (.ref 126),e P "pick" 362 (.ref 127),e P "load" 366 (.ref 128),e P "take" 368 (.ref 129),e P "store" 372 (.ref 130),e P "put" 375 (.ref 131)] 6,#[]⟩),
 (126,⟨.type "tuple",none,.seq #[s "word" 361] 0,#[]⟩),
 (127,⟨.type "tuple",none,.seq #[s "row" 363,s "row" 364,s "row" 365] 0,#[]⟩),
 (128,⟨.type "tuple",none,.seq #[s "place" 367] 0,#[]⟩),
 (129,⟨.type "tuple",none,.seq #[s "place" 369,s "row" 370,s "row" 371] 0,#[]⟩),
 (130,⟨.type "tuple",none,.seq #[s "place" 373,s "row" 374] 0,#[]⟩),
 (131,⟨.type "tuple",none,.seq #[s "place" 376,s "row" 377,s "row" 378] 0,#[]⟩),
 (132,⟨.type "tuple",none,.seq #[s "load" 386,s "take" 387] 0,#[]⟩),
 (133,⟨.type "tuple",none,.seq #[s "store" 389,s "put" 390] 0,#[]⟩),
 f 140 26 "parts_of" (.none) (s "lanepacks.blocks" 349),
 c 139 "parts_of" 392 45 1 396,
 f 147 27 "makes_word" (.none) (s "lanepacks.blocks" 349),
 c 146 "makes_word" 399 49 1 403,
 f 154 28 "place_of" (.none) (s "lanepacks.blocks" 349),
 c 153 "place_of" 406 51 1 410,
 f 159 29 "names_of" (.none) (s "lanepacks.blocks" 349),
 b 158 "names_of" 413 53 1 416,
 f 166 30 "may_name" (.none) (s "lanepacks.blocks" 349),
 c 165 "may_name" 419 56 2 424,
 f 173 31 "fits" (.none) (s "lanepacks.blocks" 349),
 c 172 "fits" 427 58 3 433,
 f 178 32 "is_row" (.none) (s "lanepacks.blocks" 349),
 b 177 "is_row" 436 64 2 439,
 f 185 33 "is_block" (.none) (s "lanepacks.blocks" 349),
 c 184 "is_block" 442 72 1 450,
 f 190 36 "is_cells" (.none) (s "lanepacks.running" 453),
 b 189 "is_cells" 457 88 2 460,
 f 197 37 "touches" (.none) (s "lanepacks.running" 453),
 c 196 "touches" 463 92 2 468,
 f 204 38 "do_on_cell" (.none) (s "lanepacks.running" 453),
 c 203 "do_on_cell" 471 98 4 478,
 (205,⟨.type "tuple",none,.seq #[.int 0 481] 0,#[]⟩),
 f 212 39 "do_row" (.ref 205) (s "lanepacks.running" 453),
 c 211 "do_row" 482 107 4 492,
 f 217 40 "do_rows" (.none) (s "lanepacks.running" 453),
 b 216 "do_rows" 495 116 2 498,
 f 224 41 "check_run" (.none) (s "lanepacks.running" 453),
 c 223 "check_run" 501 124 2 506,
 f 231 42 "run" (.none) (s "lanepacks.running" 453),
 c 230 "run" 509 129 2 517,
 f 238 43 "values" (.none) (s "lanepacks.running" 453),
 c 237 "values" 520 134 2 527,
 f 245 45 "_law_cell_at" (.none) (s "law_lanepacks_k03_whole_runs" 530),
 c 244 "_law_cell_at" 532 139 2 539,
 f 252 46 "_law_mixed" (.none) (s "law_lanepacks_k03_whole_runs" 530),
 c 251 "_law_mixed" 542 148 3 549,
 f 259 47 "_law_draw" (.none) (s "law_lanepacks_k03_whole_runs" 530),
 c 258 "_law_draw" 552 151 3 558,
 f 266 48 "_law_pick" (.none) (s "law_lanepacks_k03_whole_runs" 530),
 c 265 "_law_pick" 561 154 3 567,
 f 273 49 "_law_place" (.none) (s "law_lanepacks_k03_whole_runs" 530),
 c 272 "_law_place" 570 156 5 578,
 f 278 50 "_law_row" (.none) (s "law_lanepacks_k03_whole_runs" 530),
 b 277 "_law_row" 581 159 5 584,
 f 285 51 "_law_rows" (.none) (s "law_lanepacks_k03_whole_runs" 530),
 c 284 "_law_rows" 587 177 4 598,
 f 292 52 "_law_next" (.none) (s "law_lanepacks_k03_whole_runs" 530),
 c 291 "_law_next" 601 189 6 615,
 f 297 53 "_law_block" (.none) (s "law_lanepacks_k03_whole_runs" 530),
 b 296 "_law_block" 618 200 3 621,
 f 302 54 "_law_cells" (.none) (s "law_lanepacks_k03_whole_runs" 530),
 b 301 "_law_cells" 624 209 3 627,
 f 309 55 "_law_deed" (.none) (s "law_lanepacks_k03_whole_runs" 530),
 c 308 "_law_deed" 630 213 2 638,
 f 316 56 "_law_step" (.none) (s "law_lanepacks_k03_whole_runs" 530),
 c 315 "_law_step" 641 225 4 650,
 f 323 57 "_law_names" (.none) (s "law_lanepacks_k03_whole_runs" 530),
 c 322 "_law_names" 653 240 1 657,
 f 328 58 "_law_play" (.none) (s "law_lanepacks_k03_whole_runs" 530),
 b 327 "_law_play" 660 244 2 663,
 f 333 59 "_law_may" (.none) (s "law_lanepacks_k03_whole_runs" 530),
 b 332 "_law_may" 666 255 2 669,
 f 338 60 "_law_must" (.none) (s "law_lanepacks_k03_whole_runs" 530),
 b 337 "_law_must" 672 260 1 675,
 f 343 61 "_law_mixed_order" (.none) (s "law_lanepacks_k03_whole_runs" 530),
 b 342 "_law_mixed_order" 678 272 3 681,
 f 348 62 "_law_renamed" (.none) (s "law_lanepacks_k03_whole_runs" 530),
 b 347 "_law_renamed" 684 279 2 687,
 f 355 63 "law" (.none) (s "law_lanepacks_k03_whole_runs" 530),
 c 354 "law" 690 284 1 701]
noncomputable def A:List Nat:=[3,52,59,58,66,65,73,72,80,79,87,86,94,93,101,100,108,107,115,114,116,123,122,124,125,126,127,128,129,130,131,132,133,140,139,147,146,154,153,159,158,166,165,173,172,178,177,185,184,190,189,197,196,204,203,205,212,211,217,216,224,223,231,230,238,237,245,244,252,251,259,258,266,265,273,272,278,277,285,284,292,291,297,296,302,301,309,308,316,315,323,322,328,327,333,332,338,337,343,342,348,347,355,354]
noncomputable def view:Aw:={Gu with main:={PySem.Challenge.pw_lanepacks_k03_whole_runs.main with body:=[1,2,3,5,6,7,8,9,10,11,12,13,14,15,16,17,19,20,21,22,23,24,25,26,27,28,29,30,31,32,33,35,36,37,38,40,41,42,43,45,46,47,48,49,50,51,52,53,54,55,56,57,58,59,60,61,62,63].map RR.top}}
abbrev lo:List Str:=["MADE","OTHER_PARTS","do_row"]
theorem kA(P:Kf):A=(K P).map (·.1):=by kernel_rfl
noncomputable def X(s:A7):Bool:=xlAt view [] s && recOk (RowW.records (OpenRow.toRowW PySem.Challenge.rw_lanepacks_k03_whole_runs.row)) s
noncomputable abbrev H:Hook:=kHook K A kA
abbrev pr:Aw:=PySem.Challenge.rw_lanepacks_k03_whole_runs.row.prog
abbrev go(w:World)(b:Bool):Option A7:=openEnds treeTable pr (w.withFollow "special-get-raises" b) 4830
noncomputable abbrev fA(s:A7):=seen ((recsOf view).map (·.name)) (ownsOf view) [] {s with gens:= #[]}
noncomputable abbrev fB(s:A7):=(s.heap.bltView,tabsOk view s)
noncomputable abbrev fC(s:A7):Bool:=s.heap.keysOk (Lb view lo) ((recsOf view).map (·.name)) ((litsOf view).map (·.1)) ((clssOf view (Lb view lo)).map (·.name)) && s.heap.accountedOkI (Hm pr.main.body) && s.heap.isNs mainGlobals && s.heap.isNs builtinsNs && tablesOk view s.heap && X s && (if true then s.gens.size==0 else !leftWithCleanup s.gens)
noncomputable abbrev fD(s:A7):=(pinSeenD view (Lk view) s,plainSeenE view (Lb view lo) s,plainSeenD view lo s,wideSeen view s,clsSeenW view lo s,H.obs s)
set_option maxRecDepth 100000 in
set_option maxHeartbeats 0 in
theorem rAf(w:World):(go w false).map fA=some (Lc view):=by kernel_rfl
set_option maxRecDepth 100000 in
set_option maxHeartbeats 0 in
theorem rBf(w:World):(go w false).map fB=some ((J3,true)):=by kernel_rfl
set_option maxRecDepth 100000 in
set_option maxHeartbeats 0 in
theorem rCf(w:World):(go w false).map fC=some (true):=by kernel_rfl
set_option maxRecDepth 100000 in
set_option maxHeartbeats 0 in
theorem rDf(w:World):(go w false).map fD=some ((pinGoodD (Lk view),Ld view (Lb view lo),Le view lo,wideGood view,clsGoodW view lo,H.val (w.withFollow "special-get-raises" false))):=by kernel_rfl
set_option maxRecDepth 100000 in
set_option maxHeartbeats 0 in
theorem rAt(w:World):(go w true).map fA=some (Lc view):=by kernel_rfl
set_option maxRecDepth 100000 in
set_option maxHeartbeats 0 in
theorem rBt(w:World):(go w true).map fB=some ((J3,true)):=by kernel_rfl
set_option maxRecDepth 100000 in
set_option maxHeartbeats 0 in
theorem rCt(w:World):(go w true).map fC=some (true):=by kernel_rfl
set_option maxRecDepth 100000 in
set_option maxHeartbeats 0 in
theorem rDt(w:World):(go w true).map fD=some ((pinGoodD (Lk view),Ld view (Lb view lo),Le view lo,wideGood view,clsGoodW view lo,H.val (w.withFollow "special-get-raises" true))):=by kernel_rfl
theorem jn{o:Option A7}{v:H.α}(ha:o.map fA=some (Lc view))(hb:o.map fB=some (J3,true))(hc:o.map fC=some true)(hd:o.map fD=some (pinGoodD (Lk view),Ld view (Lb view lo),Le view lo,wideGood view,clsGoodW view lo,v)):
  o.map (fun s=>(openSeen view lo (Hm pr.main.body) X true s,H.obs s))=some (openGood view lo,v):=by
 cases o with
 |none=>cases ha
 |some s=>
  have ea:fA s=_:=Ba ha
  have eb:fB s=_:=Ba hb
  have ec:fC s=_:=Ba hc
  have ed:fD s=_:=Ba hd
  obtain⟨b1,b2⟩:=Fm eb
  obtain⟨d1,ed⟩:=Fm ed
  obtain⟨d2,ed⟩:=Fm ed
  obtain⟨d3,ed⟩:=Fm ed
  obtain⟨d4,ed⟩:=Fm ed
  obtain⟨d5,d6⟩:=Fm ed
  show some ((fA s,s.heap.bltView,fC s,tabsOk view s,pinSeenD view (Lk view) s,plainSeenE view (Lb view lo) s,plainSeenD view lo s,wideSeen view s,clsSeenW view lo s),H.obs s)=_
  rw[ea,b1,ec,b2,d1,d2,d3,d4,d5,d6]
  rfl
theorem hl:LeftO pr view lo X H.obs H.val 4830:=fun w=>byRow2 "special-get-raises" (P:=fun w=>(openEnds treeTable pr w 4830).map (fun s=>(openSeen view lo (Hm pr.main.body) X true s,H.obs s))=some (openGood view lo,H.val w)) (fun w=>jn (rAf w) (rBf w) (rCf w) (rDf w)) (fun w=>jn (rAt w) (rBt w) (rCt w) (rDt w)) w
set_option maxRecDepth 100000 in
set_option maxHeartbeats 0 in
theorem said:PySem.Challenge.rw_lanepacks_k03_whole_runs.wellSaid=true:=by kernel_rfl
end KK
namespace L2
open PySem PySem.Spec PyProof.Rows
abbrev Key:=Sum Int Str
noncomputable def zOC:Key->Value->Bool
 | .inl k,v=>M3 k v
 | .inr x,v=>Ll x v
noncomputable def keyH(w:World):Key->Int
 | .inl k=>hashInt k
 | .inr x=>hashStr w x
theorem zBO: ∀{k:Key} {v:Value},zOC k v=true->(∃i t,k=Jf i/\v=Kg i t)∨(∃x t,k=Jg x/\v=Kh x t)
 | .inl i,v,h=>by
  obtain⟨t,e⟩:=Value.isInt_shape (k:=i) (v:=v) h
  exact .inl ⟨i,t,rfl,e⟩
 | .inr x,v,h=>by
  obtain⟨t,e⟩:=Value.isStrOf_shape (x:=x) (v:=v) h
  exact .inr ⟨x,t,rfl,e⟩
theorem zQX(i:Int)(t:Tok):zOC (.inl i) (.int i t)=true:=by simp[zOC,M3]
theorem zQW(x:Str)(t:Tok):zOC (.inr x) (.str x t)=true:=by simp[zOC,Ll]
theorem yAQ(a b:Int):decide ((Jf a:Key)=Jf b)=(a==b):=by
 by_cases e:a=b
 ·subst e;simp
 ·have h : ¬ (Jf a : Key) = Jf b := fun q => e (Sum.inl.inj q)
  rw[decide_eq_false h]
  exact(beq_eq_false_iff_ne.mpr e).symm
theorem yAN(a b:Str):decide ((Jg a:Key)=Jg b)=decide (a=b):=by
 by_cases e:a=b
 ·subst e;simp
 ·have h : ¬ (Jg a : Key) = Jg b := fun q => e (Sum.inr.inj q)
  rw[decide_eq_false h,decide_eq_false e]
theorem yAP(a:Int)(b:Str):decide ((Jf a:Key)=Jg b)=false:=decide_eq_false (fun q=>nomatch q)
theorem yAO(a:Str)(b:Int):decide ((Jg a:Key)=Jf b)=false:=decide_eq_false (fun q=>nomatch q)
noncomputable def zBA(prog:Aw)(w:World):PySem.KeyKind prog w Key where
 is:=zOC
 hash:=keyH w
 inj:=fun v a b ha hb=>by
  rcases zBO ha with⟨i,t,rfl,rfl⟩|⟨x,t,rfl,rfl⟩
  ·rcases zBO hb with⟨j,u,rfl,e⟩|⟨y,u,rfl,e⟩
   ·injection e with e1 _;rw[e1]
   ·exact nomatch e
  ·rcases zBO hb with⟨j,u,rfl,e⟩|⟨y,u,rfl,e⟩
   ·exact nomatch e
   ·injection e with e1 _;rw[e1]
 byValue:=fun k v h=>by
  rcases zBO h with⟨i,t,rfl,rfl⟩|⟨x,t,rfl,rfl⟩<;>rfl
 pyHash:=fun hv h=>by
  rcases zBO hv with⟨i,t,rfl,rfl⟩|⟨x,t,rfl,rfl⟩
  ·exact wpAny_pyHash_int h
  ·exact wpAny_pyHash_str h
 eqBool:=fun hu hv h=>by
  rcases zBO hu with⟨i,t,rfl,rfl⟩|⟨x,t,rfl,rfl⟩
  ·rcases zBO hv with⟨j,u,rfl,rfl⟩|⟨y,u,rfl,rfl⟩
   ·rw[yAQ] at h;exact Hc h
   ·rw[yAP] at h;exact SeqAt.EqAt.int_str i t y u _ _ _ _ h
  ·rcases zBO hv with⟨j,u,rfl,rfl⟩|⟨y,u,rfl,rfl⟩
   ·rw[yAO] at h;exact SeqAt.EqAt.str_int x t j u _ _ _ _ h
   ·rw[yAN] at h;exact wpAny_eqBool_str h
 «strs» :=fun k x t v h=>by
  rcases zBO h with⟨i,u,rfl,e⟩|⟨y,u,rfl,e⟩
  ·exact nomatch e
  ·injection e with e1 _
   subst e1
   cases v<;>rfl
theorem zLS(prog:Aw)(w:World)(i:Int)(t:Tok):(zBA prog w).is (.inl i) (.int i t)=true:=zQX i t
theorem zLR(prog:Aw)(w:World)(x:Str)(t:Tok):(zBA prog w).is (.inr x) (.str x t)=true:=zQW x t
inductive V where
 |non|bl (b:Bool)|int (i:Int)|str (x:Str)|byt (b:Array UInt8)|flt (b:UInt64)|ref (a:Addr)|ty (n:String)
 deriving DecidableEq
def RelV:V->Value->Prop
 | .non,u=>u=Value.none
 | .bl b,u=>u=Lg b
 | .int i,u=> ∃t,u=Kg i t
 | .str x,u=> ∃t,u=Kh x t
 | .byt b,u=> ∃t,u=Value.bytes b t
 | .flt b,u=> ∃t,u=M4 b t
 | .ref a,u=>u=Ax a
 | .ty n,u=>u=Gi n
abbrev Vals:List V->List Value->Prop:=Paired RelV
theorem Vals.length{xs:List V}{us:List Value}(r:Vals xs us):xs.length=us.length:=J4 r
theorem Vals.get: ∀{xs:List V} {us:List Value} {i:Nat} {x:V},Vals xs us->xs[i]? =some x-> ∃u,us[i]? =some u/\RelV x u
 |_,_,_,_,.nil,e=>by simp at e
 |_,_,0,_,.cons r _,e=>by simp at e;subst e;exact⟨_,rfl,r⟩
 |_,_,i+1,x,.cons _ t,e=>by
  obtain⟨u,h1,h2⟩:=Vals.get (i:=i) (x:=x) t (by simpa using e)
  exact⟨u,by simpa using h1,h2⟩
theorem Vals.set{x:V}{u:Value}(r:RelV x u): ∀{xs:List V} {us:List Value} (i:Nat),Vals xs us->Vals (xs.set i x) (us.set i u)
 |_,_,_,.nil=> .nil
 |_,_,0,.cons _ t=> .cons r t
 |_,_,i+1,.cons q t=> .cons q (Vals.set r i t)
theorem Vals.append: ∀{xs ys:List V} {us ws:List Value},Vals xs us->Vals ys ws->Vals (xs++ys) (us++ws)
 |_,_,_,_,.nil,s=>s
 |_,_,_,_,.cons r t,s=> .cons r (Vals.append t s)
theorem Vals.take: ∀{xs:List V} {us:List Value} (n:Nat),Vals xs us->Vals (xs.take n) (us.take n)
 |_,_,0,_=> .nil
 |_,_,_+1,.nil=> .nil
 |_,_,n+1,.cons r t=> .cons r (Vals.take n t)
theorem Vals.drop: ∀{xs:List V} {us:List Value} (n:Nat),Vals xs us->Vals (xs.drop n) (us.drop n)
 |_,_,0,r=>r
 |_,_,_+1,.nil=> .nil
 |_,_,n+1,.cons _ t=>Vals.drop n t
def RelO:Option V->Option Value->Prop
 |some v,some u=>RelV v u
 |none,none=>True
 |_,_=>False
def KV{κ:Type}:List (κ×V)->List (κ×Value)->Prop:=Paired fun(p:κ×V) (q:κ×Value)=>p.1=q.1/\RelV p.2 q.2
noncomputable def kV:Key->V
 | .inl i=> .int i
 | .inr x=> .str x
inductive HO where
 |lst (xs:List V)
 |tup (xs:List V)
 |dK (kvs:List (Key×V))|dT (kvs:List (List Key×V))
 |set (S:Int->Bool) (n:Nat)
 |ins (C dx:Addr) (fs:List (Str×V))
 |own (x:Addr)
 |xd (fs:List (Str×V))
 |met (f x:Addr)
 |rng (lo hi:Int)
 |frz (o:Obj) (u:HO)
 |tbl (ps:Array Value)
 |ext (φ:Heap->Prop)
abbrev Hp:=Addr->Option HO
noncomputable def upd(H:Hp)(a:Addr)(o:HO):Hp:=fun b=>if b=a then some o else H b
theorem zAH{H:Hp}{a:Addr}{o:HO}:upd H a o a=some o:=by unfold upd;rw[if_pos rfl]
theorem zAV{H:Hp}{a b:Addr}{o:HO}(h:b≠a):upd H a o b=H b:=by unfold upd;rw[if_neg h]
theorem yEA{H:Hp}{a b:Addr}{o u:HO}(h:H a=some o)(h':H b=some u)(d:o≠u):a≠b:=by intro e;subst e;rw[h] at h';exact d (Ba h')
theorem zD3{H:Hp}{a b:Addr}{o:HO}(h:H a=some o)(h':H b=none):a≠b:=by intro e;subst e;rw[h] at h';cases h'
section
variable(P:Aw)(w:World)
def zCR(H:Hp)(h:Heap)(a:Addr):HO->Prop
 | .lst xs => xs.length <= sizeLine /\ ∃ (its : List Value) (n : Nat),Vals xs its /\ h.get? a = some { cls := .type "list",data := .seq its.toArray n }
 | .tup xs => xs.length <= sizeLine /\ ∃ its : List Value,Vals xs its /\ IsTup h a its.toArray
 | .dK kvs => kvs.length <= sizeLine /\ (a == De) = false /\ ∃ vs,KV kvs vs /\ h.DictOf (zBA P w) a vs
 | .dT kvs => kvs.length <= sizeLine /\ (a == De) = false /\ ∃ xs : List (List Key × Addr × Value),
   Paired (fun(p:List Key×V) (q:List Key×Addr×Value)=>p.1=q.1/\H q.2.1=some (.tup (p.1.map kV))/\RelV p.2 q.2.2) kvs xs∧
   ∃o es ep,h.get? a=some o/\o.ExactDict/\o.data= .dict es ep/\es.toList=xs.map (entryOfKey (tupleKind (zBA P w)))/\(xs.map (·.1)).Nodup
 | .set S n => h.SetOf (intKind P w) a S n
 | .ins C dx fs => H dx = some (.own a) /\ fs.length <= 1000 /\ dx ≠ a /\ h.get? a = some (Ls C dx) ∧
   ∃mA,h.Ns1 dx mA/\(∀f,RelO (fs.lookup f) (mA f))/\Lu mA (fs.map (·.1))
 | .own _=> ∃o,h.get? a=some o
 | .xd fs=> ∃mA,h.Ns1 a mA/\ ∀f,RelO (fs.lookup f) (mA f)
 | .rng lo hi=> ∃t u v,h.get? a=some {cls:= .type "range",data:= .fields #[.int lo t,.int hi u,.int 1 v]}
 | .frz o u=>h.get? a=some o/\zCR H h a u
 | .tbl ps=>h.get? a=some {cls:= .none,data:= .fields ps}
 | .met f x=>h.get? a=some (Ki (.ref f) (.ref x))
 | .ext φ=>φ h/\(∃o,h.get? a=some o)/\ ∀h1 h2:Heap,φ h1->(∀o,h1.get? a=some o->h2.get? a=some o)->φ h2
def HOk(H:Hp)(h:Heap):Prop:= ∀a o,H a=some o->zCR P w H h a o
end
section
variable{P:Aw}{w:World}{H H':Hp}{h h':Heap}{a:Addr}{o:HO}
theorem zCR.lt(x:zCR P w H h a o):a<h.objs.size:=by
 cases o with
 |lst xs=>obtain⟨_,_,_,_,e⟩:=x;exact Ac e
 |tup xs=>obtain⟨_,_,_,p⟩:=x;exact p.lt
 |dK kvs=>obtain⟨_,_,_,_,o,_,_,e,_⟩:=x;exact Ac e
 |dT kvs=>obtain⟨_,_,_,_,o,_,_,e,_⟩:=x;exact Ac e
 |set S n=>obtain⟨o,_,_,_,e,_⟩:=x;exact Ac e
 |ins C dx fs=>obtain⟨_,_,_,e,_⟩:=x;exact Ac e
 |own y=>obtain⟨_,e⟩:=x;exact Ac e
 |xd fs=>obtain⟨_,⟨_,_,_,e,_⟩,_⟩:=x;exact Ac e
 |rng lo hi=>obtain⟨_,_,_,e⟩:=x;exact Ac e
 |frz ob u=>obtain⟨e,_⟩:=x;exact Ac e
 |tbl ps=>exact Ac (show h.get? a=some _ from x)
 |met f y=>exact Ac (show h.get? a=some _ from x)
 |ext φ=>obtain⟨_,⟨_,e⟩,_⟩:=x;exact Ac e
theorem Paired.mapP{α β:Type}{F G:α->β->Prop}: ∀{l₁:List α} {l₂:List β},Paired F l₁ l₂->(∀a b,F a b->G a b)->Paired G l₁ l₂
 |_,_,.nil,_=> .nil
 |_,_,.cons r t,f=> .cons (f _ _ r) (Paired.mapP t f)
theorem zCR.stay(x:zCR P w H h a o)(k: ∀b u,(b=a∨H b=some (.own a))->h.get? b=some u->h'.get? b=some u)
  (ho: ∀b,H b=some (.own a)->H' b=some (.own a)) (ht: ∀b xs,H b=some (.tup xs)->H' b=some (.tup xs)):zCR P w H' h' a o:=by
 induction o with
 |lst xs=>obtain⟨z,its,n,r,e⟩:=x;exact⟨z,its,n,r,k _ _ (.inl rfl) e⟩
 |tup xs=>obtain⟨z,its,r,ob,e,c⟩:=x;exact⟨z,its,r,ob,k _ _ (.inl rfl) e,c⟩
 |dK kvs=>obtain⟨z,y,vs,r,ob,es,ep,e,c⟩:=x;exact⟨z,y,vs,r,ob,es,ep,k _ _ (.inl rfl) e,c⟩
 |dT kvs=>
  obtain⟨z,y,xs,r,ob,es,ep,e,c⟩:=x
  exact⟨z,y,xs,Paired.mapP r fun p q z=>⟨z.1,ht _ _ z.2.1,z.2.2⟩,ob,es,ep,k _ _ (.inl rfl) e,c⟩
 |set S n=>obtain⟨ob,es,ep,t,e,c⟩:=x;exact⟨ob,es,ep,t,k _ _ (.inl rfl) e,c⟩
 |ins C dx fs=>
  obtain⟨d,z,ne,e,mA,⟨od,es,ep,e2,c⟩,r⟩:=x
  exact⟨ho _ d,z,ne,k _ _ (.inl rfl) e,mA,⟨od,es,ep,k _ _ (.inr d) e2,c⟩,r⟩
 |own y=>obtain⟨ob,e⟩:=x;exact⟨ob,k _ _ (.inl rfl) e⟩
 |xd fs=>obtain⟨mA,⟨od,es,ep,e,c⟩,r⟩:=x;exact⟨mA,⟨od,es,ep,k _ _ (.inl rfl) e,c⟩,r⟩
 |rng lo hi=>obtain⟨t,u,v,e⟩:=x;exact⟨t,u,v,k _ _ (.inl rfl) e⟩
 |frz ob u ih=>obtain⟨e,q⟩:=x;exact⟨k _ _ (.inl rfl) e,ih q⟩
 |tbl ps=>
  have e:h.get? a=some {cls:= .none,data:= .fields ps}:=x
  show h'.get? a=some {cls:= .none,data:= .fields ps}
  exact k a _ (.inl rfl) e
 |met f y=>
  have e:h.get? a=some (Ki (.ref f) (.ref y)):=x
  show h'.get? a=some (Ki (.ref f) (.ref y))
  exact k a _ (.inl rfl) e
 |ext φ=>obtain⟨p,⟨o,e⟩,st⟩:=x;exact⟨st _ _ p fun o q=>k _ _ (.inl rfl) q,⟨o,k _ _ (.inl rfl) e⟩,st⟩
theorem HOk.lt(x:HOk P w H h)(e:H a=some o):a<h.objs.size:=(x a o e).lt
theorem HOk.fresh(x:HOk P w H h)(e:h.objs.size<=a):H a=none:=by
 cases q:H a with
 |none=>rfl
 |some u=>exact absurd (Aq (x.lt q) e) (Bo _)
theorem HOk.kept(x:HOk P w H h)(k: ∀b u,h.get? b=some u->h'.get? b=some u):HOk P w H h':=fun a o e=>
 (x a o e).stay (fun b u _ q=>k b u q) (fun _ q=>q) fun _ _ q=>q
theorem HOk.laid(x:HOk P w H h)(k: ∀b u,h.get? b=some u->h'.get? b=some u)(hp:h.objs.size<=a)(new:zCR P w (upd H a o) h' a o):HOk P w (upd H a o) h':=fun b u e=>by
 have hn:=x.fresh hp
 by_cases hb:b=a
 ·subst hb;rw[zAH] at e;cases e;exact new
 ·rw[zAV hb] at e
  exact(x b u e).stay (fun c v _ q=>k c v q) (fun c q=>by rw[zAV (zD3 q hn)];exact q) fun c xs q=>by rw[zAV (zD3 q hn)];exact q
end
def Rd(H:Hp)(a:Addr)(u:HO):Prop:=H a=some u∨ ∃o,H a=some (.frz o u)
theorem Rd.ok{P:Aw}{w:World}{H:Hp}{h:Heap}{a:Addr}{u:HO}(r:Rd H a u)(x:HOk P w H h):zCR P w H h a u:=by
 rcases r with r|⟨o,r⟩
 ·exact x a u r
 ·obtain⟨_,q⟩:=x a _ r
  exact q
def Mut:Option HO->Prop
 |some (.lst _)=>True
 |some (.dK _)=>True
 |some (.dT _)=>True
 |some (.set _ _)=>True
 |some (.ins _ _ _)=>True
 |some (.ext _)=>True
 |_=>False
section
variable{P:Aw}{w:World}{H:Hp}{h h':Heap}{x e:Addr}{o':HO}
theorem HOk.write(ok:HOk P w H h)(mu:Mut (H x))(he:e=x∨H e=some (.own x))(k: ∀b u,b≠e->h.get? b=some u->h'.get? b=some u)(heo: ∃u,h'.get? e=some u)
  (new : zCR P w (upd H x o') h' x o') : HOk P w (upd H x o') h' := fun b u q => by
 have l7: ∀c y,H c=some (.own y)->c≠x:=fun c y r z=>by subst z;rw[r] at mu;exact mu
 have mm: ∀c xs,H c=some (.tup xs)->c≠x:=fun c xs r z=>by subst z;rw[r] at mu;exact mu
 by_cases hb:b=x
 ·subst hb;rw[zAH] at q;cases q;exact new
 ·rw[zAV hb] at q
  by_cases hbe:b=e
  ·have q':H b=some (.own x):=by
    rcases he with z|z
    ·exact absurd (hbe.trans z) hb
    ·rw[hbe];exact z
   rw[q] at q';cases q'
   obtain⟨v,hv⟩:=heo
   exact⟨v,by rw[hbe];exact hv⟩
  ·refine (ok b u q).stay (fun c v hc r => k c v ?_ r) (fun c r => by rw [zAV (l7 c b r)];exact r) fun c xs r => by rw [zAV (mm c xs r)];exact r
   rcases hc with rfl|hc
   ·exact hbe
   ·rintro rfl
    rcases he with z|z
    ·exact l7 c b hc z
    ·rw[hc] at z;cases z;exact hb rfl
end
structure Un(fs ex:List Addr)(H H':Hp)(h h':Heap):Prop where
 keep: ∀b o,h.get? b=some o->H b=none->b∉fs->b∉ex->h'.get? b=some o
 slot: ∀b o,h.get? b=some o->H b=none->b∈fs->b∉ex-> ∃sl,h'.get? b=some {o with slots:=sl}
 free: ∀b o,h.get? b=some o->H b=none->b∉ex->H' b=none
 there: ∀b o,h.get? b=some o->b∉ex-> ∃o',h'.get? b=some o'
 tups: ∀b xs,H b=some (.tup xs)->H' b=some (.tup xs)
 frzs: ∀b o u,H b=some (.frz o u)->H' b=some (.frz o u)
 tbls: ∀b ps,H b=some (.tbl ps)-> ∃more,H' b=some (.tbl (ps++more))
section
variable{fs fs' ex ex':List Addr}{H H1 H2:Hp}{h h1 h2 h':Heap}{a x e:Addr}{o:HO}
theorem Un.any(u:Un fs ex H H1 h h1){b:Addr}{ob:Obj}(q:h.get? b=some ob)(n:H b=none)(hx:b∉ex): ∃sl,h1.get? b=some {ob with slots:=sl}:=by
 by_cases hb:b∈fs
 ·exact u.slot b ob q n hb hx
 ·exact⟨ob.slots,u.keep b ob q n hb hx⟩
theorem Un.kept(k: ∀b u,h.get? b=some u->h'.get? b=some u):Un fs ex H H h h':=
 ⟨fun b ob q _ _ _=>k b ob q,fun b ob q _ _ _=>⟨ob.slots,k b ob q⟩,fun _ _ _ n _=>n,fun b ob q _=>⟨ob,k b ob q⟩,fun _ _ q=>q,fun _ _ _ q=>q,fun _ ps q=>⟨#[],by rw[q];simp⟩⟩
theorem Un.refl:Un fs ex H H h h:=Un.kept fun _ _ q=>q
theorem Un.laid(k: ∀b u,h.get? b=some u->h'.get? b=some u)(hp:h.objs.size<=a)(hn:H a=none):Un fs ex H (upd H a o) h h' where
 keep:=fun b u q _ _ _=>k b u q
 slot:=fun b u q _ _ _=>⟨u.slots,k b u q⟩
 free:=fun b u q n _=>by rw[zAV (Au (Aq (Ac q) hp))];exact n
 there:=fun b u q _=>⟨u,k b u q⟩
 tups:=fun b xs q=>by rw[zAV (zD3 q hn)];exact q
 frzs:=fun b u xs q=>by rw[zAV (zD3 q hn)];exact q
 tbls:=fun b ps q=>⟨#[],by rw[zAV (zD3 q hn),q];simp⟩
theorem Un.write(mu:Mut (H x))(he:e=x∨H e=some (.own x))(k: ∀b u,b≠e->h.get? b=some u->h'.get? b=some u)(heo: ∃u,h'.get? e=some u):Un fs ex H (upd H x o) h h':=by
 have hx: ∀b,H b=none->b≠x:=fun b n z=>by subst z;rw[n] at mu;exact mu
 have hb: ∀b,H b=none->b≠e:=fun b n z=>by
  subst z
  rcases he with r|r
  ·exact hx b n r
  ·rw[n] at r;cases r
 have hm: ∀b u,H b=some u-> ¬Mut (some u)->b≠x:=fun b u q nm z=>by subst z;rw[q] at mu;exact nm mu
 refine⟨fun b u q n _ _=>k b u (hb b n) q,fun b u q n _ _=>⟨u.slots,k b u (hb b n) q⟩,fun b u q n _=>by rw[zAV (hx b n)];exact n,fun b u q _=> ?_,
  fun b xs q=>by rw[zAV (hm b _ q fun z=>z)];exact q,fun b u xs q=>by rw[zAV (hm b _ q fun z=>z)];exact q,fun b ps q=>⟨#[],by rw[zAV (hm b _ q fun z=>z),q];simp⟩⟩
 by_cases hbe:b=e
 ·subst hbe;exact heo
 ·exact⟨u,k b u hbe q⟩
end
noncomputable def trk(h:Heap)(H:Hp):List Addr:=(At h.objs.size).filter fun a=>(H a).isSome
noncomputable def hidT(h:Heap)(H:Hp):Heap:=W.hideAll h (trk h H)
theorem zR1(h:Heap)(H:Hp):(hidT h H).objs.size=h.objs.size:=W.hideAll_size _ _
theorem zTM{h:Heap}{H:Hp}{b:Addr}{o:Obj}(e:h.get? b=some o)(n:H b=none):(hidT h H).get? b=some o:=
 W.hideAll_get _ e fun hm=>by
  have q:(H b).isSome=true:=(Ek.mp hm).2
  rw[n] at q;simp at q
theorem zWA{h:Heap}{H:Hp}{b:Addr}{o:Obj}(e:(hidT h H).get? b=some o):h.get? b=some o/\H b=none:=by
 have e':h.get? b=some o:=W.of_hideAll (trk h H) e
 refine⟨e',?_⟩
 cases q:H b with
 |none=>rfl
 |some x=>
  have hm:b∈trk h H:=Ek.mpr ⟨Bx.mpr (Ac e'),by simp[q]⟩
  have z:(hidT h H).get? b=none:=W.hideAll_none (trk h H) hm
  rw[z] at e;cases e
structure Mod(K:Ad)(mg:Str->Option Value)(base:Heap):Prop where
 kin:K.In base
 glob:base.Ns mainGlobals mg
 blt: ∃mb,base.Ns builtinsNs mb/\ ∀x:Str,x≠ "__name__" ->mb x=As x
 nolimit:base.NoLimit
structure Cx where
 prog:Aw
 w:World
 K:Ad
 mg:Str->Option Value
 base:Heap
 A:C3
 N:List Str
 s₀:A7
 H₀:Hp
 env:Env
 outer:List Env
 stack:List Env
 ex:List Addr
 fn:Str->Bool
 calm:Bool
 pn:List (Addr×Obj)
 xe:Value->A7->Prop
noncomputable def frs(l:List Env):List Addr:=l.filterMap (·.frame)
abbrev Cx.fs(X:Cx):List Addr:=frs X.outer
def Vis(sc:Scope)(x:Str):Prop:=sc.names.lookup x=some .local∨sc.names.lookup x=some .cell∨sc.names.lookup x=some .free
def Loc(sc:Scope)(x:Str):Prop:=sc.names.lookup x=some .local∨sc.names.lookup x=some .cell
def Look(env:Env)(h:Heap)(m:Str->Option Value)(x:Str)(u:Value):Prop:=
 (env.kindOf x=some .local/\m x=some u)∨((env.kindOf x=some .cell∨env.kindOf x=some .free)/\ ∃c,env.cells.lookup x=some c/\h.IsCell c (some u))
structure Cx.Ok(X:Cx):Prop where
 mod:Mod X.K X.mg X.base
 kind:X.env.scope.kind= .function
 glob:X.env.globals=mainGlobals
 blt:X.env.builtins=builtinsNs
 above:X.s₀.heap.objs.size<=X.env.locals
 inj: ∀x y c,X.env.cells.lookup x=some c->X.env.cells.lookup y=some c->x=y
 has: ∀x,(X.env.kindOf x=some .cell∨X.env.kindOf x=some .free)-> ∃c,X.env.cells.lookup x=some c
 cab: ∀x c,X.fn x=true->X.env.cells.lookup x=some c->X.s₀.heap.objs.size<=c
 hd:X.calm=true->X.A.handled=none
 frames:X.A.frames=some X.stack
 stk:X.stack=X.outer∨(X.stack=X.env::X.outer/\X.env.frame=some X.env.locals)
 exf: ∀b∈X.ex,b≠X.env.locals/\ ∀x c,X.env.cells.lookup x=some c->c≠b
 bs: ∀b o,X.base.get? b=some o->X.s₀.heap.get? b=some o/\X.H₀ b=none
 bsz:X.base.objs.size<=X.s₀.heap.objs.size
 noex: ∀b o,X.base.get? b=some o->b∉X.ex
 exfs: ∀b∈X.ex,b∉X.fs
 funs:X.s₀.heap.FunFrames X.base X.outer
 frf: ∀b∈X.fs,X.H₀ b=none
structure Inv(X:Cx)(a6:List (Addr×Obj))(σ:List (Option V))(H:Hp)(s:A7):Prop where
 ok:X.Ok
 os:s.os=X.s₀.os
 bare:Hn s.gens
 base:Un X.fs X.ex X.H₀ H X.s₀.heap s.heap
 loc: ∃m,s.heap.Ns X.env.locals m/\ ∀(i:Nat) (x:Str) (v:V),X.N[i]? =some x->σ[i]? =some (some v)->Vis X.env.scope x-> ∃u,RelV v u/\Look X.env s.heap m x u
 cell: ∀x c,X.env.cells.lookup x=some c-> ∃v,s.heap.IsCell c v
 free:H X.env.locals=none
 freeC: ∀x c,X.env.cells.lookup x=some c->H c=none
 pin: ∀p∈X.pn++a6,s.heap.get? p.1=some p.2/\H p.1=none/\p.1≠X.env.locals/\p.1∉X.fs/\ ∀v,p.2.data≠ .cell v
 hok:HOk X.prog X.w H s.heap
 len:σ.length=X.N.length
section
variable{X:Cx}{a6:List (Addr×Obj)}{σ:List (Option V)}{H H':Hp}{s:A7}{h':Heap}
theorem Cx.Ok.nofr(ok:X.Ok){b:Addr}{o:Obj}(e:X.base.get? b=some o):b∉X.fs:=fun hb=>by
 have:=(ok.funs.mem hb).1
 rw[e] at this;cases this
theorem Inv.bs(I:Inv X a6 σ H s): ∀b o,X.base.get? b=some o->s.heap.get? b=some o/\H b=none:=fun b o e=>
 ⟨I.base.keep b o (I.ok.bs b o e).1 (I.ok.bs b o e).2 (I.ok.nofr e) (I.ok.noex b o e),I.base.free b o (I.ok.bs b o e).1 (I.ok.bs b o e).2 (I.ok.noex b o e)⟩
theorem Inv.bk(I:Inv X a6 σ H s): ∀b o,X.base.get? b=some o->s.heap.get? b=some o:=fun b o e=>(I.bs b o e).1
theorem Inv.mod(I:Inv X a6 σ H s):Mod X.K X.mg X.base:=I.ok.mod
theorem Inv.kIn(I:Inv X a6 σ H s):X.K.In s.heap:=I.ok.mod.kin.keeps I.bk
theorem Inv.lt(I:Inv X a6 σ H s):X.env.locals<s.heap.objs.size:=let ⟨_,hn,_⟩:=I.loc;hn.lt
theorem Inv.sz(I:Inv X a6 σ H s):X.s₀.heap.objs.size<=s.heap.objs.size:=Df I.ok.above (Jv I.lt)
theorem Inv.nofs(I:Inv X a6 σ H s){a:Addr}(h:s.heap.objs.size<=a):a∉X.fs:=fun hb=>by
 obtain⟨_,o,ho,_⟩:=I.ok.funs.mem hb
 exact absurd (Aq (Ac ho) (Df I.sz h)) (Bo _)
theorem Inv.cne(I:Inv X a6 σ H s): ∀x c,X.env.cells.lookup x=some c->c≠X.env.locals:=fun x c e z=>by
 obtain⟨v,o,ho,hd⟩:=I.cell x c e
 obtain⟨m,⟨o',es,ep,ho',hd',_⟩,_⟩:=I.loc
 rw[z,ho'] at ho;cases ho;rw[hd'] at hd;cases hd
theorem Inv.funs(I:Inv X a6 σ H s):s.heap.FunFrames X.base X.outer:=by
 have all: ∀(l:List Env),(∀b∈frs l,b∈X.fs)->X.s₀.heap.FunFrames X.base l->s.heap.FunFrames X.base l:=by
  intro l
  induction l with
  |nil=>intro _ _;trivial
  |cons env r ih=>
   intro hs hl
   obtain⟨hk,⟨L,o,hf,hn,ho,hd⟩,hr⟩:=hl
   have hL:L∈X.fs:=hs L (by unfold frs;rw[Fn,hf];exact Ak)
   obtain⟨sl,e⟩:=I.base.slot L o ho (I.ok.frf L hL) hL fun z=>I.ok.exfs L z hL
   exact⟨hk,⟨L,_,hf,hn,e,hd⟩,ih (fun b hb=>hs b (by unfold frs;rw[Fn,hf];exact Ag _ hb)) hr⟩
 exact all X.outer (fun _ hb=>hb) I.ok.funs
theorem Inv.stack(I:Inv X a6 σ H s):s.heap.FunFrames X.base X.stack:=by
 rcases I.ok.stk with e|⟨e,hf⟩
 ·rw[e];exact I.funs
 ·rw[e]
  obtain⟨m,hn,_⟩:=I.loc
  refine .cons (by rw[I.ok.kind];decide) hf hn ?_ I.funs
  exact Heap.get?_none_of_le (Df I.ok.bsz I.ok.above)
theorem Inv.stkSub(I:Inv X a6 σ H s): ∀b∈frs X.stack,b∈X.env.locals::X.fs:=fun b hb=>by
 rcases I.ok.stk with e|⟨e,hf⟩
 ·rw[e] at hb;exact Ag _ hb
 ·rw[e] at hb
  unfold frs at hb
  rw[Fn,hf] at hb
  exact hb
theorem Inv.stkFree(I:Inv X a6 σ H s): ∀b∈frs X.stack,H b=none:=fun b hb=>by
 rcases A8.mp (I.stkSub b hb) with e|hb
 ·rw[e];exact I.free
 ·obtain⟨_,o,ho,_⟩:=I.ok.funs.mem hb
  exact I.base.free b o ho (I.ok.frf b hb) fun z=>I.ok.exfs b z hb
theorem Inv.step{g':Array GenState}{t':Nat}{d':Drawn}{ch:List Addr}(I:Inv X a6 σ H s)
  (hch: ∀b∈ch,(b∈X.ex∨X.s₀.heap.objs.size<=b)/\b≠X.env.locals/\(∀x c,X.env.cells.lookup x=some c->c≠b)/\ ∀p∈X.pn++a6,p.1≠b)
  (keep: ∀b o,b≠X.env.locals->b∉X.fs->b∉ch->s.heap.get? b=some o->H b=none->h'.get? b=some o)
  (slot: ∀b o,b≠X.env.locals->b∈X.fs->b∉ch->s.heap.get? b=some o->H b=none-> ∃sl,h'.get? b=some {o with slots:=sl}) (free: ∀b o,b∉ch->s.heap.get? b=some o->H b=none->H' b=none)
  (there: ∀b o,b∉ch->s.heap.get? b=some o-> ∃o',h'.get? b=some o')
  (tups: ∀b xs,H b=some (.tup xs)->H' b=some (.tup xs)) (frzs: ∀b o u,H b=some (.frz o u)->H' b=some (.frz o u)) (tbls: ∀b ps,H b=some (.tbl ps)-> ∃more,H' b=some (.tbl (ps++more)))
  (ns: ∀m,s.heap.Ns X.env.locals m->h'.Ns X.env.locals m) (hok:HOk X.prog X.w H' h') (hg:Hn g'):
  Inv X a6 σ H' {s with heap:=h',gens:=g',drawn:=d',toks:=t'}:=by
 have neL: ∀b o,X.s₀.heap.get? b=some o->b≠X.env.locals:=fun b o e=>Au (Aq (Ac e) I.ok.above)
 have neC: ∀b o,X.s₀.heap.get? b=some o->b∉X.ex->b∉ch:=fun b o e hx hb=>by
  rcases(hch b hb).1 with z|z
  ·exact hx z
  ·exact absurd (Aq (Ac e) z) (Bo _)
 have gw: ∀x c,X.env.cells.lookup x=some c-> ∀v,s.heap.IsCell c v->h'.IsCell c v:=fun x c e v q0=>by
  obtain⟨o,ho,hd⟩:=q0
  have nch:c∉ch:=fun z=>(hch c z).2.2.1 x c e rfl
  by_cases hc:c∈X.fs
  ·obtain⟨sl,q⟩:=slot c o (I.cne x c e) hc nch ho (I.freeC x c e)
   exact⟨_,q,hd⟩
  ·exact⟨o,keep c o (I.cne x c e) hc nch ho (I.freeC x c e),hd⟩
 refine⟨I.ok,I.os,hg,⟨fun b o e n hb hx=> ?_,fun b o e n hb hx=> ?_,fun b o e n hx=> ?_,fun b o e hx=> ?_,fun b xs e=>tups b xs (I.base.tups b xs e),fun b o xs e=>frzs b o xs (I.base.frzs b o xs e),fun b ps e=> ?_⟩,?_,fun x c e=> ?_,?_,fun x c e=> ?_,fun p hp=> ?_,hok,I.len⟩
 ·exact keep b o (neL b o e) hb (neC b o e hx) (I.base.keep b o e n hb hx) (I.base.free b o e n hx)
 ·obtain⟨sl,e1⟩:=I.base.slot b o e n hb hx
  obtain⟨sl',e2⟩:=slot b _ (neL b o e) hb (neC b o e hx) e1 (I.base.free b o e n hx)
  exact⟨sl',e2⟩
 ·obtain⟨o',e1⟩:=I.base.there b o e hx
  exact free b o' (neC b o e hx) e1 (I.base.free b o e n hx)
 ·obtain⟨o',e1⟩:=I.base.there b o e hx
  exact there b o' (neC b o e hx) e1
 ·obtain⟨m1,e1⟩:=I.base.tbls b ps e
  obtain⟨m2,e2⟩:=tbls b _ e1
  exact⟨m1++m2,by rw[e2,Array.append_assoc]⟩
 ·obtain⟨m,hn,hl⟩:=I.loc
  refine⟨m,ns m hn,fun i x v e1 e2 e3=> ?_⟩
  obtain⟨u,r,l⟩:=hl i x v e1 e2 e3
  refine⟨u,r,?_⟩
  rcases l with l|⟨k,c,e,z⟩
  ·exact .inl l
  ·exact .inr ⟨k,c,e,gw x c e _ z⟩
 ·obtain⟨v,z⟩:=I.cell x c e
  exact⟨v,gw x c e v z⟩
 ·obtain⟨m,⟨o,_,_,ho,_⟩,_⟩:=I.loc
  exact free _ o (fun z=>(hch _ z).2.1 rfl) ho I.free
 ·obtain⟨v,o,ho,hd⟩:=I.cell x c e
  exact free c o (fun z=>(hch c z).2.2.1 x c e rfl) ho (I.freeC x c e)
 ·obtain⟨e,n,ne,nf,d⟩:=I.pin p hp
  have nch:p.1∉ch:=fun z=>(hch p.1 z).2.2.2 p hp rfl
  exact⟨keep p.1 p.2 ne nf nch e n,free p.1 p.2 nch e n,ne,nf,d⟩
theorem Inv.un{t':Nat}(I:Inv X a6 σ H s)(u:Un X.fs [] H H' s.heap h')(hok:HOk X.prog X.w H' h'):Inv X a6 σ H' {s with heap:=h',toks:=t'}:=by
 obtain⟨m,⟨o,es,ep,ho,r⟩,_⟩:=id I.loc
 obtain⟨sl,hL⟩:=u.any ho I.free (by simp)
 exact I.step (g':=s.gens) (d':=s.drawn) (ch:=[]) (fun _ z=>nomatch z) (fun b o _ hb _ e n=>u.keep b o e n hb (by simp)) (fun b o _ hb _ e n=>u.slot b o e n hb (by simp)) (fun b o _ e n=>u.free b o e n (by simp)) (fun b o _ e=>u.there b o e (by simp)) u.tups u.frzs u.tbls (fun m' hm=>by
  obtain⟨o',es',ep',ho',r'⟩:=hm
  rw[ho] at ho';cases ho'
  exact⟨_,es',ep',hL,r'⟩) hok I.bare
theorem Inv.call{g':Array GenState}{t':Nat}{d':Drawn}{ch:List Addr}(I:Inv X a6 σ H s)(u:Un (frs X.stack) ch H H' s.heap h')(hok:HOk X.prog X.w H' h')(hg:Hn g')
  (hch: ∀b∈ch,(b∈X.ex∨X.s₀.heap.objs.size<=b)/\b≠X.env.locals/\(∀x c,X.env.cells.lookup x=some c->c≠b)/\ ∀p∈X.pn++a6,p.1≠b):
  Inv X a6 σ H' {s with heap:=h',gens:=g',drawn:=d',toks:=t'}:=by
 obtain⟨m,⟨o,es,ep,ho,r⟩,_⟩:=id I.loc
 obtain⟨sl,hL⟩:=u.any ho I.free fun z=>(hch _ z).2.1 rfl
 exact I.step (ch:=ch) hch (fun b o hL hb hc e n=>u.keep b o e n (fun z=>(A8.mp (I.stkSub b z)).elim hL hb) hc) (fun b o _ _ hc e n=>u.any e n hc) (fun b o hc e n=>u.free b o e n hc) (fun b o hc e=>u.there b o e hc) u.tups u.frzs u.tbls (fun m' hm=>by
  obtain⟨o',es',ep',ho',r'⟩:=hm
  rw[ho] at ho';cases ho'
  exact⟨_,es',ep',hL,r'⟩) hok hg
theorem Inv.turned{t':Nat}{it:Addr}(I:Inv X a6 σ H s)(k: ∀b o,b≠it->s.heap.get? b=some o->h'.get? b=some o)(hn:H it=none)(hL:it≠X.env.locals)
  (h1:it∈X.ex∨X.s₀.heap.objs.size<=it) (h2: ∀x c,X.env.cells.lookup x=some c->c≠it) (h3: ∀p∈X.pn++a6,p.1≠it):Inv X a6 σ H {s with heap:=h',toks:=t'}:=by
 have nit: ∀b u,H b=some u->b≠it:=fun b u e z=>by rw[z,hn] at e;cases e
 refine I.step (g':=s.gens) (d':=s.drawn) (ch:=[it]) (fun b hb=> ?_) (fun b o _ _ hc e _=>k b o (fun z=>hc (by simp[z])) e) (fun b o _ _ hc e _=>⟨o.slots,k b o (fun z=>hc (by simp[z])) e⟩) (fun _ _ _ _ n=>n)
  (fun b o hc e=>⟨o,k b o (fun z=>hc (by simp[z])) e⟩) (fun _ _ e=>e) (fun _ _ _ e=>e) (fun b ps e=>⟨#[],by rw[e];simp⟩) (fun m hm=> ?_) (fun b u e=> ?_) I.bare
 ·have e : b = it := by simpa using hb
  subst e
  exact⟨h1,hL,h2,h3⟩
 ·obtain⟨o,es,ep,ho,r⟩:=hm
  exact⟨o,es,ep,k _ o (C9 hL) ho,r⟩
 ·refine (I.hok b u e).stay (fun c v hc q => k c v ?_ q) (fun _ q => q) fun _ _ q => q
  rcases hc with z|z
  ·rw[z];exact nit b u e
  ·exact nit c _ z
theorem Inv.tok(I:Inv X a6 σ H s)(t:Nat):Inv X a6 σ H {s with toks:=t}:=I.un (h':=s.heap) (t':=t) Un.refl I.hok
theorem Inv.kept{t':Nat}(I:Inv X a6 σ H s)(k: ∀b u,s.heap.get? b=some u->h'.get? b=some u):Inv X a6 σ H {s with heap:=h',toks:=t'}:=I.un (Un.kept k) (I.hok.kept k)
theorem Inv.laid{a:Addr}{o:HO}{t':Nat}(I:Inv X a6 σ H s)(k: ∀b u,s.heap.get? b=some u->h'.get? b=some u)(hp:s.heap.objs.size<=a)(new:zCR X.prog X.w (upd H a o) h' a o):
  Inv X a6 σ (upd H a o) {s with heap:=h',toks:=t'}:=I.un (Un.laid k hp (I.hok.fresh hp)) (I.hok.laid k hp new)
theorem Inv.write{x e:Addr}{o:HO}{t':Nat}(I:Inv X a6 σ H s)(mu:Mut (H x))(he:e=x∨H e=some (.own x))(k: ∀b u,b≠e->s.heap.get? b=some u->h'.get? b=some u)(heo: ∃u,h'.get? e=some u)
  (new:zCR X.prog X.w (upd H x o) h' x o):Inv X a6 σ (upd H x o) {s with heap:=h',toks:=t'}:=I.un (Un.write mu he k heo) (I.hok.write mu he k heo new)
theorem Inv.weak{σ':List (Option V)}(I:Inv X a6 σ H s)(hl:σ'.length=σ.length)(w: ∀(i:Nat) v,σ'[i]? =some (some v)->σ[i]? =some (some v)):Inv X a6 σ' H s:=
 ⟨I.ok,I.os,I.bare,I.base,let ⟨m,hn,hl'⟩:=I.loc;⟨m,hn,fun i x v e1 e2 e3=>hl' i x v e1 (w i v e2) e3⟩,I.cell,I.free,I.freeC,I.pin,I.hok,hl.trans I.len⟩
theorem Inv.pins_of{gp:List (Addr×Obj)}(I:Inv X a6 σ H s)(h: ∀p∈gp,s.heap.get? p.1=some p.2/\H p.1=none/\p.1≠X.env.locals/\p.1∉X.fs/\ ∀v,p.2.data≠ .cell v):Inv X gp σ H s:=
 ⟨I.ok,I.os,I.bare,I.base,I.loc,I.cell,I.free,I.freeC,fun p hp=>(B5.mp hp).elim (fun z=>I.pin p (Bb _ z)) (h p),I.hok,I.len⟩
theorem zN6{N:List Str}(hN:N.Nodup){i j:Nat}{x:Str}(a:N[i]? =some x)(b:N[j]? =some x):i=j:=by
 obtain⟨h1,e1⟩:=A5.mp a
 obtain⟨h2,e2⟩:=A5.mp b
 exact(K1 hN).mp (e1.trans e2.symm)
theorem zK3{M:Model}{A:C3}{E:Value->A7->Prop}{i:Nat}{x:Str}{v:V}{u:Value}{Q:Unit->A7->Prop}(I:Inv X a6 σ H s)(hN:X.N.Nodup)(hi:X.N[i]? =some x)(hx:Loc X.env.scope x)(r:RelV v u)
  (h : ∀ s',Inv X a6 (σ.set i (some v)) H s' -> (∃ a,Dt a s.heap s'.heap /\ (a = X.env.locals ∨ X.env.cells.lookup x = some a)) -> Q () s') (hf : X.fn x = true ∨ X.env.scope.names.lookup x = some .local := by first | exact .inl rfl | exact .inr rfl | assumption) : wpAny M A (storeName X.env x u) Q E s := by
 obtain⟨m,hn,hl⟩:=id I.loc
 have o6:(X.env.scope.kind== .class || (X.env.scope.kind== .module && X.env.locals !=X.env.globals))=false:=by rw[I.ok.kind];rfl
 have hiσ:i<σ.length:=by rw[I.len];exact(A5.mp hi).1
 have cne:=I.cne
 have cw: ∀{a:Addr} {h':Heap},(∃o,s.heap.get? a=some o/\H a=none)->Dt a s.heap h'->HOk X.prog X.w H h':=fun{a h'} ha hs b ob e=>by
  obtain⟨_,_,ay⟩:=ha
  refine(I.hok b ob e).stay (fun c w' hc q=>(hs.2 c ?_).trans q) (fun _ q=>q) fun _ _ q=>q
  rintro rfl
  rcases hc with rfl|hc
  ·rw[ay] at e;cases e
  ·rw[ay] at hc;cases hc
 rcases hx with hk|hk
 ·refine wpAny_storeName_local hk hn (fun h' hn' hs => ?_) o6
  obtain⟨oL,_,_,hoL,_⟩:=id hn
  refine h _ ⟨I.ok,I.os,I.bare,⟨fun b o e n hb hx=> ?_,fun b o e n hb hx=> ?_,I.base.free,fun b o e hx=> ?_,I.base.tups,I.base.frzs,I.base.tbls⟩,⟨_,hn',fun j y v' e1 e2 e3=> ?_⟩,fun y c e=> ?_,I.free,I.freeC,fun p hp=> ?_,cw ⟨oL,hoL,I.free⟩ hs,by simpa using I.len⟩ ⟨_,hs,.inl rfl⟩
  ·exact(hs.2 b (Au (Aq (Ac e) I.ok.above))).trans (I.base.keep b o e n hb hx)
  ·obtain⟨sl,e1⟩:=I.base.slot b o e n hb hx
   exact⟨sl,(hs.2 b (Au (Aq (Ac e) I.ok.above))).trans e1⟩
  ·obtain⟨o',e1⟩:=I.base.there b o e hx
   exact⟨o',(hs.2 b (Au (Aq (Ac e) I.ok.above))).trans e1⟩
  ·by_cases hj:j=i
   ·subst hj
    rw[hi] at e1;cases e1
    rw[Bz hiσ] at e2
    cases e2
    exact⟨u,r,.inl ⟨hk,by simp⟩⟩
   ·rw[B6 (C9 hj)] at e2
    obtain⟨u',r',q⟩:=hl j y v' e1 e2 e3
    refine⟨u',r',?_⟩
    rcases q with⟨k,e⟩|⟨k,c,e,z⟩
    ·refine .inl ⟨k,?_⟩
     have:y≠x:=fun e=>hj (zN6 hN e1 (e▸hi))
     simp[this,e]
    ·exact .inr ⟨k,c,e,z.sameBut hs (cne y c e)⟩
  ·obtain⟨w',z⟩:=I.cell y c e
   exact⟨w',z.sameBut hs (cne y c e)⟩
  ·obtain⟨e,n,ne,nf,d⟩:=I.pin p hp
   exact⟨(hs.2 p.1 ne).trans e,n,ne,nf,d⟩
 ·have hfn:X.fn x=true:=by
   rcases hf with z|z
   ·exact z
   ·rw[z] at hk;cases hk
  obtain⟨c,hc⟩:=I.ok.has x (.inl hk)
  obtain⟨w',z⟩:=I.cell x c hc
  refine wpAny_storeName_cell I.ok.kind hk hc z (fun h' hc' hs=> ?_)
  obtain⟨oc,hoc,nh⟩:=id z
  refine h {s with heap:=h'} ⟨I.ok,I.os,I.bare,⟨fun b o e n hb hx=> ?_,fun b o e n hb hx=> ?_,I.base.free,fun b o e hx=> ?_,I.base.tups,I.base.frzs,I.base.tbls⟩,⟨m,hn.sameBut hs (C9 (cne x c hc)),fun j y v' e1 e2 e3=> ?_⟩,fun y c' e=> ?_,I.free,I.freeC,fun p hp=> ?_,cw ⟨oc,hoc,I.freeC x c hc⟩ hs,by simpa using I.len⟩ ⟨c,hs,.inr hc⟩
  ·exact(hs.2 b (Au (Aq (Ac e) (I.ok.cab x c hfn hc)))).trans (I.base.keep b o e n hb hx)
  ·obtain⟨sl,e1⟩:=I.base.slot b o e n hb hx
   exact⟨sl,(hs.2 b (Au (Aq (Ac e) (I.ok.cab x c hfn hc)))).trans e1⟩
  ·obtain⟨o',e1⟩:=I.base.there b o e hx
   exact⟨o',(hs.2 b (Au (Aq (Ac e) (I.ok.cab x c hfn hc)))).trans e1⟩
  ·by_cases hj:j=i
   ·subst hj
    rw[hi] at e1;cases e1
    rw[Bz hiσ] at e2
    cases e2
    exact⟨u,r,.inr ⟨.inl hk,c,hc,hc'⟩⟩
   ·rw[B6 (C9 hj)] at e2
    obtain⟨u',r',q⟩:=hl j y v' e1 e2 e3
    refine⟨u',r',?_⟩
    rcases q with q|⟨k,c',e,z'⟩
    ·exact .inl q
    ·refine .inr ⟨k,c',e,z'.sameBut hs ?_⟩
     rintro rfl
     exact hj (zN6 hN e1 (I.ok.inj _ _ _ e hc▸hi))
  ·by_cases hcc:c'=c
   ·subst hcc;exact⟨_,hc'⟩
   ·obtain⟨w2,z2⟩:=I.cell y c' e
    exact⟨w2,z2.sameBut hs hcc⟩
  ·obtain⟨e,n,ne,nf,d⟩:=I.pin p hp
   refine⟨(hs.2 p.1 ?_).trans e,n,ne,nf,d⟩
   intro q
   rw[q,hoc] at e
   have q':oc=p.2:=Ba e
   exact d w' (by rw[<- q'];exact nh)
theorem zD1{M:Model}{A:C3}{E:Value->A7->Prop}{i:Nat}{x:Str}{v:V}{u:Value}{Q:Unit->A7->Prop}(I:Inv X a6 σ H s)(hN:X.N.Nodup)(hi:X.N[i]? =some x)(hx:Loc X.env.scope x)(r:RelV v u)
  (h: ∀s',Inv X a6 (σ.set i (some v)) H s'->Q () s') (hf:X.fn x=true∨X.env.scope.names.lookup x=some .local:=by first|exact .inl rfl|exact .inr rfl|assumption):wpAny M A (storeName X.env x u) Q E s:=
 zK3 I hN hi hx r (fun s' I' _=>h s' I') hf
theorem Inv.call'{s':A7}{ch:List Addr}(I:Inv X a6 σ H s)(ho:s'.os=s.os)(u:Un (frs X.stack) ch H H' s.heap s'.heap)(hok:HOk X.prog X.w H' s'.heap)(hg:Hn s'.gens)
  (hch: ∀b∈ch,(b∈X.ex∨X.s₀.heap.objs.size<=b)/\b≠X.env.locals/\(∀x c,X.env.cells.lookup x=some c->c≠b)/\ ∀p∈X.pn++a6,p.1≠b):Inv X a6 σ H' s':=by
 obtain⟨h',g',d',t',o'⟩:=s'
 have e:o'=s.os:=ho
 subst e
 exact I.call (g':=g') (t':=t') (d':=d') u hok hg hch
end
abbrev XK:=Value->Option Addr->Hp->Prop
abbrev St:=List (Option V)
abbrev VK:=V->Hp->Prop
abbrev TE:=St->Hp->VK->Prop
abbrev TT:=St->Hp->(Bool->Hp->Prop)->Prop
abbrev TA:=St->Hp->(List V->Hp->Prop)->Prop
structure Ends where
 nx:St->Hp->Prop
 rt:VK
 bk:St->Hp->Prop:=fun _ _=>False
 ct:St->Hp->Prop:=fun _ _=>False
abbrev TS:=Ends->St->Hp->Prop
def EP(X:Cx)(a6:List (Addr×Obj))(σ:St)(Q:VK)(u:Value)(s':A7):Prop:= ∃v H',Inv X a6 σ H' s'/\RelV v u/\Q v H'
def TP(X:Cx)(a6:List (Addr×Obj))(σ:St)(Q:Bool->Hp->Prop)(b:Bool)(s':A7):Prop:= ∃H',Inv X a6 σ H' s'/\Q b H'
def AP(X:Cx)(a6:List (Addr×Obj))(σ:St)(Q:List V->Hp->Prop)(us:List Value)(s':A7):Prop:= ∃vs H',Inv X a6 σ H' s'/\Vals vs us/\Q vs H'
def SP(X:Cx)(a6:List (Addr×Obj))(D:Ends)(f:Flow)(s':A7):Prop:=
 match f with
 | .next=> ∃σ' H',Inv X a6 σ' H' s'/\D.nx σ' H'
 | .brk=> ∃σ' H',Inv X a6 σ' H' s'/\D.bk σ' H'
 | .cont=> ∃σ' H',Inv X a6 σ' H' s'/\D.ct σ' H'
 | .ret u=> ∃v σ' H',Inv X a6 σ' H' s'/\RelV v u/\D.rt v H'
def PE(X:Cx)(e:Expr)(t:TE):Prop:=
 ∀(a6:List (Addr×Obj)) (s:A7) (σ:St) (H:Hp) (Q:VK),Inv X a6 σ H s->t σ H Q->wpAny (model X.prog X.w) X.A (eval e X.env) (EP X a6 σ Q) X.xe s
def PT(X:Cx)(e:Expr)(t:TT):Prop:=
 ∀(a6:List (Addr×Obj)) (s:A7) (σ:St) (H:Hp) (Q:Bool->Hp->Prop),Inv X a6 σ H s->t σ H Q->wpAny (model X.prog X.w) X.A (isTrue e X.env (eval e X.env)) (TP X a6 σ Q) X.xe s
def PW(X:Cx)(e:Expr)(t:TT):Prop:=
 ∀(aw:Sem Value) (a6:List (Addr×Obj)) (s:A7) (σ:St) (H:Hp) (Q:Bool->Hp->Prop),Inv X a6 σ H s->t σ H Q->wpAny (model X.prog X.w) X.A (isTrue e X.env aw) (TP X a6 σ Q) X.xe s
theorem PW.pt{X:Cx}{e:Expr}{t:TT}(h:PW X e t):PT X e t:=h _
def PA(X:Cx)(es:List Expr)(t:TA):Prop:=
 ∀(pos:Pos) (a6:List (Addr×Obj)) (s:A7) (σ:St) (H:Hp) (Q:List V->Hp->Prop),Inv X a6 σ H s->t σ H Q->wpAny (model X.prog X.w) X.A (spliced (Dc pos (A2 es X.env))) (AP X a6 σ Q) X.xe s
def PS(X:Cx)(st:Stmt)(t:TS):Prop:=
 ∀(a6:List (Addr×Obj)) (s:A7) (σ:St) (H:Hp) (D:Ends),Inv X a6 σ H s->t D σ H->wpAny (model X.prog X.w) X.A (exec st X.env) (SP X a6 D) X.xe s
def PSs(X:Cx)(st:List Stmt)(t:TS):Prop:=
 ∀(a6:List (Addr×Obj)) (s:A7) (σ:St) (H:Hp) (D:Ends),Inv X a6 σ H s->t D σ H->wpAny (model X.prog X.w) X.A (execs st X.env) (SP X a6 D) X.xe s
theorem thn{α:Type}{t:Sem α}{Q Q':α->A7->Prop}{M:Model}{A:C3}{E:Value->A7->Prop}{s:A7}(h:wpAny M A t Q E s)(hQ: ∀a s,Q a s->Q' a s):wpAny M A t Q' E s:=Br h hQ fun _ _ x=>x
section
variable{X:Cx}
def tVar(i:Nat):TE:=fun σ H Q=> ∃v,σ[i]? =some (some v)/\Q v H
def tC(v:V):TE:=fun _ H Q=>Q v H
theorem zQB{i:Nat}{x:Str}{pos:Pos}(hN:X.N[i]? =some x)(hv:Vis X.env.scope x)(hd:(x==("__debug__":Str))=false:=by decide) (hcd:(x==("__classdict__":Str))=false:=by decide):PE X (.Name x pos) (tVar i):=by
 intro a6 s σ H Q I h
 obtain⟨v,e,h⟩:=h
 obtain⟨m,hn,hl⟩:=I.loc
 obtain⟨u,r,l⟩:=hl i x v hN e hv
 have fin:EP X a6 σ Q u s:=⟨v,H,I,r,h⟩
 rcases l with⟨hk,hm⟩|⟨hk,c,hc,gv⟩
 ·exact Li (wpAny_loadName_local I.ok.kind hk hn hm fin) hd
 ·rcases hk with hk|hk
  ·exact Li (wpAny_loadName_cell I.ok.kind hk hc gv fin) hd
  ·exact Li (wpAny_loadName_free I.ok.kind hk hc gv fin hcd) hd
theorem zZ2{i j pos}:PE X (.Constant (.int i) j pos) (tC (.int i)):=fun _ _ _ H _ I h=>wpAny_Constant_int ⟨.int i,H,I.tok _,⟨_,rfl⟩,h⟩
theorem yDG{b j pos}:PE X (.Constant (.bool b) j pos) (tC (.bl b)):=fun _ _ _ H _ I h=>Constant_bool ⟨.bl b,H,I,rfl,h⟩
theorem zZ0{j pos}:PE X (.Constant .none j pos) (tC .non):=fun _ _ _ H _ I h=>Constant_none ⟨.non,H,I,rfl,h⟩
theorem zYX{x j pos}:PE X (.Constant (.str x) j pos) (tC (.str x)):=fun _ _ _ H _ I h=>Calls.Constant_str ⟨.str x,H,I.tok _,⟨_,rfl⟩,h⟩
def Gl(X:Cx)(x:Str):Prop:=X.env.kindOf x=some .globalImplicit
theorem zQT{E:Value->A7->Prop}{a6:List (Addr×Obj)}{s:A7}{σ:St}{H:Hp}{x:Str}{u:Value}{pos:Pos}{Q:Value->A7->Prop}(I:Inv X a6 σ H s)(hg:Gl X x)(hm:X.mg x=some u)(h:Q u s)
  (hd:(x==("__debug__":Str))=false:=by decide):wpAny (model X.prog X.w) X.A (eval (.Name x pos) X.env) Q E s:=
 G6 I.ok.kind hg (Calls.loadGlobal_global (by rw[I.ok.glob];exact I.mod.glob.keeps I.bk) hm h) hd
theorem zHQ{E:Value->A7->Prop}{a6:List (Addr×Obj)}{s:A7}{σ:St}{H:Hp}{x:Str}{u:Value}{pos:Pos}{Q:Value->A7->Prop}(I:Inv X a6 σ H s)(hg:Gl X x)(hm:X.mg x=none)(hv:As x=some u)(h:Q u s)
  (hn:x≠ "__name__":=by decide) (hd:(x==("__debug__":Str))=false:=by decide):wpAny (model X.prog X.w) X.A (eval (.Name x pos) X.env) Q E s:=by
 obtain⟨mb,h1,h2⟩:=I.mod.blt
 exact G6 I.ok.kind hg (Calls.loadGlobal_builtin (by rw[I.ok.glob];exact I.mod.glob.keeps I.bk) hm (by rw[I.ok.blt];exact h1.keeps I.bk) ((h2 x hn).trans hv) h) hd
theorem zW0{x:Str}{v:V}{u:Value}{pos:Pos}(hg:Gl X x)(hm:X.mg x=some u)(r:RelV v u)(hd:(x==("__debug__":Str))=false:=by decide):PE X (.Name x pos) (tC v):=
 fun _ _ _ H _ I h=>zQT I hg hm ⟨v,H,I,r,h⟩ hd
theorem zW3{x:Str}{v:V}{u:Value}{pos:Pos}(hg:Gl X x)(hm:X.mg x=none)(hv:As x=some u)(r:RelV v u)(hn:x≠ "__name__":=by decide) (hd:(x==("__debug__":Str))=false:=by decide):PE X (.Name x pos) (tC v):=
 fun _ _ _ H _ I h=>zHQ I hg hm hv ⟨v,H,I,r,h⟩ hn hd
variable{a b:Expr}{ta tb:TE}{pos:Pos}
def tB(t:TE):TT:=fun σ H Q=>t σ H fun x H1=> ∃c,x= .bl c/\Q c H1
theorem zYM{e:Expr}{t:TE}(h:PE X e t)(he: ∀aw,isTrue e X.env aw=(do let v<- aw;standAt e.pos;Iq [v] (truthy v)):=by intro _;rfl):PT X e (tB t):=by
 intro a6 s σ H Q I hw
 refine isTrue_plain (thn (h a6 s σ H _ I hw) fun v s1 ⟨x,H1,I1,r1,q1⟩=> ?_) (he _)
 obtain⟨d,rfl,q⟩:=q1
 cases r1
 exact D7 ⟨H1,I1,q⟩
variable{tA tB':TT}{rest:List Expr}
def tAnd(t u:TT):TT:=fun σ H Q=>t σ H fun c H1=>if c=true then u σ H1 Q else Q false H1
def tOr(t u:TT):TT:=fun σ H Q=>t σ H fun c H1=>if c=true then Q true H1 else u σ H1 Q
def tNot(t:TT):TT:=fun σ H Q=>t σ H fun c H1=>Q (!c) H1
theorem zVM(ha:PT X a tA):PW X (.BoolOp .And [a] pos) tA:=by
 intro wh a6 s σ H Q I h
 refine isTrue_and (thn (ha a6 s σ H Q I h) fun c s1 e=> ?_)
 cases c with
 |true=>exact isTrue_and_nil e
 |false=>exact e
theorem zYK(ha:PT X a tA):PW X (.BoolOp .Or [a] pos) tA:=by
 intro wh a6 s σ H Q I h
 refine isTrue_or (thn (ha a6 s σ H Q I h) fun c s1 e=> ?_)
 cases c with
 |false=>exact isTrue_or_nil e
 |true=>exact e
theorem zYL(ha:PT X a tA)(hb:PW X (.BoolOp .And (b::rest) pos) tB'):PW X (.BoolOp .And (a::b::rest) pos) (tAnd tA tB'):=by
 intro wh a6 s σ H Q I h
 refine isTrue_and (thn (ha a6 s σ H _ I h) fun c s1 ⟨H1,I1,q1⟩=> ?_)
 cases c with
 |true=>exact hb wh a6 s1 σ H1 Q I1 q1
 |false=>exact⟨H1,I1,q1⟩
theorem yD5(ha:PT X a tA)(hb:PW X (.BoolOp .Or (b::rest) pos) tB'):PW X (.BoolOp .Or (a::b::rest) pos) (tOr tA tB'):=by
 intro wh a6 s σ H Q I h
 refine isTrue_or (thn (ha a6 s σ H _ I h) fun c s1 ⟨H1,I1,q1⟩=> ?_)
 cases c with
 |true=>exact⟨H1,I1,q1⟩
 |false=>exact hb wh a6 s1 σ H1 Q I1 q1
theorem zYN(ha:PT X a tA):PT X (.UnaryOp .Not a pos) (tNot tA):=by
 intro a6 s σ H Q I h
 exact isTrue_not (ha a6 s σ H (fun c H1=>Q (!c) H1) I h)
def yCA(ta tb:TE):TE:=fun σ H Q=>ta σ H fun x H1=> ∃c,x= .bl c/\if c=true then tb σ H1 Q else Q (.bl false) H1
theorem zYZ{op}{t:TE}(h:PE X a t):PE X (.BoolOp op [a] pos) t:=fun a6 s σ H Q I hw=>BoolOp_one (h a6 s σ H Q I hw)
theorem zZ3(ha:PE X a ta)(hb:PE X (.BoolOp .And (b::rest) pos) tb):PE X (.BoolOp .And (a::b::rest) pos) (yCA ta tb):=by
 intro a6 s σ H Q I h
 refine BoolOp_and (thn (ha a6 s σ H _ I h) fun v s1 ⟨x,H1,I1,r1,q1⟩=> ?_)
 obtain⟨c,rfl,q1⟩:=q1
 cases r1
 refine D7 ?_
 cases c with
 |true=>exact hb a6 s1 σ H1 Q I1 q1
 |false=>exact⟨.bl false,H1,I1,rfl,q1⟩
def tIf(t:TT)(ta tb:TE):TE:=fun σ H Q=>t σ H fun c H1=>if c=true then ta σ H1 Q else tb σ H1 Q
theorem zSZ{c:Expr}(hc:PT X c tA)(ha:PE X a ta)(hb:PE X b tb):PE X (.IfExp c a b pos) (tIf tA ta tb):=by
 intro a6 s σ H Q I h
 refine wpAny_IfExp (thn (hc a6 s σ H _ I h) fun d s1 ⟨H1,I1,q1⟩=> ?_)
 cases d with
 |true=>exact ha a6 s1 σ H1 Q I1 q1
 |false=>exact hb a6 s1 σ H1 Q I1 q1
end
def SqL(K:Ad)(H:Hp)(a:Addr)(xs:List V):Prop:=
 Rd H a (.lst xs)∨
  ∃(o:Obj) (its:Array Value) (n:Nat),K.lookup a=some o/\o.cls= .type "list" /\o.dict=none/\o.data= .seq its n/\its.size<=sizeLine/\Vals xs its.toList
def SqT(K:Ad)(H:Hp)(a:Addr)(xs:List V):Prop:=
 Rd H a (.tup xs)∨
  ∃(o:Obj) (its:Array Value) (n:Nat),K.lookup a=some o/\o.cls= .type "tuple" /\o.data= .seq its n/\its.size<=sizeLine/\Vals xs its.toList
noncomputable def absV:Value->Option V
 | .none=>some .non
 | .bool b=>some (.bl b)
 | .int i _=>some (.int i)
 | .str x _=>some (.str x)
 | .bytes b _=>some (.byt b)
 | .float b _=>some (.flt b)
 | .ref a=>some (.ref a)
 | .type n=>some (.ty n)
 |_=>none
theorem RelV.abs{x:V}{u:Value}(r:RelV x u):absV u=some x:=by
 cases x with
 |non=>cases r;rfl
 |bl _=>cases r;rfl
 |int _=>obtain⟨t,rfl⟩:=r;rfl
 |str _=>obtain⟨t,rfl⟩:=r;rfl
 |byt _=>obtain⟨t,rfl⟩:=r;rfl
 |flt _=>obtain⟨t,rfl⟩:=r;rfl
 |ref _=>cases r;rfl
 |ty _=>cases r;rfl
theorem RelV.inj{x y:V}{u:Value}(r:RelV x u)(q:RelV y u):x=y:=Ba (r.abs.symm.trans q.abs)
theorem Vals.inj: ∀{xs ys:List V} {us:List Value},Vals xs us->Vals ys us->xs=ys
 |_,_,_,.nil,.nil=>rfl
 |_,_,_,.cons r t,.cons r' t'=>by rw[r.inj r',Vals.inj t t']
section
variable{X:Cx}{a6:List (Addr×Obj)}{σ:St}{H:Hp}{s:A7}{a:Addr}{xs ys:List V}
theorem SqL.of{K:Ad}(h:H a=some (.lst xs)):SqL K H a xs:= .inl (.inl h)
theorem SqT.of{K:Ad}(h:H a=some (.tup xs)):SqT K H a xs:= .inl (.inl h)
theorem Inv.list(I:Inv X a6 σ H s)(h:SqL X.K H a xs): ∃its:List Value,Vals xs its/\PlainL s.heap a its.toArray/\xs.length<=sizeLine:=by
 rcases h with h|⟨o,its,n,hk,hc,hd,hs,hz,r⟩
 ·obtain⟨z,its,n,r,e⟩:=h.ok I.hok
  exact⟨its,r,⟨_,n,e,rfl,rfl,rfl⟩,z⟩
 ·refine ⟨its.toList,r,⟨o,n,I.kIn a o hk,hc,hd,by simpa using hs⟩,?_⟩
  have e:=r.length
  simp only[Fo] at e
  omega
theorem Inv.tuple(I:Inv X a6 σ H s)(h:SqT X.K H a xs): ∃its:List Value,Vals xs its/\IsTup s.heap a its.toArray/\xs.length<=sizeLine:=by
 rcases h with h|⟨o,its,n,hk,hc,hs,hz,r⟩
 ·obtain⟨z,its,r,p⟩:=h.ok I.hok
  exact⟨its,r,p,z⟩
 ·refine ⟨its.toList,r,⟨o,I.kIn a o hk,hc,n,by simpa using hs⟩,?_⟩
  have e:=r.length
  simp only[Fo] at e
  omega
theorem Inv.list_inj(I:Inv X a6 σ H s)(h:SqL X.K H a xs)(h':SqL X.K H a ys):xs=ys:=by
 obtain⟨its,r,⟨o,n,e,_,_,d⟩,_⟩:=I.list h
 obtain⟨its',r',⟨o',n',e',_,_,d'⟩,_⟩:=I.list h'
 rw[e] at e';cases e'
 rw[d] at d'
 injection d' with d1 _
 have:its=its':=by simpa using congrArg Lv d1
 subst this
 exact r.inj r'
theorem Inv.tuple_inj(I:Inv X a6 σ H s)(h:SqT X.K H a xs)(h':SqT X.K H a ys):xs=ys:=by
 obtain⟨its,r,⟨o,e,_,n,d⟩,_⟩:=I.tuple h
 obtain⟨its',r',⟨o',e',_,n',d'⟩,_⟩:=I.tuple h'
 rw[e] at e';cases e'
 rw[d] at d'
 injection d' with d1 _
 have:its=its':=by simpa using congrArg Lv d1
 subst this
 exact r.inj r'
end
abbrev Cx.wish(X:Cx)(E:Value->A7->Prop):Cx:={X with xe:=E}
abbrev Cx.nox(X:Cx):Cx:=X.wish fun _ _=>False
theorem Cx.Ok.wish{X:Cx}(ok:X.Ok)(E:Value->A7->Prop):(X.wish E).Ok:=
 ⟨ok.mod,ok.kind,ok.glob,ok.blt,ok.above,ok.inj,ok.has,ok.cab,ok.hd,ok.frames,ok.stk,ok.exf,ok.bs,ok.bsz,ok.noex,ok.exfs,ok.funs,ok.frf⟩
theorem Cx.Ok.unwish{X:Cx}{E:Value->A7->Prop}(ok:(X.wish E).Ok):X.Ok:=
 ⟨ok.mod,ok.kind,ok.glob,ok.blt,ok.above,ok.inj,ok.has,ok.cab,ok.hd,ok.frames,ok.stk,ok.exf,ok.bs,ok.bsz,ok.noex,ok.exfs,ok.funs,ok.frf⟩
section
variable{X:Cx}{a6:List (Addr×Obj)}{σ:St}{H:Hp}{s:A7}{E:Value->A7->Prop}
theorem Inv.wish(I:Inv X a6 σ H s)(E:Value->A7->Prop):Inv (X.wish E) a6 σ H s:=⟨I.ok.wish E,I.os,I.bare,I.base,I.loc,I.cell,I.free,I.freeC,I.pin,I.hok,I.len⟩
theorem Inv.unwish(I:Inv (X.wish E) a6 σ H s):Inv X a6 σ H s:=⟨I.ok.unwish,I.os,I.bare,I.base,I.loc,I.cell,I.free,I.freeC,I.pin,I.hok,I.len⟩
theorem SP.unwish{D:Ends}{f:Flow}{s':A7}(h:SP (X.wish E) a6 D f s'):SP X a6 D f s':=by
 cases f with
 |next=>obtain⟨σ',H',I,q⟩:=h;exact⟨σ',H',I.unwish,q⟩
 |brk=>obtain⟨σ',H',I,q⟩:=h;exact⟨σ',H',I.unwish,q⟩
 |cont=>obtain⟨σ',H',I,q⟩:=h;exact⟨σ',H',I.unwish,q⟩
 |ret u=>obtain⟨v,σ',H',I,r,q⟩:=h;exact⟨v,σ',H',I.unwish,r,q⟩
theorem PSs.nox{st:List Stmt}{t:TS}(h:PSs X.nox st t):PSs X st t:=fun a6 s σ H D I hw=>
 Br (h a6 s σ H D (I.wish _) hw) (fun _ _ q=>q.unwish) fun _ _ z=>E6 z
end
section
variable{X:Cx}{st:Stmt}{rest:List Stmt}{t u:TS}{e:Expr}{te:TE}{pos:Pos}
def yC6:TS:=fun D σ H=>D.nx σ H
def tSeq(t u:TS):TS:=fun D σ H=>t {D with nx:=u D} σ H
theorem zQ1:PSs X [] yC6:=fun _ _ σ H _ I h=>Ho ⟨σ,H,I,h⟩
theorem zMY(h1:PS X st t)(h2:PSs X rest u):PSs X (st::rest) (tSeq t u):=by
 intro a6 s σ H D I h
 refine wpAny_execs_cons (thn (h1 a6 s σ H {D with nx:=u D} I h) fun f s1 q=> ?_)
 cases f with
 |next=>
  obtain⟨σ',H',I',q⟩:=q
  exact h2 a6 s1 σ' H' D I' q
 |ret v=>exact q
 |brk=>exact q
 |cont=>exact q
theorem Inv.quiet{a6:List (Addr×Obj)}{σ:St}{H:Hp}{s:A7}(I:Inv X a6 σ H s):interactive X.env=false:=by simp[interactive,I.ok.kind]
def yC8(te:TE):TS:=fun D σ H=>te σ H fun _ H1=>D.nx σ H1
theorem zQ2(he:PE X e te)(hs:El e none pos.line X.env=pure false:=by rfl):PS X (.Expr e pos) (yC8 te):=by
 intro a6 s σ H D I h
 exact wpAny_Expr_any (thn (he a6 s σ H _ I h) fun v s1 ⟨x,H1,I1,r1,q1⟩=>⟨σ,H1,I1,q1⟩) I.quiet hs
def tRet(te:TE):TS:=fun D σ H=>te σ H D.rt
theorem zUE(he:PE X e te):PS X (.Return (some e) pos) (tRet te):=by
 intro a6 s σ H D I h
 exact wpAny_Return_some (thn (he a6 s σ H _ I h) fun v s1 ⟨x,H1,I1,r1,q1⟩=>⟨x,σ,H1,I1,r1,q1⟩)
def tIfS(c:TT)(t u:TS):TS:=fun D σ H=>c σ H fun b H1=>if b=true then t D σ H1 else u D σ H1
theorem yD6{c:Expr}{a b:List Stmt}{tc:TT}(hc:PT X c tc)(ha:PSs X a t)(hb:PSs X b u):PS X (.If c a b pos) (tIfS tc t u):=by
 intro a6 s σ H D I h
 refine wpAny_If (thn (hc a6 s σ H _ I h) fun d s1 ⟨H1,I1,q1⟩=> ?_)
 cases d with
 |true=>exact ha a6 s1 σ H1 D I1 q1
 |false=>exact hb a6 s1 σ H1 D I1 q1
end
abbrev TG:=V->St->Hp->(St->Hp->Prop)->Prop
abbrev TGs:=List V->St->Hp->(St->Hp->Prop)->Prop
def PG(X:Cx)(b5:Expr)(t:TG):Prop:=
 ∀(a6:List (Addr×Obj)) (s:A7) (σ:St) (H:Hp) (v:V) (u:Value) (Q:St->Hp->Prop),Inv X a6 σ H s->RelV v u->t v σ H Q→
  wpAny (model X.prog X.w) X.A (assign b5 X.env u) (fun _ s'=> ∃σ' H',Inv X a6 σ' H' s'/\Q σ' H') X.xe s
def PGs(X:Cx)(ts:List Expr)(t:TGs):Prop:=
 ∀(a6:List (Addr×Obj)) (s:A7) (σ:St) (H:Hp) (vs:List V) (us:List Value) (Q:St->Hp->Prop),Inv X a6 σ H s->Vals vs us->t vs σ H Q→
  wpAny (model X.prog X.w) X.A (assignInOrder ((assignEach ts X.env).map (·.2)) us) (fun _ s'=> ∃σ' H',Inv X a6 σ' H' s'/\Q σ' H') X.xe s
abbrev TSet:=V->V->V->Hp->(Hp->Prop)->Prop
def PSet(X:Cx)(t:TSet):Prop:=
 ∀(a6:List (Addr×Obj)) (s:A7) (σ:St) (H:Hp) (o i v:V) (ov iv u:Value) (Q:Hp->Prop),Inv X a6 σ H s->RelV o ov->RelV i iv->RelV v u->t o i v H Q→
  wpAny (model X.prog X.w) X.A (setItem ov iv u) (fun _ s'=> ∃H',Inv X a6 σ H' s'/\Q H') X.xe s
section
variable{X:Cx}{pos:Pos}
def zTO(i:Nat):TG:=fun v σ H Q=>Q (σ.set i (some v)) H
theorem zG2{i:Nat}{x:Str}(hN:X.N.Nodup)(hi:X.N[i]? =some x)(hx:Loc X.env.scope x)(hf:X.fn x=true∨X.env.scope.names.lookup x=some .local:=by first|exact .inl rfl|exact .inr rfl|assumption):PG X (.Name x pos) (zTO i):=by
 intro a6 s σ H v u Q I r h
 exact F1 (zD1 I hN hi hx r (fun s' I'=>⟨_,H,I',h⟩) hf)
def gNil:TGs:=fun vs σ H Q=>vs=[]/\Q σ H
def yEU(t:TG)(u:TGs):TGs:=fun vs σ H Q=> ∃v r,vs=v::r/\t v σ H fun σ' H'=>u r σ' H' Q
theorem zLL:PGs X [] gNil:=by
 intro a6 s σ H vs us Q I r h
 obtain⟨e,h⟩:=h
 subst e
 cases r
 exact F2 ⟨σ,H,I,h⟩
theorem zEI{e:Expr}{es:List Expr}{t:TG}{u:TGs}(h1:PG X e t)(h2:PGs X es u)
  (hs:(assignEach (e::es) X.env).map (·.2)=assign e X.env::(assignEach es X.env).map (·.2):=by rfl):PGs X (e::es) (yEU t u):=by
 intro a6 s σ H vs us Q I r h
 obtain⟨v,vr,e1,h⟩:=h
 subst e1
 cases r with
 |cons r rr=>
  rw[hs]
  refine Ck (thn (h1 a6 s σ H _ _ _ I r h) fun _ s1 ⟨σ1,H1,I1,q1⟩=> ?_)
  exact h2 a6 s1 σ1 H1 _ _ Q I1 rr q1
def gTup(K:Ad)(n:Nat)(t:TGs):TG:=fun v σ H Q=> ∃a xs,v= .ref a/\SqT K H a xs/\xs.length=n/\t xs σ H Q
theorem zYU{es:List Expr}{k:Nat}{t:TGs}{n:Nat}(hc:X.calm=true)(h:PGs X es t)
  (hn:(assignEach es X.env).length=n:=by rfl) (hst:(assignEach es X.env).findIdx? (·.1)=none:=by rfl):PG X (.Tuple es k pos) (gTup X.K n t):=by
 intro a6 s σ H v u Q I r hw
 obtain⟨a,xs,e1,hq,hl,hw⟩:=hw
 subst e1
 cases r
 obtain⟨its,rv,ht,hz⟩:=I.tuple hq
 refine assign_Tuple_tuple (I.ok.hd hc) ht (by simp[hn,<- hl,rv.length]) hst fun h' hx=> ?_
 have I1:Inv X a6 σ H {s with heap:=h'}:=I.kept (t':=s.toks) fun b o e=>hx b o (Au (Ac e)) e
 exact h a6 _ σ H xs _ Q I1 (by simpa using rv) hw
def gSub(to ti:TE)(t:TSet):TG:=fun v σ H Q=>to σ H fun o H1=>ti σ H1 fun i H2=>t o i v H2 fun H3=>Q σ H3
theorem zYV{o i:Expr}{to ti:TE}{t:TSet}(ho:PE X o to)(hi:PE X i ti)(hs:PSet X t)
  (ha: ∀v,assign (.Subscript o i pos) X.env v=(do
   let ov<- Iq [v] (eval o X.env)
   let iv<- Iq [v,ov] (eval i X.env)
   standAt pos
   Iq [v,ov,iv] (setItem ov iv v)
   release [v,ov,iv] []):=by intro _;rfl):PG X (.Subscript o i pos) (gSub to ti t):=by
 intro a6 s σ H v u Q I r h
 rw[ha]
 refine A0 (Be (thn (ho a6 s σ H _ I h) fun ov s1 ⟨x,H1,I1,r1,q1⟩=> ?_))
 refine A0 (Be (thn (hi a6 s1 σ H1 _ I1 q1) fun iv s2 ⟨y,H2,I2,r2,q2⟩=> ?_))
 refine A0 (E7 (A0 (Be (thn (hs a6 s2 σ H2 x y v ov iv u _ I2 r1 r2 r q2) fun _ s3 ⟨H3,I3,q3⟩=> ?_))))
 exact wpAny_release ⟨σ,H3,I3,q3⟩
def tAsg(te:TE)(g:TG):TS:=fun D σ H=>te σ H fun x H1=>g x σ H1 D.nx
theorem zKF{tg e:Expr}{te:TE}{g:TG}(he:PE X e te)(hg:PG X tg g)(hs:D4 [tg] e pos.line X.env=pure false:=by rfl)(hw:D5 [tg] e X.env=pure none:=by rfl)
  (h1:(assignEach [tg] X.env).map (·.2)=[assign tg X.env]:=by rfl):PS X (.Assign [tg] e pos) (tAsg te g):=by
 intro a6 s σ H D I h
 refine wpAny_Assign_stores (thn (he a6 s σ H _ I h) fun v s1 ⟨x,H1,I1,r1,q1⟩=> ?_) hs hw
 rw[h1]
 exact thn (hg a6 s1 σ H1 x v _ I1 r1 q1) fun _ s2 q=>q
theorem zYO{i:Nat}{x:Str}{e:Expr}{te:TE}{ap:Pos}(hN:X.N.Nodup)(hi:X.N[i]? =some x)(hx:Loc X.env.scope x)(he:PE X e te)(hs:El e (some (.Name x ap)) pos.line X.env=pure false:=by rfl)(hf:X.fn x=true∨X.env.scope.names.lookup x=some .local:=by first|exact .inl rfl|exact .inr rfl|assumption):
  PS X (.Assign [.Name x ap] e pos) (tAsg te (zTO i)):=by
 intro a6 s σ H D I h
 refine wpAny_Assign_Name (thn (he a6 s σ H _ I h) fun v s1 ⟨y,H1,I1,r1,q1⟩=> ?_) hs
 exact zD1 I1 hN hi hx r1 (fun s2 I2=>⟨_,H1,I2,q1⟩) hf
def tPar(i j:Nat)(ta:TA):TS:=fun D σ H=>ta σ H fun vs H1=> ∃v w,vs=[v,w]/\D.nx ((σ.set i (some v)).set j (some w)) H1
theorem zYP{i j:Nat}{x y:Str}{a b:Expr}{ta:TA}{px py pt:Pos}{kt k2 pt2}(hc:X.calm=true)(hN:X.N.Nodup)(hi:X.N[i]? =some x)(hj:X.N[j]? =some y)(hij:i≠j)
  (hx:X.env.scope.names.lookup x=some .local) (hy:X.env.scope.names.lookup y=some .local) (ha:PA X [a,b] ta)
  (hw:D5 [.Tuple [.Name x px,.Name y py] kt pt] (.Tuple [a,b] k2 pt2) X.env=pure (some [x,y]))
  (hs : D4 [.Tuple [.Name x px,.Name y py] kt pt] (.Tuple [a,b] k2 pt2) pos.line X.env = pure false := by rfl) :
  PS X (.Assign [.Tuple [.Name x px,.Name y py] kt pt] (.Tuple [a,b] k2 pt2) pos) (tPar i j ta):=by
 intro a6 s σ H D I h
 rw[exec_Assign_arm]
 refine A0 (E7 ?_)
 rw[hs]
 refine A0 (A9 ?_)
 rw [if_neg (by decide)]
 refine A0 (Tuple_ (thn (ha _ a6 s σ H _ I h) fun us s1 ⟨vs,H1,I1,r1,q1⟩=> ?_))
 obtain⟨v,w,e1,q1⟩:=q1
 subst e1
 obtain⟨u1,u2,rfl,rv,rw'⟩: ∃u1 u2,us=[u1,u2]/\RelV v u1/\RelV w u2:=by
  cases r1 with
  |cons p q=>
   cases q with
   |cons p' q'=>
    cases q'
    exact⟨_,_,rfl,p,p'⟩
 refine C6 ?_ (by show 2<=sizeLine;decide)
 have I2:Inv X a6 σ H1 {s1 with heap:=s1.heap.push {cls:= .type "tuple",data:= .seq [u1,u2].toArray}}:=I1.kept (t':=s1.toks) fun b o e=>A1 _ e
 rw[hw]
 refine A0 (A9 ?_)
 show wpAny (model X.prog X.w) X.A (do rule "assign.swapped-stores";let items<- Fp (.ref s1.heap.objs.size) 2 none;assignInOrder [fun v=>Ff X.env y v,fun v=>Ff X.env x v] items.reverse;pure Flow.next) _ _ _
 refine A0 (F3 (A0 (Jh (items:= #[u1,u2]) (I.ok.hd hc) (Gj s1.heap _) fun h' hx'=> ?_)))
 have I3:=I2.kept (h':=h') (t':=s1.toks) fun b o e=>hx' b o (Au (Ac e)) e
 show wpAny _ _ (assignInOrder [fun v=>Ff X.env y v,fun v=>Ff X.env x v] [u2,u1]>>=fun _=>pure Flow.next) _ _ _
 refine A0 (Ck (Fb (zD1 I3 hN hj (.inl hy) rw' (fun s2 I4=> ?_) (.inr hy))))
 refine Ck (Fb (zD1 I4 hN hi (.inl hx) rv (fun s3 I5=>F2 (A9 ?_)) (.inr hx)))
 rw[Cm _ _ (C9 hij)] at I5
 exact⟨_,H1,I5,q1⟩
end
section
variable{X:Cx}{pos:Pos}
def zXH(c:TT)(tb:TS):TS:=fun D σ H=> ∃W:Nat->St->Hp->Prop,(∃m,W m σ H)/\ ∀m σ H,W m σ H→
 c σ H fun b H1=>if b=true then∃N:St->Hp->Prop,(∀σ' H',N σ' H'-> ∃m',m'<m/\W m' σ' H')/\tb {D with nx:=N,ct:=N,bk:=D.nx} σ H1 else D.nx σ H1
theorem zSV{c:Expr}{body:List Stmt}{tc:TT}{tb:TS}(hp:Kj (model X.prog X.w) X.A X.env X.xe)(hc:PT X c tc)(hb:PSs X body tb):PS X (.While c body [] pos) (zXH tc tb):=by
 intro a6 s σ H D I h
 obtain⟨W,⟨m0,w0⟩,turn⟩:=h
 refine wpAny_While (codeAny_whileLoop (fun n s'=> ∃σ' H',Inv X a6 σ' H' s'/\W n σ' H') ?_ m0 ⟨σ,H,I,w0⟩)
 rintro n s1 ⟨σ1,H1,I1,w1⟩
 refine Dq hp (thn (hc a6 s1 σ1 H1 _ I1 (turn n σ1 H1 w1)) fun b s2 ⟨H2,I2,q2⟩=> ?_)
 cases b with
 |true=>
  obtain⟨N,hN,q2⟩:=q2
  rw[if_pos rfl]
  refine Dq hp (thn (hb a6 s2 σ1 H2 _ I2 q2) fun f s3 q3=> ?_)
  cases f with
  |next=>
   obtain⟨σ3,H3,I3,n3⟩:=q3
   obtain⟨m',hm,w3⟩:=hN σ3 H3 n3
   exact⟨m',hm,σ3,H3,I3,w3⟩
  |cont=>
   obtain⟨σ3,H3,I3,n3⟩:=q3
   obtain⟨m',hm,w3⟩:=hN σ3 H3 n3
   exact⟨m',hm,σ3,H3,I3,w3⟩
  |brk=>exact q3
  |ret v=>exact q3
 |false=>
  rw[if_neg Cn]
  exact Ho ⟨σ1,H2,I2,q2⟩
end
structure It where
 go:Nat->Hp->Prop
 yld:Nat->Hp->V->Hp->Prop
 stop:Nat->Hp->Prop
def FpOk(X:Cx)(a6:List (Addr×Obj))(H:Hp)(b:Addr):Prop:=
 H b=none/\b≠X.env.locals/\b∉X.fs/\(b∈X.ex∨X.s₀.heap.objs.size<=b)/\(∀x c,X.env.cells.lookup x=some c->c≠b)/\ ∀p∈X.pn++a6,p.1≠b
theorem Inv.fpOk{X:Cx}{a6:List (Addr×Obj)}{σ:St}{H H':Hp}{s:A7}{b:Addr}(I:Inv X a6 σ H s)(hb:s.heap.objs.size<=b)(hn:H' b=none):FpOk X a6 H' b:=by
 refine⟨hn,Eg (Aq I.lt hb),I.nofs hb,.inr (Df I.sz hb),fun x c e z=> ?_,fun p hp z=> ?_⟩
 ·obtain⟨v,q⟩:=I.cell x c e
  exact absurd (Aq q.lt (by rw[z];exact hb)) (Bo _)
 ·exact absurd (Aq (Ac (I.pin p hp).1) (by rw[z];exact hb)) (Bo _)
structure Turn(P:Aw)(w:World)(K:Ad)(tg:Expr)(J:It)(fp:List Addr)(it:Addr)(tn:Nat->Heap->Prop):Prop where
 mem:it∈fp
 obj: ∀i h,tn i h-> ∀b∈fp,∃o,h.get? b=some o/\ ∀v,o.data≠ .cell v
 keep: ∀i h h',tn i h->(∀b∈fp,∀o,h.get? b=some o->h'.get? b=some o)->tn i h'
 item: ∀(X:Cx),X.prog=P->X.w=w->X.K=K->X.calm=true-> ∀(i:Nat) (a6:List (Addr×Obj)) (s:A7) (σ:St) (H:Hp) (E:Value->A7->Prop),Inv X a6 σ H s->(∀b∈fp,FpOk X a6 H b)->tn i s.heap->J.go i H→
  wpAny (model P w) X.A (pyNext (.ref it)) (fun r s1=> ∃u,r=some u∧
   wpAny (model P w) X.A (Fq tg (.ref it) u) (fun _ s2=> ∃x H',Inv X a6 σ H' s2/\RelV x u/\J.yld i H x H'/\tn (i+1) s2.heap/\ ∀b∈fp,H' b=none) E s1) E s
 done: ∀(X:Cx),X.prog=P->X.w=w->X.K=K->X.calm=true-> ∀(i:Nat) (a6:List (Addr×Obj)) (s:A7) (σ:St) (H:Hp) (E:Value->A7->Prop),Inv X a6 σ H s->(∀b∈fp,FpOk X a6 H b)->tn i s.heap->J.stop i H→
  wpAny (model P w) X.A (pyNext (.ref it)) (fun r s1=>r=none/\Inv X a6 σ H s1) E s
 self: ∀(A:C3) (i:Nat) (s:A7) (Q:Value->A7->Prop) (E:Value->A7->Prop),tn i s.heap->Q (.ref it) s->wpAny (model P w) A (pyIter (.ref it)) Q E s
abbrev TI:=St->Hp->(It->Hp->Prop)->Prop
def PIE(X:Cx)(a6:List (Addr×Obj))(σ:St)(tg:Expr)(R:It->Hp->Prop)(itv:Value)(s2:A7):Prop:=
 ∃(it:Addr) (fp:List Addr) (tn:Nat->Heap->Prop) (J:It) (H':Hp),itv= .ref it/\Inv X a6 σ H' s2/\Turn X.prog X.w X.K tg J fp it tn/\tn 0 s2.heap/\(∀b∈fp,FpOk X a6 H' b)/\R J H'
def PI(X:Cx)(tg iter:Expr)(wi:TI):Prop:=
 ∀(a6:List (Addr×Obj)) (s:A7) (σ:St) (H:Hp) (R:It->Hp->Prop),Inv X a6 σ H s->wi σ H R→
  wpAny (model X.prog X.w) X.A (eval iter X.env) (fun v s1=>wpAny (model X.prog X.w) X.A (pyIter v) (PIE X a6 σ tg R) X.xe s1) X.xe s
theorem zWT{M:Model}{A:C3}{E:Value->A7->Prop}{s:A7}{tg:Expr}{it:Addr}{u:Value}{o:Obj}{n:String}{vs:Array Value}{Q:Unit->A7->Prop}(ho:s.heap.get? it=some o)(hc:o.cls= .type n)(hd:o.data= .fields vs)
    (hn:["enumerate","zip","dict_itemiterator","dict_reverseitemiterator","odict_iterator","itertools.zip_longest","itertools.pairwise"].contains n=false) (hQ:Q () s):wpAny M A (Fq tg (.ref it) u) Q E s:=by
  unfold Fq
  cases tg<;>first
    |exact A9 hQ
    |(cases u<;>first
        |exact A9 hQ
        | (refine A0 (wpAny_load ho ?_)
           rw[hc,hd]
           show wpAny M A (if(["enumerate","zip","dict_itemiterator","dict_reverseitemiterator","odict_iterator","itertools.zip_longest","itertools.pairwise"].contains n && vs[0]? ==some (rawInt _))=true then _ else _) Q E s
           rw[if_neg (by intro h;rw[hn,Bool.false_and] at h;cases h)]
           exact A9 hQ))
noncomputable def Itl(K:Ad)(a:Addr):It:=
 ⟨fun i H=> ∃xs x,SqL K H a xs/\xs[i]? =some x,fun i H x H'=>H'=H/\ ∀xs,SqL K H a xs->xs[i]? =some x,fun i H=> ∃xs,SqL K H a xs/\xs.length<=i⟩
noncomputable def Itt(K:Ad)(a:Addr):It:=
 ⟨fun i H=> ∃xs x,SqT K H a xs/\xs[i]? =some x,fun i H x H'=>H'=H/\ ∀xs,SqT K H a xs->xs[i]? =some x,fun i H=> ∃xs,SqT K H a xs/\xs.length<=i⟩
noncomputable def Itr(lo:Int)(n:Nat):It:=⟨fun i _=>i<n,fun i H x H'=>H'=H/\x= .int (lo+i),fun i _=>n<=i⟩
theorem zP2{P:Aw}{w:World}{K:Ad}{tg:Expr}(a it:Addr):Turn P w K tg (Itl K a) [it] it (fun i h=>h.IsListIter it a i) where
 mem:=by simp
 obj:=fun i h st b hb=>by
  have e:b=it:=by simpa using hb
  subst e
  obtain⟨o,e,c,d⟩:=st
  exact⟨o,e,fun v z=>by rw[d] at z;cases z⟩
 keep:=fun i h h' st k=>st.at fun o e=>k it (by simp) o e
 item:=by
  intro X hP hw hK hc i a6 s σ H E I hf st hg
  subst hP hw hK
  obtain⟨xs,x,hq,hx⟩:=hg
  obtain⟨its,rv,p,hz⟩:=I.list hq
  obtain⟨u,hu,ru⟩:=rv.get hx
  obtain⟨f0,f1,f2,f3,f4,f5⟩:=hf it (by simp)
  refine Hf st p.isList (x:=u) (by simpa using hu) fun h' st' sb=> ?_
  have I1:Inv X a6 σ H {s with heap:=h'}:=I.turned (t':=s.toks) (fun b o hb e=>(sb.2 b hb).trans e) f0 f1 f3 f4 f5
  obtain⟨o,e,c,d⟩:=id st'
  exact⟨u,rfl,zWT (s:={s with heap:=h'}) e c d (by decide) ⟨x,H,I1,ru,⟨rfl,fun ys hy=>by rw[I.list_inj hy hq];exact hx⟩,st',fun b hb=>(hf b hb).1⟩⟩
 done:=by
  intro X hP hw hK hc i a6 s σ H E I hf st hg
  subst hP hw hK
  obtain⟨xs,hq,hx⟩:=hg
  obtain⟨its,rv,p,hz⟩:=I.list hq
  obtain⟨f0,f1,f2,f3,f4,f5⟩:=hf it (by simp)
  have hl:=rv.length
  exact Hq (I.ok.hd hc) st p.isList (by simp;omega) fun h' eb=>⟨rfl,I.turned (t':=s.toks) (fun b o hb e=>eb b o hb e) f0 f1 f3 f4 f5⟩
 self:=fun _ _ _ _ _ st h=>wpAny_pyIter_listiter st h
theorem zNY{P:Aw}{w:World}{K:Ad}{tg:Expr}(a it:Addr):Turn P w K tg (Itt K a) [it] it (fun i h=>h.IsTupleIter it a i) where
 mem:=by simp
 obj:=fun i h st b hb=>by
  have e:b=it:=by simpa using hb
  subst e
  obtain⟨o,e,c,d⟩:=st
  exact⟨o,e,fun v z=>by rw[d] at z;cases z⟩
 keep:=fun i h h' st k=>st.at fun o e=>k it (by simp) o e
 item:=by
  intro X hP hw hK hc i a6 s σ H E I hf st hg
  subst hP hw hK
  obtain⟨xs,x,hq,hx⟩:=hg
  obtain⟨its,rv,p,hz⟩:=I.tuple hq
  obtain⟨u,hu,ru⟩:=rv.get hx
  obtain⟨f0,f1,f2,f3,f4,f5⟩:=hf it (by simp)
  refine wpAny_pyNext_tuple_item st (show s.heap.IsTuple a its.toArray from p) (x:=u) (by simpa using hu) fun h' st' sb=> ?_
  have I1:Inv X a6 σ H {s with heap:=h'}:=I.turned (t':=s.toks) (fun b o hb e=>(sb.2 b hb).trans e) f0 f1 f3 f4 f5
  obtain⟨o,e,c,d⟩:=id st'
  exact⟨u,rfl,zWT (s:={s with heap:=h'}) e c d (by decide) ⟨x,H,I1,ru,⟨rfl,fun ys hy=>by rw[I.tuple_inj hy hq];exact hx⟩,st',fun b hb=>(hf b hb).1⟩⟩
 done:=by
  intro X hP hw hK hc i a6 s σ H E I hf st hg
  subst hP hw hK
  obtain⟨xs,hq,hx⟩:=hg
  obtain⟨its,rv,p,hz⟩:=I.tuple hq
  obtain⟨f0,f1,f2,f3,f4,f5⟩:=hf it (by simp)
  have hl:=rv.length
  exact wpAny_pyNext_tuple_end (I.ok.hd hc) st (show s.heap.IsTuple a its.toArray from p) (by simp;omega) fun h' eb=>⟨rfl,I.turned (t':=s.toks) (fun b o hb e=>eb b o hb e) f0 f1 f3 f4 f5⟩
 self:=fun _ _ _ _ _ st h=>wpAny_pyIter_tupleiter st h
theorem zNZ{P:Aw}{w:World}{K:PySem.W.Frag}{tg:Expr}(it:Addr)(lo:Int)(n:Nat):Turn P w K tg (Itr lo n) [it] it (fun i h=>IsRangeIter h it (lo+(i:Nat)*1) ((n:Int) - (i:Nat)) 1) where
 mem:=by simp
 obj:=fun i h st b hb=>by
  have e:b=it:=by simpa using hb
  subst e
  exact⟨_,st,fun v z=>by
   have z':Data.fields _=Data.cell v:=z
   cases z'⟩
 keep:=fun i h h' st k=>k it (by simp) _ st
 item:=by
  intro X hP hw hK hc i a6 s σ H E I hf st hg
  subst hP hw hK
  obtain⟨f0,f1,f2,f3,f4,f5⟩:=hf it (by simp)
  have W:=Walks.range (prog:=X.prog) (w:=X.w) (I.ok.hd hc) it lo 1 n
  refine W.item i s _ _ hg st fun v h' tk hv st' kk=> ?_
  obtain⟨t,rfl⟩:=hv
  have I1:Inv X a6 σ H {s with heap:=h',toks:=tk}:=I.turned (fun b o hb e=>kk b o (by simpa using hb) e) f0 f1 f3 f4 f5
  refine⟨_,rfl,zWT (s:={s with heap:=h',toks:=tk}) (n:= "range_iterator") st' rfl rfl (by decide) ⟨.int (lo+i),H,I1,⟨t,?_⟩,⟨rfl,rfl⟩,st',fun b hb=>(hf b hb).1⟩⟩
  rw[Int.mul_one]
 done:=by
  intro X hP hw hK hc i a6 s σ H E I hf st hg
  subst hP hw hK
  obtain⟨f0,f1,f2,f3,f4,f5⟩:=hf it (by simp)
  exact wpAny_pyNext_range_end (I.ok.hd hc) st (by have:n<=i:=hg;omega) fun h' eb=>⟨rfl,I.turned (t':=s.toks) (fun b o hb e=>eb b o hb e) f0 f1 f3 f4 f5⟩
 self:=fun _ _ _ _ _ st h=>wpAny_pyIter_rangeiter st h
section
variable{X:Cx}{tg:Expr}
def yB2(K:Ad)(tl:TE):TI:=fun σ H R=>tl σ H fun x H1=> ∃a,x= .ref a/\(∃xs,SqL K H1 a xs)/\R (Itl K a) H1
def iTup(K:Ad)(tl:TE):TI:=fun σ H R=>tl σ H fun x H1=> ∃a,x= .ref a/\(∃xs,SqT K H1 a xs)/\R (Itt K a) H1
theorem zVX{l:Expr}{tl:TE}(hl:PE X l tl):PI X tg l (yB2 X.K tl):=by
 intro a6 s σ H R I h
 refine thn (hl a6 s σ H _ I h) fun v s1 ⟨x,H1,I1,r1,q1⟩=> ?_
 obtain⟨a,e,⟨xs,hq⟩,q⟩:=q1
 subst e
 cases r1
 obtain⟨its,rv,p,hz⟩:=I1.list hq
 refine E8 p.isList ?_
 refine⟨s1.heap.objs.size,[s1.heap.objs.size],_,_,H1,rfl,I1.kept (t':=s1.toks) fun b o e=>A1 _ e,zP2 a _,⟨_,Ai _ rfl,rfl,rfl⟩,fun b hb=> ?_,q⟩
 have e:b=s1.heap.objs.size:=by simpa using hb
 subst e
 exact I1.fpOk (Ae _) (I1.hok.fresh (Ae _))
theorem zYT{l:Expr}{tl:TE}(hl:PE X l tl):PI X tg l (iTup X.K tl):=by
 intro a6 s σ H R I h
 refine thn (hl a6 s σ H _ I h) fun v s1 ⟨x,H1,I1,r1,q1⟩=> ?_
 obtain⟨a,e,⟨xs,hq⟩,q⟩:=q1
 subst e
 cases r1
 obtain⟨its,rv,p,hz⟩:=I1.tuple hq
 refine Em (show s1.heap.IsTuple a its.toArray from p) ?_
 refine⟨s1.heap.objs.size,[s1.heap.objs.size],_,_,H1,rfl,I1.kept (t':=s1.toks) fun b o e=>A1 _ e,zNY a _,⟨_,Ai _ rfl,rfl,rfl⟩,fun b hb=> ?_,q⟩
 have e:b=s1.heap.objs.size:=by simpa using hb
 subst e
 exact I1.fpOk (Ae _) (I1.hok.fresh (Ae _))
theorem zMV{a6:List (Addr×Obj)}{σ:St}{H:Hp}{s:A7}{R:It->Hp->Prop}{E:Value->A7->Prop}{lo hi:Int}{t u v:Tok}{tk:Nat}(I:Inv X a6 σ H s)(h1: -(2 ^ 62)<=lo)(h2:lo<2 ^ 62)(h3: -(2 ^ 62)<=hi)(h4:hi<2 ^ 62)
  (q:R (Itr lo (hi - lo).toNat) H):wpAny (model X.prog X.w) X.A (pyIter (.ref s.heap.objs.size)) (PIE X a6 σ tg R) E {s with heap:=s.heap.push {cls:= .type "range",data:= .fields #[.int lo t,.int hi u,.int 1 v]},toks:=tk}:=by
 refine wpAny_pyIter_range (Kk ..) (small_one h1 h2 h3 h4) ?_
 have I1:Inv X a6 σ H {s with heap:=s.heap.push {cls:= .type "range",data:= .fields #[.int lo t,.int hi u,.int 1 v]},toks:=tk}:=I.kept fun b o e=>A1 _ e
 refine⟨(s.heap.push {cls:= .type "range",data:= .fields #[.int lo t,.int hi u,.int 1 v]}).objs.size,[(s.heap.push {cls:= .type "range",data:= .fields #[.int lo t,.int hi u,.int 1 v]}).objs.size],_,_,H,rfl,
  I1.kept (t':=tk) fun b o e=>A1 _ e,zNZ _ lo (hi - lo).toNat,?_,fun b hb=> ?_,q⟩
 ·have e1 : lo + ((0 : Nat) : Int) * 1 = lo := by simp
  have e2:(((hi - lo).toNat:Nat):Int) - ((0:Nat):Int)=Co lo hi 1:=by rw[rangeSize_one];split<;>omega
  show IsRangeIter _ _ (lo+((0:Nat):Int)*1) ((((hi - lo).toNat:Nat):Int) - ((0:Nat):Int)) 1
  rw[e1,e2]
  exact Ai _ rfl
 ·have e : b = (s.heap.push { cls := .type "range",data := .fields #[.int lo t,.int hi u,.int 1 v] }).objs.size := by simpa using hb
  subst e
  exact I1.fpOk (Ae _) (I1.hok.fresh (Ae _))
def yEP(ta:TA):TI:=fun σ H R=>ta σ H fun vs H1=> ∃j:Int,vs=[.int j]/\ -(2 ^ 62)<=j/\j<2 ^ 62/\R (Itr 0 j.toNat) H1
def yEO(ta:TA):TI:=fun σ H R=>ta σ H fun vs H1=> ∃i j:Int,vs=[.int i,.int j]/\(-(2 ^ 62)<=i/\i<2 ^ 62/\ -(2 ^ 62)<=j/\j<2 ^ 62)/\R (Itr i (j - i).toNat) H1
theorem zQA{a:Expr}{ta:TA}{p pos:Pos}(hg:Gl X "range") (hm:X.mg "range"=none) (ha:PA X [a] ta) (hs:A2 [a] X.env=[(false,eval a X.env)]:=by rfl):PI X tg (.Call (.Name "range" p) [a] [] pos) (yEP ta):=by
 intro a6 s σ H R I h
 refine Call_ (zHQ I hg hm boot_range (Cp (thn (ha pos a6 s σ H _ I h) fun us s1 ⟨vs,H1,I1,r1,q1⟩=> ?_) hs rfl))
 obtain⟨j,e,q1,q2,q⟩:=q1
 subst e
 cases r1 with
 |cons r rr=>
  cases rr
  obtain⟨t,rfl⟩:=r
  exact call_range_1 (zMV I1 (by omega) (by omega) q1 q2 (by simpa using q))
theorem zQ9{a b:Expr}{ta:TA}{p pos:Pos}(hg:Gl X "range") (hm:X.mg "range"=none) (ha:PA X [a,b] ta) (hs:A2 [a,b] X.env=[(false,eval a X.env),(false,eval b X.env)]:=by rfl) (hs2:A2 [b] X.env=[(false,eval b X.env)]:=by rfl):
  PI X tg (.Call (.Name "range" p) [a,b] [] pos) (yEO ta):=by
 intro a6 s σ H R I h
 refine Call_ (zHQ I hg hm boot_range (Cp (thn (ha pos a6 s σ H _ I h) fun us s1 ⟨vs,H1,I1,r1,q1⟩=> ?_) (by rw[hs,hs2]) (by rw[hs2];rfl)))
 obtain⟨i,j,e,⟨q1,q2,q3,q4⟩,q⟩:=q1
 subst e
 cases r1 with
 |cons r rr=>
  cases rr with
  |cons r' rr=>
   cases rr
   obtain⟨t,rfl⟩:=r
   obtain⟨t',rfl⟩:=r'
   exact call_range_2 (zMV I1 q1 q2 q3 q4 q)
def tFor(wi:TI)(g:TG)(tb:TS):TS:=fun D σ H=>wi σ H fun J H1=> ∃W:Nat->Nat->St->Hp->Prop,(∃m,W 0 m σ H1)/\ ∀i m σ H,W i m σ H→
 (J.stop i H/\D.nx σ H)∨(J.go i H/\ ∃N:St->Hp->Prop,(∀σ' H',N σ' H'-> ∃m',m'<m/\W (i+1) m' σ' H')/\ ∀x H',J.yld i H x H'->g x σ H' fun σ2 H2=>tb {D with nx:=N,ct:=N,bk:=D.nx} σ2 H2)
noncomputable def zKH(fp:List Addr)(h:Heap):List (Addr×Obj):=fp.filterMap fun b=>(h.get? b).map fun o=>(b,o)
theorem zEJ{fp:List Addr}{h:Heap}{b:Addr}{o:Obj}(hb:b∈fp)(e:h.get? b=some o):(b,o)∈zKH fp h:=J5.mpr ⟨b,hb,by rw[e];rfl⟩
theorem zQI{fp:List Addr}{h:Heap}{p:Addr×Obj}(hp:p∈zKH fp h):p.1∈fp/\h.get? p.1=some p.2:=by
 obtain⟨b,hb,e⟩:=J5.mp hp
 cases q:h.get? b with
 |none=>rw[q] at e;cases e
 |some o=>
  rw[q] at e
  have e':(b,o)=p:=Ba e
  subst e'
  exact⟨hb,q⟩
theorem Inv.pinned{a6:List (Addr×Obj)}{σ:St}{H:Hp}{s:A7}{fp:List Addr}(I:Inv X a6 σ H s)(hf: ∀b∈fp,FpOk X a6 H b)(ho: ∀b∈fp,∃o,s.heap.get? b=some o/\ ∀v,o.data≠ .cell v):Inv X (a6++zKH fp s.heap) σ H s:=
 I.pins_of fun p hp=>(B5.mp hp).elim (fun z=>I.pin p (Ay _ z)) fun z=>by
  obtain⟨hb,e⟩:=zQI z
  obtain⟨f0,f1,f2,_⟩:=hf p.1 hb
  obtain⟨o,e',d⟩:=ho p.1 hb
  rw[e] at e';cases e'
  exact⟨e,f0,f1,f2,d⟩
theorem Inv.unpinned{a6 pl:List (Addr×Obj)}{σ:St}{H:Hp}{s:A7}(I:Inv X (a6++pl) σ H s):Inv X a6 σ H s:=I.pins_of fun p hp=>I.pin p (Ay _ (Bb _ hp))
theorem zYQ{iter:Expr}{body:List Stmt}{wi:TI}{g:TG}{tb:TS}{pos:Pos}(hp:Kj (model X.prog X.w) X.A X.env X.xe)(hc:X.calm=true)(hi:PI X tg iter wi)(hg:PG X tg g)(hb:PSs X body tb)
  (hs : ∀ x,foldedSetIterable iter X.env x = pure x := by intro _;rfl) : PS X (.For tg iter body [] pos) (tFor wi g tb) := by
 intro a6 s σ H D I h
 refine wpAny_For (thn (hi a6 s σ H _ I h) fun v s1 h1=>thn h1 fun itv s2 h2=> ?_) hs
 obtain⟨it,fp,tn,J,H2,e,I2,T,st2,f2,W,⟨m0,w0⟩,turn⟩:=h2
 subst e
 have stat: ∀{H':Hp},(∀b∈fp,H' b=none)-> ∀b∈fp,FpOk X a6 H' b:=fun hn b hb=>⟨hn b hb,(f2 b hb).2⟩
 refine codeAny_forLoop_any (fun n s'=> ∃i σ' H',Inv X a6 σ' H' s'/\tn i s'.heap/\(∀b∈fp,H' b=none)/\W i n σ' H') ?_ m0 ⟨0,σ,H2,I2,st2,fun b hb=>(f2 b hb).1,w0⟩
 rintro n s3 ⟨i,σ3,H3,I3,st3,fr3,w3⟩
 rcases turn i n σ3 H3 w3 with⟨stop,qn⟩|⟨go,N,hN,step⟩
 ·refine Dq hp (thn (T.done X rfl rfl rfl hc i a6 s3 σ3 H3 X.xe I3 (stat fr3) st3 stop) fun r s4 ⟨hr,I4⟩ => ?_)
  subst hr
  exact Ho ⟨σ3,H3,I4,qn⟩
 ·refine Dq hp (thn (T.item X rfl rfl rfl hc i a6 s3 σ3 H3 X.xe I3 (stat fr3) st3 go) fun r s4 ⟨u,hr,h4⟩ => ?_)
  subst hr
  refine Dq hp (thn h4 fun _ s5 ⟨x,H5,I5,r5,y5,st5,fr5⟩=> ?_)
  have I5':=I5.pinned (stat fr5) (T.obj _ _ st5)
  refine Dq hp (thn (hg _ s5 σ3 H5 x u _ I5' r5 (step x H5 y5)) fun _ s6 ⟨σ6,H6,I6,q6⟩=> ?_)
  refine Dq hp (thn (hb _ s6 σ6 H6 _ I6 q6) fun f s7 q7=> ?_)
  have zDZ: ∀{σ7:St} {H7:Hp},Inv X (a6++zKH fp s5.heap) σ7 H7 s7->N σ7 H7-> ∃m,m<n/\ ∃i σ' H',Inv X a6 σ' H' s7/\tn i s7.heap/\(∀b∈fp,H' b=none)/\W i m σ' H':=fun{σ7 H7} I7 n7=>by
   obtain⟨m',hm,w7⟩:=hN σ7 H7 n7
   refine⟨m',hm,i+1,σ7,H7,I7.unpinned,T.keep _ _ _ st5 fun b hb o e=>(I7.pin (b,o) (Ay _ (Ay _ (zEJ hb e)))).1,fun b hb=> ?_,w7⟩
   obtain⟨o,e,d⟩:=T.obj _ _ st5 b hb
   exact(I7.pin (b,o) (Ay _ (Ay _ (zEJ hb e)))).2.1
  cases f with
  |next=>obtain⟨σ7,H7,I7,n7⟩:=q7;exact zDZ I7 n7
  |cont=>obtain⟨σ7,H7,I7,n7⟩:=q7;exact zDZ I7 n7
  |brk=>obtain⟨σ7,H7,I7,q7⟩:=q7;exact⟨σ7,H7,I7.unpinned,q7⟩
  |ret v=>obtain⟨x7,σ7,H7,I7,r7,q7⟩:=q7;exact⟨x7,σ7,H7,I7.unpinned,r7,q7⟩
end
abbrev R2:=V->V->Hp->VK->Prop
def OpR(X:Cx)(f:Value->Value->Sem Value)(r:R2):Prop:=
 ∀(a6:List (Addr×Obj)) (s:A7) (σ:St) (H:Hp) (x y:V) (v u:Value) (Q:VK),Inv X a6 σ H s->RelV x v->RelV y u->r x y H Q→
  wpAny (model X.prog X.w) X.A (f v u) (EP X a6 σ Q) X.xe s
def UnR(X:Cx)(f:Value->Sem Value)(r:V->Hp->VK->Prop):Prop:=
 ∀(a6:List (Addr×Obj)) (s:A7) (σ:St) (H:Hp) (x:V) (v:Value) (Q:VK),Inv X a6 σ H s->RelV x v->r x H Q→
  wpAny (model X.prog X.w) X.A (f v) (EP X a6 σ Q) X.xe s
def zBW(X:Cx)(f:Value)(r:List V->Hp->VK->Prop):Prop:=
 ∀(a6:List (Addr×Obj)) (s:A7) (σ:St) (H:Hp) (xs:List V) (us:List Value) (Q:VK),Inv X a6 σ H s->Vals xs us->r xs H Q→
  wpAny (model X.prog X.w) X.A (call f us) (EP X a6 σ Q) X.xe s
def tOp(r:R2)(ta tb:TE):TE:=fun σ H Q=>ta σ H fun x H1=>tb σ H1 fun y H2=>r x y H2 Q
def tUn(r:V->Hp->VK->Prop)(ta:TE):TE:=fun σ H Q=>ta σ H fun x H1=>r x H1 Q
def rI(C:Int->Int->Prop)(g:Int->Int->V):R2:=fun x y H Q=> ∃i j,x= .int i/\y= .int j/\C i j/\Q (g i j) H
def rI0(g:Int->Int->V):R2:=fun x y H Q=> ∃i j,x= .int i/\y= .int j/\Q (g i j) H
def rU(g:Int->V):V->Hp->VK->Prop:=fun x H Q=> ∃i,x= .int i/\Q (g i) H
section
variable{X:Cx}{a b c:Expr}{ta tb tc:TE}{pos:Pos}
theorem binT(ha:PE X a ta)(hb:PE X b tb){a6:List (Addr×Obj)}{s:A7}{σ:St}{H:Hp}{R:V->V->Hp->Prop}(I:Inv X a6 σ H s)
  (h:ta σ H fun x H1=>tb σ H1 fun y H2=>R x y H2) {Q:Value->A7->Prop} {f:Value->Value->Sem Value}
  (hf: ∀v u s2 x y H2,Inv X a6 σ H2 s2->RelV x v->RelV y u->R x y H2->wpAny (model X.prog X.w) X.A (f v u) Q X.xe s2):
  wpAny (model X.prog X.w) X.A (eval a X.env) (fun v s₁=>wpAny (model X.prog X.w) X.A (eval b X.env) (fun u s₂=>wpAny (model X.prog X.w) X.A (f v u) Q X.xe s₂) X.xe s₁) X.xe s:=by
 refine thn (ha a6 s σ H _ I h) fun v s1 ⟨x,H1,I1,r1,q1⟩=> ?_
 refine thn (hb a6 s1 σ H1 _ I1 q1) fun u s2 ⟨y,H2,I2,r2,q2⟩=> ?_
 exact hf v u s2 x y H2 I2 r1 r2 q2
theorem zYY{op:Operator}{r:R2}(ho:OpR X (Dz op) r)(ha:PE X a ta)(hb:PE X b tb):PE X (.BinOp a op b pos) (tOp r ta tb):=by
 intro a6 s σ H Q I h
 exact wpAny_BinOp (binT ha hb I h fun v u s2 x y H2 I2 rx ry q=>ho a6 s2 σ H2 x y v u Q I2 rx ry q)
theorem yDD{op:UnaryOp}{r:V->Hp->VK->Prop}(ho:UnR X (unaryOp op) r)(ha:PE X a ta):PE X (.UnaryOp op a pos) (tUn r ta):=by
 intro a6 s σ H Q I h
 exact UnaryOp_ (thn (ha a6 s σ H _ I h) fun v s1 ⟨x,H1,I1,r1,q1⟩=>ho a6 s1 σ H1 x v Q I1 r1 q1)
theorem opI{f:Value->Value->Sem Value}{C:Int->Int->Prop}{g:Int->Int->Int}
  (rule: ∀(i j:Int) (t u:Tok) (s:A7) (Q:Value->A7->Prop) (E:Value->A7->Prop),C i j->Q (.int (g i j) s.toks) {s with toks:=s.toks+1}->wpAny (model X.prog X.w) X.A (f (.int i t) (.int j u)) Q E s):
  OpR X f (rI C fun i j=> .int (g i j)):=by
 intro a6 s σ H x y v u Q I rx ry h
 obtain⟨i,j,rfl,rfl,hc,q⟩:=h
 obtain⟨t,rfl⟩:=rx
 obtain⟨t',rfl⟩:=ry
 exact rule i j t t' s _ _ hc ⟨.int (g i j),H,I.tok _,⟨_,rfl⟩,q⟩
theorem opI0{f:Value->Value->Sem Value}{g:Int->Int->Int}
  (rule: ∀(i j:Int) (t u:Tok) (s:A7) (Q:Value->A7->Prop) (E:Value->A7->Prop),Q (.int (g i j) s.toks) {s with toks:=s.toks+1}->wpAny (model X.prog X.w) X.A (f (.int i t) (.int j u)) Q E s):
  OpR X f (rI0 fun i j=> .int (g i j)):=by
 intro a6 s σ H x y v u Q I rx ry h
 obtain⟨i,j,rfl,rfl,q⟩:=h
 obtain⟨t,rfl⟩:=rx
 obtain⟨t',rfl⟩:=ry
 exact rule i j t t' s _ _ ⟨.int (g i j),H,I.tok _,⟨_,rfl⟩,q⟩
theorem opB0{f:Value->Value->Sem Value}{g:Int->Int->Bool}
  (rule: ∀(i j:Int) (t u:Tok) (s:A7) (Q:Value->A7->Prop) (E:Value->A7->Prop),Q (.bool (g i j)) s->wpAny (model X.prog X.w) X.A (f (.int i t) (.int j u)) Q E s):
  OpR X f (rI0 fun i j=> .bl (g i j)):=by
 intro a6 s σ H x y v u Q I rx ry h
 obtain⟨i,j,rfl,rfl,q⟩:=h
 obtain⟨t,rfl⟩:=rx
 obtain⟨t',rfl⟩:=ry
 exact rule i j t t' s _ _ ⟨.bl (g i j),H,I,rfl,q⟩
def CDiv(i j:Int):Prop:=0<j/\j<1073741824
def CPow(i j:Int):Prop:=0<=j/\j<=1000000/\i.natAbs<2 ^ 64
def CMul(i j:Int):Prop:=(-(2 ^ 64)<i/\i<2 ^ 64)∨(-(2 ^ 64)<j/\j<2 ^ 64)
theorem CMul.ok{i j:Int}(h:CMul i j):IntMulOk i j:=by
 rcases h with⟨h1,h2⟩|⟨h1,h2⟩
 ·exact .of_left (intBits_le_64 h1 h2)
 ·exact .of_right (intBits_le_64 h1 h2)
theorem zZ8:OpR X (Dz .Add) (rI0 fun i j=> .int (i+j)):=opI0 fun _ _ _ _ _ _ _ q=>add_int q
theorem zFK:OpR X (Dz .Sub) (rI0 fun i j=> .int (i - j)):=opI0 fun _ _ _ _ _ _ _ q=>sub_int q
theorem zZ6:OpR X (Dz .Mult) (rI CMul fun i j=> .int (i*j)):=opI fun _ _ _ _ _ _ _ hc q=>mul_int q hc.ok
theorem zJD:OpR X (Dz .FloorDiv) (rI CDiv fun i j=> .int (i/j)):=opI fun i j _ _ _ _ _ hc q=>by
 have h1:(0:Int)<j:=hc.1
 have h2:j<1073741824:=hc.2
 exact floordiv_int (by omega) (by rw[Int.fdiv_eq_ediv_of_nonneg i (by omega)];exact q) (.inl (Hg (by omega)))
theorem zE6:OpR X (Dz .Mod) (rI (fun _ j=>0<j) fun i j=> .int (i % j)):=opI fun i j _ _ _ _ _ hc q=>by
 have h1:(0:Int)<j:=hc
 exact mod_int' (by omega) (by rw[Int.fmod_eq_emod_of_nonneg i (by omega)];exact q)
theorem zZ4:OpR X (Dz .Pow) (rI CPow fun i j=> .int (i ^ j.toNat)):=opI fun _ _ _ _ _ _ _ hc q=>pow_int_small hc.1 hc.2.1 hc.2.2 q
theorem unI{f:Value->Sem Value}{g:Int->Int}
  (rule: ∀(i:Int) (t:Tok) (s:A7) (Q:Value->A7->Prop) (E:Value->A7->Prop),Q (.int (g i) s.toks) {s with toks:=s.toks+1}->wpAny (model X.prog X.w) X.A (f (.int i t)) Q E s):
  UnR X f (rU fun i=> .int (g i)):=by
 intro a6 s σ H x v Q I rx h
 obtain⟨i,rfl,q⟩:=h
 obtain⟨t,rfl⟩:=rx
 exact rule i t s _ _ ⟨.int (g i),H,I.tok _,⟨_,rfl⟩,q⟩
theorem zXA:UnR X (unaryOp .USub) (rU fun i=> .int (-i)):=unI fun _ _ _ _ _ q=>neg_int q
end
section
variable{X:Cx}{a b c:Expr}{ta tb tc:TE}{pos:Pos}
theorem zNI{a6:List (Addr×Obj)}{σ:St}{H:Hp}{s:A7}{Q:VK}{k k':Bool}(I:Inv X a6 σ H s)(q:Q (.bl k) H)(e:k=k'):EP X a6 σ Q (.bool k') s:=by
 subst e
 exact⟨.bl k,H,I,rfl,q⟩
theorem zQG:OpR X (C0 .Lt) (rI0 fun i j=> .bl (decide (i<j))):=opB0 fun _ _ _ _ _ _ _ q=>lt_int q
theorem zQH:OpR X (C0 .LtE) (rI0 fun i j=> .bl (decide (i<=j))):=opB0 fun _ _ _ _ _ _ _ q=>le_int q
theorem zW6:OpR X (C0 .Gt) (rI0 fun i j=> .bl (decide (j<i))):=opB0 fun _ _ _ _ _ _ _ q=>gt_int q
theorem zW7:OpR X (C0 .GtE) (rI0 fun i j=> .bl (decide (j<=i))):=opB0 fun _ _ _ _ _ _ _ q=>ge_int q
theorem zN4:OpR X (C0 .Is) (fun x y H Q=>y= .non/\Q (.bl (decide (x= .non))) H):=by
 intro a6 s σ H x y v u Q I rx ry h
 obtain⟨rfl,q⟩:=h
 cases ry
 refine is_none_gen (zNI I q ?_)
 cases x<;>first
  |(cases rx;rfl)
  |(obtain⟨t,rfl⟩:=rx;rfl)
theorem zLM:OpR X (C0 .IsNot) (fun x y H Q=>y= .non/\Q (.bl (!decide (x= .non))) H):=by
 intro a6 s σ H x y v u Q I rx ry h
 obtain⟨rfl,q⟩:=h
 cases ry
 refine isnot_none_gen (zNI I q ?_)
 cases x<;>first
  |(cases rx;rfl)
  |(obtain⟨t,rfl⟩:=rx;rfl)
theorem OpR.or{f:Value->Value->Sem Value}{r r':R2}(h:OpR X f r)(h':OpR X f r'):OpR X f (fun x y H Q=>r x y H Q∨r' x y H Q):=by
 intro a6 s σ H x y v u Q I rx ry q
 rcases q with q|q
 ·exact h a6 s σ H x y v u Q I rx ry q
 ·exact h' a6 s σ H x y v u Q I rx ry q
theorem zBF(b:Expr){op:CmpOp}(h:op≠ .In:=by decide)(h2:op≠ .NotIn:=by decide):Eo op b=false:=by
 have e1:(op==CmpOp.In)=false:=by cases op<;>first|rfl|exact absurd rfl h
 have e2:(op==CmpOp.NotIn)=false:=by cases op<;>first|rfl|exact absurd rfl h2
 cases b<;>simp[Eo,e1,e2]
theorem zW2{op:CmpOp}{r:R2}(ho:OpR X (C0 op) r)(ha:PE X a ta)(hb:PE X b tb)(hm:Eo op b=false):PE X (.Compare a [op] [b] pos) (tOp r ta tb):=by
 intro a6 s σ H Q I h
 exact wpAny_Compare1 (binT ha hb I h fun v u s2 x y H2 I2 rx ry q=>ho a6 s2 σ H2 x y v u Q I2 rx ry q) hm
def zXI(t:TE):TT:=fun σ H Q=>t σ H fun x H'=> ∃k,x= .bl k/\Q k H'
theorem zVP{op:CmpOp}{r:R2}(ho:OpR X (C0 op) r)(ha:PE X a ta)(hb:PE X b tb)(hm:Eo op b=false):PT X (.Compare a [op] [b] pos) (zXI (tOp r ta tb)):=by
 intro a6 s σ H Q I h
 refine wpAny_isTrue_Compare1 (thn (ha a6 s σ H _ I h) fun v s1 ⟨x,H1,I1,r1,q1⟩=>thn (hb a6 s1 σ H1 _ I1 q1) fun u s2 ⟨y,H2,I2,r2,q2⟩=>
  thn (ho a6 s2 σ H2 x y v u _ I2 r1 r2 q2) fun c s3 ⟨z,H3,I3,r3,k,e,q3⟩=> ?_) hm
 subst e
 cases r3
 exact D7 ⟨H3,I3,q3⟩
def zP5(r r':R2)(ta tb tc:TE):TE:=fun σ H Q=>ta σ H fun x H1=>tb σ H1 fun y H2=>r x y H2 fun z H3=> ∃k,z= .bl k∧
 (if k=true then tc σ H3 fun w' H4=>r' y w' H4 Q else Q (.bl false) H3)
theorem zT4{op op':CmpOp}{r r':R2}(ho:OpR X (C0 op) r)(ho':OpR X (C0 op') r')(ha:PE X a ta)(hb:PE X b tb)(hc:PE X c tc)
  (hm:Kl [op,op'] [b,c]=false:=by with_unfolding_all rfl):PE X (.Compare a [op,op'] [b,c] pos) (zP5 r r' ta tb tc):=by
 intro a6 s σ H Q I h
 refine Compare_chain (thn (ha a6 s σ H _ I h) fun v s1 ⟨x,H1,I1,r1,q1⟩=>chain_link (thn (hb a6 s1 σ H1 _ I1 q1) fun u s2 ⟨y,H2,I2,r2,q2⟩=>
  thn (ho a6 s2 σ H2 x y v u _ I2 r1 r2 q2) fun d s3 ⟨z,H3,I3,r3,k,e,q3⟩=> ?_)) hm
 subst e
 cases r3
 refine D7 ?_
 cases k with
 |false=>exact ite_ff ⟨.bl false,H3,I3,rfl,q3⟩
 |true=>exact ite_tt (chain_last (thn (hc a6 s3 σ H3 _ I3 q3) fun w' s4 ⟨z',H4,I4,r4,q4⟩=>ho' a6 s4 σ H4 y z' u w' Q I4 r2 r4 q4))
theorem zSU{op op':CmpOp}{r r':R2}(ho:OpR X (C0 op) r)(ho':OpR X (C0 op') r')(ha:PE X a ta)(hb:PE X b tb)(hc:PE X c tc)
  (hm:Kl [op,op'] [b,c]=false:=by with_unfolding_all rfl):PT X (.Compare a [op,op'] [b,c] pos) (zXI (zP5 r r' ta tb tc)):=by
 intro a6 s σ H Q I h
 refine isTrue_chain (thn (ha a6 s σ H _ I h) fun v s1 ⟨x,H1,I1,r1,q1⟩=>test_link (thn (hb a6 s1 σ H1 _ I1 q1) fun u s2 ⟨y,H2,I2,r2,q2⟩=>
  thn (ho a6 s2 σ H2 x y v u _ I2 r1 r2 q2) fun d s3 ⟨z,H3,I3,r3,k,e,q3⟩=> ?_)) hm
 subst e
 cases r3
 refine D7 ?_
 cases k with
 |false=>
  obtain⟨k',e',q'⟩:=q3
  cases e'
  exact ite_ff ⟨H3,I3,q'⟩
 |true=>
  refine ite_tt (test_last (thn (hc a6 s3 σ H3 _ I3 q3) fun w' s4 ⟨z',H4,I4,r4,q4⟩=>thn (ho' a6 s4 σ H4 y z' u w' _ I4 r2 r4 q4) fun d' s5 ⟨z2,H5,I5,r5,k2,e2,q5⟩=> ?_))
  subst e2
  cases r5
  exact D7 ⟨H5,I5,q5⟩
theorem zIN:(sizeLine:Nat)<2 ^ 63:=by rw[Bt];decide
theorem zO8:OpR X (Dz .Add) (fun x y H Q=> ∃i j,x= .str i/\y= .str j/\i.length+j.length<=sizeLine/\Q (.str (i++j)) H):=by
 intro a6 s σ H x y v u Q I rx ry h
 obtain⟨i,j,rfl,rfl,hz,q⟩:=h
 obtain⟨t,rfl⟩:=rx
 obtain⟨t',rfl⟩:=ry
 exact add_str (fun t' tk=>⟨.str (i++j),H,I.tok _,⟨_,rfl⟩,q⟩) hz
theorem zH0{x:V}{us:List Value}(r:Vals [x] us): ∃u,us=[u]/\RelV x u:=by
 cases r with
 |cons r1 r2=>cases r2;exact⟨_,rfl,r1⟩
theorem zSC{x y:V}{us:List Value}(r:Vals [x,y] us): ∃u w',us=[u,w']/\RelV x u/\RelV y w':=by
 cases r with
 |cons r1 r2=>
  cases r2 with
  |cons r3 r4=>cases r4;exact⟨_,_,rfl,r1,r3⟩
theorem zL3(hc:X.calm=true):zBW X (.builtin "max") (fun xs H Q=> ∃i j,xs=[.int i,.int j]/\Q (.int (if j>i then j else i)) H):=by
 intro a6 s σ H xs us Q I r h
 obtain⟨i,j,rfl,q⟩:=h
 obtain⟨u,w',rfl,⟨t,rfl⟩,⟨t',rfl⟩⟩:=zSC r
 refine max_two_ints (I.ok.hd hc) fun h' tk k=>⟨_,H,I.kept k,?_,q⟩
 by_cases hj:j>i
 ·rw[if_pos hj,if_pos hj];exact⟨_,rfl⟩
 ·rw[if_neg hj,if_neg hj];exact⟨_,rfl⟩
theorem zI6(hc:X.calm=true):zBW X (.builtin "min") (fun xs H Q=> ∃i j,xs=[.int i,.int j]/\Q (.int (if j<i then j else i)) H):=by
 intro a6 s σ H xs us Q I r h
 obtain⟨i,j,rfl,q⟩:=h
 obtain⟨u,w',rfl,⟨t,rfl⟩,⟨t',rfl⟩⟩:=zSC r
 refine min_two_ints (I.ok.hd hc) fun h' tk k=>⟨_,H,I.kept k,?_,q⟩
 by_cases hj:j<i
 ·rw[if_pos hj,if_pos hj];exact⟨_,rfl⟩
 ·rw[if_neg hj,if_neg hj];exact⟨_,rfl⟩
end
structure ObjM(h:Heap)(x dx C:Addr)(mA:Str->Option Value):Prop where
 obj:h.get? x=some (Ls C dx)
 ns:h.Ns1 dx mA
 ne:dx≠x
theorem zQS{h:Heap}{dx:Addr}{mA:Str->Option Value}(n:h.Ns1 dx mA): ∃od,h.get? dx=some od/\ ∀name,W.lookIn name od=some (mA name):=by
 obtain⟨o,es,ep,ho,hd,hk,_,hm⟩:=n
 refine⟨o,ho,fun name=> ?_⟩
 have e:=hm name
 unfold nsFind findBy at e
 rw[<- Array.find?_toList] at e
 unfold W.lookIn
 rw[hd]
 dsimp only
 split
 ·rename_i y q
  rw[q] at e
  exact congrArg some e
 ·rename_i q
  rw[q] at e
  have a:es.toList.any (·.refKey)=false:=by
   rw[List.any_eq_false]
   intro y hy
   obtain⟨z,t,ny⟩:=hk y (Array.mem_toList_iff.mp hy)
   simp[DictEntry.refKey,ny]
  have a': ¬es.toList.any (·.refKey)=true:=by rw[a];exact Cn
  rw[if_neg a']
  exact congrArg some e
theorem ObjM.look{h:Heap}{x dx C:Addr}{mA:Str->Option Value}(I:ObjM h x dx C mA): ∃od,W.InstAt h x (Ls C dx) C (some od)/\ ∀name,W.lookIn name od=some (mA name):=
 let ⟨od,ho,hl⟩:=zQS I.ns
 ⟨od,⟨I.obj,rfl,rfl,ho⟩,hl⟩
theorem RelO.some_of{v:V}{o:Option Value}(r:RelO (some v) o): ∃u,o=some u/\RelV v u:=by
 cases o with
 |none=>exact(show False from r).elim
 |some u=>exact⟨u,rfl,r⟩
section
variable{P:Aw}{w:World}{H H':Hp}{h h':Heap}{a C dx:Addr}{fs fs':List (Str×V)}
theorem zWR(hok:HOk P w H h)(e:H a=some (.ins C dx fs)): ∃mA,ObjM h a dx C mA/\(∀f,RelO (fs.lookup f) (mA f))/\Lu mA (fs.map (·.1))/\fs.length<=1000/\H dx=some (.own a):=by
 obtain⟨d,z,ne,ob,mA,n,r,q⟩:=(show zCR P w H h a (.ins C dx fs) from hok a _ e)
 exact⟨mA,⟨ob,n,ne⟩,r,q,z,d⟩
end
structure Cls(K:Ad)(C:Addr):Prop where
 pg:W.plainGet K C Str.empty=true
 hd:W.hasDictIn K C=true
 po:W.plainOver K C=true
 sa:W.findIn K (.ref C) "__setattr__"=some (some (.builtin "object.__setattr__"))
theorem Cls.get{K:Ad}{C:Addr}(c:Cls K C)(f:Str):W.plainGet K C f=true:=c.pg
section
variable{X:Cx}{a6:List (Addr×Obj)}{σ:St}{H:Hp}{s:A7}{A:C3}{E:Value->A7->Prop}{Q:Value->A7->Prop}{c:Value}{b:Bool}
inductive TyOf(K:Ad)(H:Hp):V->Value->Prop where
 |non:TyOf K H .non (.type "NoneType")
 |bl (x:Bool):TyOf K H (.bl x) (.type "bool")
 |int (i:Int):TyOf K H (.int i) (.type "int")
 |str (x:Str):TyOf K H (.str x) (.type "str")
 |flt (x:UInt64):TyOf K H (.flt x) (.type "float")
 |lst {a:Addr} {xs:List V} (e:H a=some (.lst xs)):TyOf K H (.ref a) (.type "list")
 |frz {a:Addr} {o:Obj} {xs:List V} (e:H a=some (.frz o (.lst xs))):TyOf K H (.ref a) (.type "list")
 |tup {a:Addr} {xs:List V} (e:H a=some (.tup xs)):TyOf K H (.ref a) (.type "tuple")
 |dK {a:Addr} {kvs:List (Key×V)} (e:H a=some (.dK kvs)):TyOf K H (.ref a) (.type "dict")
 |dT {a:Addr} {kvs:List (List Key×V)} (e:H a=some (.dT kvs)):TyOf K H (.ref a) (.type "dict")
 |ins {a C dx:Addr} {fs:List (Str×V)} (e:H a=some (.ins C dx fs)) (cl:Cls K C) (ha:W.findIn K (.ref C) "__class__"=some (some (.builtin "object.__class__")))
   (hn:W.specialIn K (.builtin "object.__class__") "__get__"=some (some (.builtin "getset_descriptor.__get__"))) (htk:W.takesIn K (.builtin "object.__class__")=some true)
   (hm:W.mroIn K C (.type "object")=some true):TyOf K H (.ref a) (.ref C)
theorem zFO{x:V}{u t:Value}(I:Inv X a6 σ H s)(rx:RelV x u)(ty:TyOf X.K H x t)(e:W.kitOne X.K t c=some b)(h: ∀tk,Q (.bool b) {s with toks:=tk}):
  wpAny (model X.prog X.w) A (call (.builtin "isinstance") [u,c]) Q E s:=by
 cases ty with
 |non=>cases (show u=Value.none from rx);exact Dr W.kitx_none I.kIn True.intro e (fun z=>nomatch z) h
 |bl y=>cases (show u=Lg y from rx);exact Dr W.kitx_bool I.kIn True.intro e (fun z=>nomatch z) h
 |int i=>obtain⟨t,q⟩:=(show∃t,u=Kg i t from rx);cases q;exact Dr W.kitx_int I.kIn True.intro e (fun z=>nomatch z) h
 |str y=>obtain⟨t,q⟩:=(show∃t,u=Kh y t from rx);cases q;exact Dr W.kitx_str I.kIn True.intro e (fun z=>nomatch z) h
 |flt y=>obtain⟨t,q⟩:=(show∃t,u=M4 y t from rx);cases q;exact Dr W.kitx_float I.kIn True.intro e (fun z=>nomatch z) h
 | @lst a xs ea=>
  cases (show u=Ax a from rx)
  obtain⟨_,_,n,_,h1⟩:=(show zCR X.prog X.w H s.heap a (.lst xs) from I.hok a _ ea)
  exact Dr Ir I.kIn ⟨_,h1,rfl⟩ e (fun z=>nomatch z) h
 | @frz a ob xs ea=>
  cases (show u=Ax a from rx)
  obtain⟨_,_,_,n,_,h1⟩:=(show zCR X.prog X.w H s.heap a (.frz ob (.lst xs)) from I.hok a _ ea)
  exact Dr Ir I.kIn ⟨_,h1,rfl⟩ e (fun z=>nomatch z) h
 | @tup a xs ea=>
  cases (show u=Ax a from rx)
  obtain⟨_,_,_,p⟩:=(show zCR X.prog X.w H s.heap a (.tup xs) from I.hok a _ ea)
  obtain⟨o,h1,h2,_⟩:=p
  exact Dr W.kitx_tuple I.kIn ⟨o,h1,h2⟩ e (fun z=>nomatch z) h
 | @dK a kvs ea=>
  cases (show u=Ax a from rx)
  obtain⟨_,_,vs,_,p⟩:=(show zCR X.prog X.w H s.heap a (.dK kvs) from I.hok a _ ea)
  obtain⟨o,es,ep,h1,h2,_⟩:=p
  exact Dr W.kitx_dict I.kIn ⟨o,h1,h2.1⟩ e (fun z=>nomatch z) h
 | @dT a kvs ea=>
  cases (show u=Ax a from rx)
  obtain⟨_,_,xs,_,o,es,ep,h1,h2,_⟩:=(show zCR X.prog X.w H s.heap a (.dT kvs) from I.hok a _ ea)
  exact Dr W.kitx_dict I.kIn ⟨o,h1,h2.1⟩ e (fun z=>nomatch z) h
 | @ins a C dx fs ea cl ha hn htk hm=>
  cases (show u=Ax a from rx)
  obtain⟨mA,O,_⟩:=zWR I.hok ea
  obtain⟨od,J,_⟩:=O.look
  exact Dr (W.kitx_own (cl.get _) cl.hd ha hn htk hm) I.kIn J e (fun z=>nomatch z) h
end
structure Room(k:Nat)(A:C3):Prop where
 hd:A.handled=none
 dp:A.depth+3*k+5<recursionLimit
 un:A.units+16*k+200<cLine
theorem Room.mono{j k:Nat}{A:C3}(r:Room k A)(h:j<=k):Room j A:=⟨r.hd,by have:=r.dp;omega,by have:=r.un;omega⟩
theorem Room.deeper{k:Nat}{A:C3}(r:Room (k+1) A)(env:Env):Room k (A.deeper env):=
 ⟨r.hd,by have:=r.dp;show A.depth+1+3*k+5<_;omega,by have:=r.un;show A.units+3+16*k+200<_;omega⟩
theorem Room.depth{k:Nat}{A:C3}(r:Room k A):A.depth<recursionLimit:=by have:=r.dp;omega
theorem Room.units{k:Nat}{A:C3}(r:Room k A):A.units+64<cLine:=by have:=r.un;omega
def tNil:TA:=fun _ H Q=>Q [] H
def zO0(ta:TE)(tr:TA):TA:=fun σ H Q=>ta σ H fun x H1=>tr σ H1 fun xs H2=>Q (x::xs) H2
section
variable{X:Cx}{e:Expr}{es:List Expr}{te:TE}{t:TA}{pos:Pos}
theorem zBT:PA X [] tNil:=fun _ _ _ _ H Q I h=>F4 ⟨[],H,I,.nil,h⟩
theorem zAO(ha:PE X e te)(hr:PA X es t)(hs:A2 (e::es) X.env=(false,eval e X.env)::A2 es X.env:=by rfl):PA X (e::es) (zO0 te t):=by
 intro pos a6 s σ H Q I h
 rw[hs]
 show wpAny _ _ (spliced ((false,eval e X.env)::Dc pos (A2 es X.env))) _ _ s
 refine E1 (thn (ha a6 s σ H _ I h) fun u s1 ⟨x,H1,I1,r1,q1⟩=> ?_)
 exact thn (hr pos a6 s1 σ H1 _ I1 q1) fun us s2 ⟨xs,H2,I2,r2,q2⟩=>⟨x::xs,H2,I2,.cons r1 r2,q2⟩
def tTup(t:TA):TE:=fun σ H Q=>t σ H fun xs H1=>xs.length<=sizeLine/\ ∀p,H1 p=none->Q (.ref p) (upd H1 p (.tup xs))
def tLst(t:TA):TE:=fun σ H Q=>t σ H fun xs H1=>xs.length<=sizeLine/\ ∀p,H1 p=none->Q (.ref p) (upd H1 p (.lst xs))
theorem zQC{x1}(h:PA X es t):PE X (.Tuple es x1 pos) (tTup t):=by
 intro a6 s σ H Q I hq
 refine wpAny_Tuple_spliced (thn (h pos a6 s σ H _ I hq) fun us s1 ⟨xs,H1,I1,r,z,q⟩=>⟨by rw[<- r.length];exact z,?_⟩)
 have hf:H1 s1.heap.objs.size=none:=I1.hok.fresh (Ae _)
 refine⟨.ref s1.heap.objs.size,upd H1 s1.heap.objs.size (.tup xs),I1.laid (t':=s1.toks) (fun b u e=>A1 _ e) (Ae _) ?_,rfl,q _ hf⟩
 exact⟨z,us,r,⟨_,Ai _ rfl,rfl,_,rfl⟩⟩
theorem zZ1(h:PA X es t):PE X (.List es pos) (tLst t):=by
 intro a6 s σ H Q I hq
 refine wpAny_List_spliced (thn (h pos a6 s σ H _ I hq) fun us s1 ⟨xs,H1,I1,r,z,q⟩=>⟨by rw[<- r.length];exact z,?_⟩)
 have hf:H1 s1.heap.objs.size=none:=I1.hok.fresh (Ae _)
 refine⟨.ref s1.heap.objs.size,upd H1 s1.heap.objs.size (.lst xs),I1.laid (t':=s1.toks) (fun b u e=>A1 _ e) (Ae _) ?_,rfl,q _ hf⟩
 exact⟨z,us,0,r,Ai _ rfl⟩
end
abbrev Sp:=List V->Hp->VK->XK->Prop
abbrev CXT:=List Env->Hp->A7->XK->Value->A7->Prop
structure Env0(P:Aw)(w:World)(K:Ad)(mg:Str->Option Value)(base:Heap)(A:C3)(outer:List Env)(s:A7)(H:Hp):Prop where
 frames:A.frames=some outer
 mod:Mod K mg base
 bs: ∀b o,base.get? b=some o->s.heap.get? b=some o/\H b=none
 bsz:base.objs.size<=s.heap.objs.size
 funs:s.heap.FunFrames base outer
 frf: ∀b∈frs outer,H b=none
 hok:HOk P w H s.heap
 bare:Hn s.gens
def CE(outer:List Env)(P:Aw)(w:World)(H:Hp)(s:A7)(Q:VK)(u:Value)(s':A7):Prop:=
 ∃v H',s'.os=s.os/\Hn s'.gens/\Un (frs outer) [] H H' s.heap s'.heap/\HOk P w H' s'.heap/\RelV v u/\Q v H'
def CR(CX:CXT)(outer:List Env)(P:Aw)(w:World)(H:Hp)(s:A7)(Q:VK)(E:XK)(r:Result)(s':A7):Prop:=
 match r with
 | .ok (.ret u)=>CE outer P w H s Q u s'
 | .ok _=>False
 | .error e=>CX outer H s E e s'
structure FnOk(P:Aw)(w:World)(K:Ad)(mg:Str->Option Value)(base:Heap)(CX:CXT)(k:Nat)(f:Addr)(fd:D9)(ps:List Str)(sp:Sp):Prop where
 len: ∀vs H Q E,sp vs H Q E->vs.length=ps.length
 run: ∀(A:C3) (outer:List Env) (s:A7) (H:Hp) (args:Args) (us:List Value) (vs:List V) (Q:VK) (E:XK),Room k A->Env0 P w K mg base A outer s H->Km s fd args (ps.zip us)->Vals vs us->sp vs H Q E→
  Iu (model P w) A (.call (.ref f) args) (CR CX outer P w H s Q E) s
section
variable{X:Cx}{a6:List (Addr×Obj)}{σ:St}{H:Hp}{s s':A7}
theorem Inv.env0(I:Inv X a6 σ H s):Env0 X.prog X.w X.K X.mg X.base X.A X.stack s H:=
 ⟨I.ok.frames,I.ok.mod,I.bs,Df I.ok.bsz I.sz,I.stack,I.stkFree,I.hok,I.bare⟩
theorem Inv.after{Q:VK}{u:Value}(I:Inv X a6 σ H s)(h:CE X.stack X.prog X.w H s Q u s'):EP X a6 σ Q u s':=by
 obtain⟨v,H',os,bare,un,hok,r,q⟩:=h
 obtain⟨hh,g,d,t,os'⟩:=s'
 obtain rfl:os'=s.os:=os
 exact⟨v,H',I.call (h':=hh) (g':=g) (d':=d) (t':=t) (ch:=[]) un hok bare (fun b z=>absurd z (by simp)),r,q⟩
end
def zVB(sp:Sp)(dvs:List V)(E:XK)(t:TA):TE:=fun σ H Q=>t σ H fun vs H1=>sp (vs++dvs) H1 Q E
def zJV(K:Ad)(fd:D9)(ps:List Str)(ds:List Value):Prop:=
 ∀(s:A7) (us:List Value),K.In s.heap->(us++ds).length=ps.length->Km s fd ⟨us,[]⟩ (ps.zip (us++ds))
theorem zJV.all{K:Ad}{fd:D9}{ps:List Str}(h: ∀us:List Value,us.length=ps.length->bindArgs fd ⟨us,[]⟩=pure (ps.zip us)):zJV K fd ps []:=fun s us _ hl=>by
 rw[Cq] at hl⊢
 exact .of_eq (h us hl)
def zRV(CX:CXT)(X:Cx)(E:XK):Prop:= ∀(a6:List (Addr×Obj)) (σ:St) (H:Hp) (s:A7) (e:Value) (s':A7),Inv X a6 σ H s->CX X.stack H s E e s'->X.xe e s'
section
variable{X:Cx}{CX:CXT}{k:Nat}{f C:Addr}{fd:D9}{ps:List Str}{sp:Sp}{dvs:List V}{ds:List Value}{E:XK}{x m:Str}{p pos aj:Pos}{e o:Expr}{es:List Expr}{ta:TE}{t:TA}
theorem zU5{a6:List (Addr×Obj)}{σ:St}{H:Hp}{s:A7}{Q:VK}{us:List Value}{vs:List V}(F:FnOk X.prog X.w X.K X.mg X.base CX k f fd ps sp)(hr:Room k X.A)(hb:zJV X.K fd ps ds)(hd:Vals dvs ds)(hx:zRV CX X E)
  (I:Inv X a6 σ H s) (r:Vals vs us) (h:sp (vs++dvs) H Q E):wpAny (model X.prog X.w) X.A (call (.ref f) us) (EP X a6 σ Q) X.xe s:=by
 have r2:Vals (vs++dvs) (us++ds):=r.append hd
 have hl:(us++ds).length=ps.length:=by rw[<- r2.length];exact F.len _ _ _ _ h
 refine wpAny_call (Jw (F.run X.A X.stack s H ⟨us,[]⟩ (us++ds) (vs++dvs) Q E hr I.env0 (hb s us I.kIn hl) r2 h) fun r s' hq=> ?_)
 cases r with
 |error e=>exact hx a6 σ H s e s' I hq
 |ok fl=>
  cases fl with
  |ret u=>exact I.after hq
  |next=>exact E6 hq
  |brk=>exact E6 hq
  |cont=>exact E6 hq
theorem zQD(F:FnOk X.prog X.w X.K X.mg X.base CX k f fd ps sp)(hr:Room k X.A)(hg:Gl X x)(hm:X.mg x=some (.ref f))(hk:Ep X.K (.ref f)=true)(hb:zJV X.K fd ps ds)(hd:Vals dvs ds)(hx:zRV CX X E)
  (ha:PA X (e::es) t) (hdb:(x==("__debug__":Str))=false:=by decide) (he:A2 (e::es) X.env=(false,eval e X.env)::A2 es X.env:=by rfl) (hpl:(Dc pos (A2 es X.env)).any (·.1)=false:=by rfl):
  PE X (.Call (.Name x p) (e::es) [] pos) (zVB sp dvs E t):=by
 intro a6 s σ H Q I h
 refine Dg (zQT I hg hm ?_ hdb)
 refine W.callWith_K (h₀:=X.base) I.ok.mod.kin hk (thn (ha pos a6 s σ H _ I h) fun us s1 ⟨vs,H1,I1,r,q⟩=>⟨I1.kIn,?_⟩) he hpl
 exact zU5 F hr hb hd hx I1 r q
end
structure zAF(N P:List Str)(sc:Scope):Prop where
 kind:sc.kind= .function
 co:sc.isCoroutine=false
 gen:sc.isGenerator=false
 nd:N.Nodup
 pre:N.take P.length=P
 par: ∀x∈P,sc.names.lookup x=some .local∨sc.names.lookup x=some .cell
 nofree: ∀y∈sc.names,y.2≠ .free
theorem zLA{kindOf:Str->Option NameKind}{x:Str}: ∀{binds:List (Str×Value)} {m:Str->Option Value},(∀v,(x,v)∉binds)->bindL kindOf binds m x=m x
 | [],_,_ => rfl
 | (n,v) :: r,m,h => by
  unfold bindL
  rw[zLA fun w hw=>h w (Ag _ hw)]
  split
  ·have : x ≠ n := by rintro rfl;exact h v Ak
   simp[this]
  ·rfl
theorem zLC{kindOf:Str->Option NameKind}{x:Str}: ∀{binds:List (Str×Value)} {m:Str->Option Value},(∀v,(x,v)∉binds)->bindC kindOf binds m x=m x
 | [],_,_ => rfl
 | (n,v) :: r,m,h => by
  unfold bindC
  rw[zLC fun w hw=>h w (Ag _ hw)]
  split
  ·rfl
  ·have : x ≠ n := by rintro rfl;exact h v Ak
   simp[this]
theorem zLB{kindOf:Str->Option NameKind}{x:Str}{v:Value}: ∀{P:List Str} {vs:List Value} {i:Nat} {m:Str->Option Value},P.Nodup->P[i]? =some x->vs[i]? =some v->kindOf x=some .local→
  bindL kindOf (P.zip vs) m x=some v
 |[],_,_,_,_,h,_,_=>by simp at h
 |_::_,[],_,_,_,_,h,_=>by simp at h
 |p::P,w::vs,0,m,nd,h1,h2,hk=>by
  simp at h1 h2;subst h1;subst h2
  show bindL kindOf ((p,w)::P.zip vs) m p=_
  unfold bindL
  rw[zLA fun v hv=>(Bv.mp nd).1 (Hr hv).1,if_pos hk]
  simp
 |p::P,w::vs,i+1,m,nd,h1,h2,hk=>by
  show bindL kindOf ((p,w)::P.zip vs) m x=_
  unfold bindL
  exact zLB (i:=i) (Bv.mp nd).2 (by simpa using h1) (by simpa using h2) hk
theorem zLD{kindOf:Str->Option NameKind}{x:Str}{v:Value}: ∀{P:List Str} {vs:List Value} {i:Nat} {m:Str->Option Value},P.Nodup->P[i]? =some x->vs[i]? =some v->kindOf x≠some .local→
  bindC kindOf (P.zip vs) m x=some v
 |[],_,_,_,_,h,_,_=>by simp at h
 |_::_,[],_,_,_,_,h,_=>by simp at h
 |p::P,w::vs,0,m,nd,h1,h2,hk=>by
  simp at h1 h2;subst h1;subst h2
  show bindC kindOf ((p,w)::P.zip vs) m p=_
  unfold bindC
  rw[zLC fun v hv=>(Bv.mp nd).1 (Hr hv).1,if_neg hk]
  simp
 |p::P,w::vs,i+1,m,nd,h1,h2,hk=>by
  show bindC kindOf ((p,w)::P.zip vs) m x=_
  unfold bindC
  exact zLD (i:=i) (Bv.mp nd).2 (by simpa using h1) (by simpa using h2) hk
noncomputable def zFZ(N:List Str)(vs:List V):St:=vs.map some++B4 (N.length - vs.length) none
noncomputable def cxOf(CX:CXT)(P:Aw)(w:World)(K:Ad)(mg:Str->Option Value)(base:Heap)(N:List Str)(qual:Str)(scope:Scope)(f:Addr)(cd:Value)(A:C3)(outer:List Env)(s:A7)(H:Hp)(E:XK):Cx where
 prog:=P
 w:=w
 K:=K
 mg:=mg
 base:=base
 A:=A.deeper (Gk qual scope s.heap.objs.size f cd)
 N:=N
 s₀:=s
 H₀:=H
 env:=Gk qual scope s.heap.objs.size f cd
 outer:=outer
 stack:=Gk qual scope s.heap.objs.size f cd::outer
 ex:=[]
 calm:=true
 fn:=fun _=>true
 pn:=[]
 xe:=fun e s'=>wpAny (model P w) (A.deeper (Gk qual scope s.heap.objs.size f cd)) (leaving (Gk qual scope s.heap.objs.size f cd) e) (fun _ s''=>CX outer H s E e s'') (fun e' s''=>CX outer H s E e' s'') s'
theorem zNR{sc:Scope}{n:Nat}{x:Str}(h:sc.names.lookup x=some .cell): ∃c,(cellsFrom n sc.names []).lookup x=some c:=by
 have q:=K2 sc.names n [] (.inl h)
 exact Option.isSome_iff_exists.mp q
theorem zQZ{CX:CXT}{P:Aw}{w:World}{K:Ad}{mg:Str->Option Value}{base:Heap}{N ps:List Str}{qual:Str}{scope:Scope}{f:Addr}{cd:Value}{A:C3}{outer:List Env}{s s1:A7}{H:Hp}{E:XK}{us:List Value}{vs:List V}
  (S:zAF N ps scope) (hd:A.handled=none) (e0:Env0 P w K mg base A outer s H) (hl:vs.length=ps.length) (r:Vals vs us)
  (x : InCallC s s.heap.objs.size (bindL (Gk qual scope s.heap.objs.size f cd).kindOf (ps.zip us) fun _ => none) (cellsFrom (s.heap.objs.size + 1) scope.names []) (bindC (Gk qual scope s.heap.objs.size f cd).kindOf (ps.zip us) fun _ => none) s1) :
  Inv (cxOf CX P w K mg base N qual scope f cd A outer s H E) [] (zFZ N vs) H s1:=by
 have hpl:ps.length<=N.length:=by have:=congrArg List.length S.pre;rw[Bf] at this;omega
 obtain⟨h1,tk,rfl,hk⟩:=x.done
 have noA: ∀b:Addr,b∉(cxOf CX P w K mg base N qual scope f cd A outer s H E).ex:=fun b z=>absurd (show b∈([]:List Addr) from z) (by simp)
 refine⟨⟨e0.mod,S.kind,rfl,rfl,Ae _,fun y z c h1 h2=> ?_,fun y hy=> ?_,fun y c _ h=> ?_,fun _=>hd,Around.frames_deeper e0.frames,.inr ⟨rfl,rfl⟩,fun b z=>absurd z (noA b),e0.bs,e0.bsz,fun b _ _=>noA b,fun b z=>absurd z (noA b),e0.funs,e0.frf⟩,
  rfl,e0.bare,Un.kept hk,⟨_,x.toInCall.ns,fun i y v h1 h2 h3=> ?_⟩,fun y c h=>⟨_,x.cell y c h⟩,e0.hok.fresh (Ae _),fun y c h=> ?_,fun p hp=>absurd (show p∈([]:List (Addr×Obj)) from hp) (by simp),e0.hok.kept hk,?_⟩
 ·exact name_of_addr x.apart (Bu h1) (Bu h2)
 ·have hy:scope.names.lookup y=some .cell∨scope.names.lookup y=some .free:=hy
  rcases hy with hy|hy
  ·exact zNR hy
  ·exact absurd rfl (S.nofree _ (Bu hy))
 ·exact Jv (x.above y c (Bu h))
 ·have hi:i<vs.length:=by
   unfold zFZ at h2
   by_cases hi:i<vs.length
   ·exact hi
   ·rw [Ar (by simpa using hi)] at h2
    rw[Cr] at h2
    split at h2<;>cases h2
  have ha:vs[i]? =some v:=by
   unfold zFZ at h2
   rw[A6 (by simpa using hi),C7] at h2
   cases e:vs[i]? with
   |none=>rw[e] at h2;cases h2
   |some a=>rw[e] at h2;cases h2;rfl
  obtain⟨u,hu,rv⟩:=r.get ha
  have hp:ps[i]? =some y:=by rw[<- S.pre,C1 (by omega)];exact h1
  have ndP:ps.Nodup:=by rw[<- S.pre];exact S.nd.sublist (List.take_sublist _ _)
  refine⟨u,rv,?_⟩
  rcases S.par y (Cu hp) with k|k
  ·exact .inl ⟨k,zLB ndP hp hu k⟩
  ·obtain⟨c,e⟩:=zNR (n:=s.heap.objs.size+1) k
   refine .inr ⟨.inl k,c,e,?_⟩
   have q:=x.cell y c e
   rw[zLD ndP hp hu (by show scope.names.lookup y≠_;rw[k];decide)] at q
   exact q
 ·exact e0.hok.fresh (Jv (x.above y c (Bu h)))
 ·unfold zFZ
  show _=N.length
  rw[Bg,Bi,Hs]
  omega
theorem yB4{CX:CXT}{P:Aw}{w:World}{K:Ad}{mg:Str->Option Value}{base:Heap}{k:Nat}{f:Addr}{name qual:Str}{params:Arguments}{body:List Stmt}{scope:Scope}{dV kV doc pm cdv ct oc:Value}{an od:Option Addr}
  {osl:Array (Option Value)} {N ps:List Str} {sp:Sp} (lk:K.lookup f=some ⟨oc,od,.func (Fs name qual params body scope dV kV doc pm an cdv ct),osl⟩) (hcd:Ga K cdv qual=true) (S:zAF N ps scope)
  (len: ∀vs H Q E,sp vs H Q E->vs.length=ps.length)
  (az: ∀(A:C3) (outer:List Env) (s:A7) (H:Hp) (vs:List V) (Q:VK) (E:XK),Room k (A.deeper (Gk qual scope s.heap.objs.size f cdv))->sp vs H Q E→
   ∃t,PSs (cxOf CX P w K mg base N qual scope f cdv A outer s H E) body t/\t {nx:=fun _ H'=>Q .non H',rt:=Q} (zFZ N vs) H):
  FnOk P w K mg base CX (k+1) f (Fs name qual params body scope dV kV doc pm an cdv ct) ps sp:=by
 refine⟨len,fun A outer s H args us vs Q E hr e0 hb r hsp=> ?_⟩
 have hl:=len _ _ _ _ hsp
 have KX:K.In s.heap:=e0.mod.kin.keeps fun b o e=>(e0.bs b o e).1
 have lim:s.heap.NoLimit:=e0.mod.nolimit.keeps fun b o e=>(e0.bs b o e).1
 have ln: ∀y∈ps.zip us,scope.names.lookup y.1=some .local∨(scope.names.lookup y.1=some .cell/\((cellsFrom (s.heap.objs.size+1) scope.names []).lookup y.1).isSome=true):=fun⟨n,v⟩ hy=>by
  rcases S.par n (Hr hy).1 with q|q
  ·exact .inl q
  ·exact .inr ⟨q,K2 _ _ _ (.inl q)⟩
 refine codeAny_call_function hr.depth (KX _ _ lk) rfl S.co S.gen rfl (W.codeRec_of KX hcd) (hb _ _ _ _ ?_)
 refine wpAny_newFunctionEnv_cells S.kind ln fun env he s1 x=> ?_
 subst he
 refine⟨lim.keeps x.toInCall.keep,codeAny_func ?_⟩
 obtain⟨t,ht,hq⟩:=az A outer s H vs Q E (hr.deeper _) hsp
 have I:Inv (cxOf CX P w K mg base N qual scope f cdv A outer s H E) [] (zFZ N vs) H s1:=zQZ S hr.hd e0 hl r x
 refine Br (ht [] s1 (zFZ N vs) H _ I hq) (fun fl s' hs=> ?_) fun e s' hs=>hs
 have fin: ∀{σ':St} {H':Hp} {v:V} {u:Value},Inv (cxOf CX P w K mg base N qual scope f cdv A outer s H E) [] σ' H' s'->RelV v u->Q v H'->CE outer P w H s Q u s':=
  fun{σ' H' v u} J rv q=>⟨v,H',J.os,J.bare,J.base,J.hok,rv,q⟩
 cases fl with
 |ret u=>
  obtain⟨v,σ',H',J,rv,q⟩:=hs
  exact fin J rv q
 |next=>
  obtain⟨σ',H',J,q⟩:=hs
  exact fin (v:=V.non) (u:=Value.none) J rfl q
 |brk=>
  obtain⟨_,_,_,q⟩:=hs
  exact E6 q
 |cont=>
  obtain⟨_,_,_,q⟩:=hs
  exact E6 q
section
variable{X:Cx}{x:Str}{p pos:Pos}{e:Expr}{es:List Expr}{t:TA}{id T:String}{r:List V->Hp->VK->Prop}
def tCB(r:List V->Hp->VK->Prop)(t:TA):TE:=fun σ H Q=>t σ H fun vs H1=>r vs H1 Q
theorem zH8(hc:zBW X (.builtin id) r)(hg:Gl X x)(hm:X.mg x=none)(hv:As x=some (.builtin id))(ha:PA X (e::es) t)(hn:x≠ "__name__":=by decide) (hdb:(x==("__debug__":Str))=false:=by decide)
  (he:A2 (e::es) X.env=(false,eval e X.env)::A2 es X.env:=by rfl) (hpl:(Dc pos (A2 es X.env)).any (·.1)=false:=by rfl):PE X (.Call (.Name x p) (e::es) [] pos) (tCB r t):=by
 intro a6 s σ H Q I h
 refine Dg (zHQ I hg hm hv ?_ hn hdb)
 exact PyProof.Rows.callWith_builtin1 (thn (ha pos a6 s σ H _ I h) fun us s1 ⟨vs,H1,I1,r1,q1⟩=>hc a6 s1 σ H1 vs us Q I1 r1 q1) he hpl
theorem zDA(hc:zBW X (.type T) r)(hg:Gl X x)(hm:X.mg x=none)(hv:As x=some (.type T))(ha:PA X (e::es) t)(hn:x≠ "__name__":=by decide) (hdb:(x==("__debug__":Str))=false:=by decide)
  (he:A2 (e::es) X.env=(false,eval e X.env)::A2 es X.env:=by rfl) (hpl:(Dc pos (A2 es X.env)).any (·.1)=false:=by rfl):PE X (.Call (.Name x p) (e::es) [] pos) (tCB r t):=by
 intro a6 s σ H Q I h
 refine Dg (zHQ I hg hm hv ?_ hn hdb)
 exact Cp (thn (ha pos a6 s σ H _ I h) fun us s1 ⟨vs,H1,I1,r1,q1⟩=>hc a6 s1 σ H1 vs us Q I1 r1 q1) he hpl
end
end L2
namespace HT
open PySem PyProof.Rows
section
variable{prog:Aw}{w:World}{A:C3}{E:Value->A7->Prop}{s:A7}
theorem zWZ{t b:Addr}{vs ws:List Value}{Q:Value->A7->Prop}(ht:IsTup s.heap t vs.toArray)(hb:IsTup s.heap b ws.toArray)(hv:vs≠[])
  (h1:ws=[]->Q (.ref t) s) (h2:ws≠[]->Q (.ref s.heap.objs.size) {s with heap:=s.heap.push {cls:= .type "tuple",data:= .seq (vs++ws).toArray}})
  (hsz:vs.length+ws.length<=sizeLine):wpAny (model prog w) A (Dz .Add (.ref t) (.ref b)) Q E s:=by
 obtain⟨⟨cls,dd,data,sl⟩,ho,hc,n,hd⟩:=id ht
 obtain⟨⟨lx,dd2,data2,sl2⟩,ho2,hc2,n2,hd2⟩:=id hb
 simp only at hc hd hc2 hd2
 subst hc hd hc2 hd2
 have e:vs.toArray++ws.toArray=(vs++ws).toArray:=by simp
 by_cases hw:ws=[]
 ·exact Ht ⟨_,ho,rfl⟩ ⟨_,ho2,rfl⟩ Hd J6 Ez Er (Eh _ _)
   (tuple_addW1 t b vs.toArray ws.toArray n n2 dd dd2 sl sl2 (by simpa using hv) (by simp[hw])) ⟨ho,ho2,h1 hw⟩
 ·refine Ht ⟨_,ho,rfl⟩ ⟨_,ho2,rfl⟩ Hd J6 Ez Er (Eh _ _)
   (tuple_addW2 t b vs.toArray ws.toArray n n2 dd dd2 sl sl2 (by simpa using hv) (by simpa using hw) (by rw[Af,Af];exact hsz)) ⟨ho,ho2,?_⟩
  rw[e]
  exact h2 hw
noncomputable def sIx(n d:Nat):Option Int->Nat
 |none=>d
 |some v=>if v<0 then(v+(n:Int)).toNat else min v.toNat n
theorem zMS(n d:Nat):sIx n d none=d:=rfl
theorem zPK(n d k:Nat):sIx n d (some (k:Int))=min k n:=by
 show(if(k:Int)<0 then((k:Int)+(n:Int)).toNat else min (k:Int).toNat n)=min k n
 rw[if_neg (by omega),F5]
theorem zY5(n d:Nat)(hd:d<=n)(o:Option Int):sIx n d o<=n:=by
 cases o with
 |none=>exact hd
 |some v=>
  show(if v<0 then(v+(n:Int)).toNat else min v.toNat n)<=n
  by_cases hv:v<0
  ·rw[if_pos hv];omega
  ·rw[if_neg hv];exact Nat.min_le_right _ _
theorem zRJ(v:Int)(n d:Nat):(if v<0 then max (v+(n:Int)) 0 else min v (n:Int))=((sIx n d (some v):Nat):Int):=by
 show(if v<0 then max (v+(n:Int)) 0 else min v (n:Int))=(((if v<0 then(v+(n:Int)).toNat else min v.toNat n):Nat):Int)
 by_cases hv:v<0
 ·simp only[if_pos hv];omega
 ·simp only[if_neg hv];omega
theorem zOJ(lo hi:Option Int)(n:Nat):Ec lo hi 1 (n:Int)=(((sIx n 0 lo:Nat):Int),((sIx n n hi:Nat):Int)):=by
 have h1: ¬((1:Int)<0):=by omega
 unfold Ec
 simp only[h1,if_false]
 refine Prod.ext ?_ ?_
 ·cases lo with
  |none=>rfl
  |some v=>exact zRJ v n 0
 ·cases hi with
  |none=>rfl
  |some v=>exact zRJ v n n
theorem zO6(i j:Nat):Dk (i:Int) (j:Int) 1=j - i:=by
 unfold Dk
 have h1:(1:Int)>0:=by omega
 simp only[h1,if_true,Int.ediv_one]
 split<;>omega
theorem zIB{v:Value}{o:Option Int}{Q:Option Int->A7->Prop}(p:IsPart v o)(h:Q o s):wpAny (model prog w) A (Kc v) Q E s:=by
 cases p with
 |none=>exact slicePart_none h
 |int i t=>exact slicePart_int h
theorem zE2{sl:Addr}{vl vu:Value}{lo hi:Option Int}{n:Nat}{Q:Int×Int×Nat->A7->Prop}(hs:s.heap.IsSliceOf sl vl vu .none)(pl:IsPart vl lo)(pu:IsPart vu hi)
  (h:Q (((sIx n 0 lo:Nat):Int),1,sIx n n hi - sIx n 0 lo) s):wpAny (model prog w) A (G7 (.ref sl) (pure (n:Int))) Q E s:=by
 obtain⟨os,hos,hcs,hds⟩:=id hs
 unfold G7 L4
 refine A0 (A0 (Cs hos hds (x:=vl) rfl (A0 (Cs hos hds (x:=vu) rfl (A0 (Cs hos hds (x:= .none) rfl (A9 ?_)))))))
 refine A0 (slicePart_none ?_)
 show wpAny _ _ (if((1:Int)==0)=true then _ else _) _ _ s
 rw[if_neg (by decide)]
 refine A0 (zIB pl (A0 (zIB pu (A0 (A9 ?_)))))
 show wpAny _ _ (match Ec lo hi 1 (n:Int) with|(lo,hi)=>pure (lo,(1:Int),Dk lo hi 1)) _ _ s
 rw[zOJ lo hi n]
 show wpAny _ _ (pure (((sIx n 0 lo:Nat):Int),(1:Int),Dk ((sIx n 0 lo:Nat):Int) ((sIx n n hi:Nat):Int) 1)) _ _ s
 rw[zO6]
 exact A9 h
theorem zSX(xs:Array Value)(i k:Nat):((At k).filterMap fun(m:Nat)=>xs[((i:Int)+(m:Int)*1).toNat]?).toArray=((xs.toList.drop i).take k).toArray:=by
 have e:(fun(m:Nat)=>xs[((i:Int)+(m:Int)*1).toNat]?)=fun m=>xs[i+m]? :=by
  funext m
  have:((i:Int)+(m:Int)*1).toNat=i+m:=by omega
  rw[this]
 rw[e]
 have:=pick_run xs i k
 rw[List.filterMap_map] at this
 have e2:((fun x=>xs[x]?)∘fun x=>i+x)=fun m=>xs[i+m]? :=rfl
 rw[e2] at this
 rw[this]
theorem zG4{t sl:Addr}{items:Array Value}{vl vu:Value}{lo hi:Option Int}{Q:Value->A7->Prop}(ht:IsTup s.heap t items)(hs:s.heap.IsSliceOf sl vl vu .none)(pl:IsPart vl lo)(pu:IsPart vu hi)
  (hw: ¬(sIx items.size 0 lo=0/\sIx items.size items.size hi=items.size))
  (h:Q (.ref s.heap.objs.size) {s with heap:=s.heap.push {cls:= .type "tuple",data:= .seq ((items.toList.drop (sIx items.size 0 lo)).take (sIx items.size items.size hi - sIx items.size 0 lo)).toArray}})
  (hsz:items.size<=sizeLine):wpAny (model prog w) A (Gv (.ref t) (.ref sl)) Q E s:=by
 have ao:sizeOk (.seq ((items.toList.drop (sIx items.size 0 lo)).take (sIx items.size items.size hi - sIx items.size 0 lo)).toArray):=by
  show((items.toList.drop (sIx items.size 0 lo)).take (sIx items.size items.size hi - sIx items.size 0 lo)).toArray.size<=sizeLine
  rw[Af,Bf,K3,Fo]
  omega
 have hj:sIx items.size items.size hi<=items.size:=zY5 _ _ (Ae _) hi
 obtain⟨os,hos,hcs,hds⟩:=id hs
 have hTs:s.TypeIs (.ref sl) "slice":=⟨os,hos,hcs⟩
 unfold Gv
 try with_reducible refine Be ?_
 first|refine A0 (A9 ?_)|skip
 refine A0 (Gm ht.typeIs (by decide) ?_)
 refine A0 (C8 (name:=Av "__getitem__") ht.typeIs Cw
  (Cv Cw ht.typeIs entry_tuple_getitem ?_ (args_tuple_getitem _ _)))
 show wpAny _ _ (G8 (.ref t)>>=_) _ _ s
 refine A0 (tupleItemsOf_ ht ?_)
 refine A0 (Gb hTs ?_)
 rw[if_pos (by decide)]
 refine A0 (zE2 hs pl pu ?_)
 have hno: ¬((((sIx items.size 0 lo:Nat):Int)==0 && (1:Int)==1 && (sIx items.size items.size hi - sIx items.size 0 lo)==items.size)=true):=by
  intro q
  rw[A3,A3] at q
  have q1:((sIx items.size 0 lo:Nat):Int)=0:=eq_of_beq q.1.1
  have q2:sIx items.size items.size hi - sIx items.size 0 lo=items.size:=eq_of_beq q.2
  exact hw ⟨by omega,by omega⟩
 show wpAny _ _ (if(((sIx items.size 0 lo:Nat):Int)==0 && (1:Int)==1 && (sIx items.size items.size hi - sIx items.size 0 lo)==items.size)=true then _ else _) _ _ s
 rw[if_neg hno,zSX]
 first
  |exact A0 (m:=Ds _) (C6 (A9 ⟨_,rfl,A9 h⟩) ao)
  |exact A0 (m:=Ds _) (C6 (A0 (A9 (A9 ⟨_,rfl,A9 h⟩))) ao)
  |exact A0 (A0 (m:=Ds _) (C6 (A9 (A9 ⟨_,rfl,A9 h⟩)) ao))
  |exact A0 (A0 (m:=Ds _) (C6 (A9 ⟨_,rfl,A9 h⟩) ao))
end
end HT
namespace L2
open PySem PySem.Spec PyProof.Rows
abbrev TO:=St->Hp->(Option Int->Hp->Prop)->Prop
def PO(X:Cx)(e:Option Expr)(t:TO):Prop:=
 ∀(a6:List (Addr×Obj)) (s:A7) (σ:St) (H:Hp) (Q:Option Int->Hp->Prop),Inv X a6 σ H s->t σ H Q→
  wpAny (model X.prog X.w) X.A (evalPart e X.env) (fun u s'=> ∃o H',Inv X a6 σ H' s'/\IsPart u o/\Q o H') X.xe s
def zVA:TO:=fun _ H Q=>Q none H
def yC4(t:TE):TO:=fun σ H Q=>t σ H fun x H1=> ∃i,x= .int i/\Q (some i) H1
section
variable{X:Cx}{e:Expr}{te:TE}{lo hi:Option Expr}{tl th:TO}{pos p2:Pos}
theorem zVV:PO X none zVA:=by
 intro a6 s σ H Q I h
 rw[evalPart_none]
 exact A9 ⟨none,H,I,.none,h⟩
theorem zVU(h:PE X e te):PO X (some e) (yC4 te):=by
 intro a6 s σ H Q I hw
 rw[evalPart_some]
 refine thn (h a6 s σ H _ I hw) fun u s1 ⟨x,H1,I1,r1,q1⟩=> ?_
 obtain⟨i,rfl,q⟩:=q1
 obtain⟨t,rfl⟩:=r1
 exact⟨some i,H1,I1,.int i t,q⟩
def SlR(X:Cx)(r:V->Option Int->Option Int->Hp->VK->Prop):Prop:=
 ∀(a6:List (Addr×Obj)) (s:A7) (σ:St) (H:Hp) (x:V) (v vl vu:Value) (lo hi:Option Int) (sl:Addr) (Q:VK),Inv X a6 σ H s->RelV x v->s.heap.IsSliceOf sl vl vu .none->IsPart vl lo->IsPart vu hi->r x lo hi H Q→
  ∃T id,typeLookup (.type T) "__getitem__"=pure (some (.builtin id))/\s.TypeIs v T/\wpAny (model X.prog X.w) X.A (Gv v (.ref sl)) (EP X a6 σ Q) X.xe s
theorem SlR.or{r r':V->Option Int->Option Int->Hp->VK->Prop}(h:SlR X r)(h':SlR X r'):SlR X (fun x lo hi H Q=>r x lo hi H Q∨r' x lo hi H Q):=by
 intro a6 s σ H x v vl vu lo hi sl Q I rx hs pl pu q
 rcases q with q|q
 ·exact h a6 s σ H x v vl vu lo hi sl Q I rx hs pl pu q
 ·exact h' a6 s σ H x v vl vu lo hi sl Q I rx hs pl pu q
def tSl(r:V->Option Int->Option Int->Hp->VK->Prop)(te:TE)(tl th:TO):TE:=fun σ H Q=>te σ H fun x H1=>tl σ H1 fun l H2=>th σ H2 fun u H3=>r x l u H3 Q
theorem zSY{r:V->Option Int->Option Int->Hp->VK->Prop}(hr:SlR X r)(he:PE X e te)(hl:PO X lo tl)(hu:PO X hi th):PE X (.Subscript e (.Slice lo hi none p2) pos) (tSl r te tl th):=by
 intro a6 s σ H Q I h
 refine Subscript_ (thn (he a6 s σ H _ I h) fun v s1 ⟨x,H1,I1,r1,q1⟩=> ?_)
 refine wpAny_Slice (thn (hl a6 s1 σ H1 _ I1 q1) fun vl s2 ⟨l,H2,I2,pl,q2⟩=>thn (hu a6 s2 σ H2 _ I2 q2) fun vu s3 ⟨u,H3,I3,pu,q3⟩=> ?_)
 rw[evalPart_none]
 refine A9 ?_
 have I4:Inv X a6 σ H3 {s3 with heap:=s3.heap.push {cls:= .type "slice",data:= .fields #[vl,vu,.none]}}:=I3.kept (t':=s3.toks) fun b ob q=>A1 _ q
 obtain⟨T,id,hT,ht,hg⟩:=hr a6 {s3 with heap:=s3.heap.push {cls:= .type "slice",data:= .fields #[vl,vu,.none]}} σ H3 x v vl vu l u s3.heap.objs.size Q I4 r1 (M7 ..) pl pu q3
 show wpAny (model X.prog X.w) X.A (subscriptTail e (.Slice lo hi none p2) v (.ref s3.heap.objs.size)) (EP X a6 σ Q) X.xe {s3 with heap:=s3.heap.push {cls:= .type "slice",data:= .fields #[vl,vu,.none]}}
 exact Lm (ops:=[.ref s3.heap.objs.size,v]) ht hT hg (by with_unfolding_all rfl)
noncomputable def cutV(xs:List V)(lo hi:Option Int):List V:=(xs.drop (HT.sIx xs.length 0 lo)).take (HT.sIx xs.length xs.length hi - HT.sIx xs.length 0 lo)
theorem zI3(xs:List V)(lo hi:Option Int):(cutV xs lo hi).length<=xs.length:=by
 unfold cutV
 rw[Bf,K3]
 omega
def rSlT(K:Ad):V->Option Int->Option Int->Hp->VK->Prop:=fun x lo hi H Q=> ∃a xs,x= .ref a/\SqT K H a xs∧
 ¬(HT.sIx xs.length 0 lo=0/\HT.sIx xs.length xs.length hi=xs.length)/\ ∀p,H p=none->Q (.ref p) (upd H p (.tup (cutV xs lo hi)))
theorem zXN:SlR X (rSlT X.K):=by
 intro a6 s σ H x v vl vu lo hi sl Q I rx hs pl pu h
 obtain⟨a,xs,rfl,hx,hw,q⟩:=h
 cases rx
 obtain⟨its,r,ht,hz⟩:=I.tuple hx
 have a9:its.toArray.size=xs.length:=by rw[Af];exact r.length.symm
 refine⟨"tuple",_,PyProof.Rows.slot_tuple_getitem.lookup,ht.typeIs,?_⟩
 refine HT.zG4 ht hs pl pu (by rw[a9];exact hw) ?_ (by rw[a9];exact hz)
 rw[a9]
 refine⟨.ref s.heap.objs.size,_,I.laid (t':=s.toks) (o:= .tup (cutV xs lo hi)) (fun b ob q=>A1 _ q) (Ae _) ?_,rfl,q _ (I.hok.fresh (Ae _))⟩
 exact⟨Df (zI3 xs lo hi) hz,_,(r.drop (HT.sIx xs.length 0 lo)).take (HT.sIx xs.length xs.length hi - HT.sIx xs.length 0 lo),Gj _ _⟩
theorem Vals.nil_iff{xs:List V}{us:List Value}(r:Vals xs us):us=[]↔xs=[]:=by
 cases r with
 |nil=>simp
 |cons _ _=>simp
end
noncomputable def ixN(n:Nat)(i:Int):Option Nat:=if 0<=i then(if i<n then some i.toNat else none) else if -(n:Int)<=i then some (i+n).toNat else none
noncomputable def atI{α:Type}(xs:List α)(i:Int):Option α:=(ixN xs.length i).bind fun j=>xs[j]?
theorem zQY{n:Nat}{i:Int}{j:Nat}(h:ixN n i=some j):seqIndex? i n=some j/\j<n/\ -(n:Int)<=i/\i<n:=by
 unfold ixN at h
 by_cases h0:0<=i
 ·rw[if_pos h0] at h
  by_cases h1:i<n
  ·rw[if_pos h1] at h
   have e:i.toNat=j:=Ba h
   exact⟨by rw[Kn h0 h1,e],by omega,by omega,h1⟩
  ·rw[if_neg h1] at h;cases h
 ·rw[if_neg h0] at h
  by_cases h1: -(n:Int)<=i
  ·rw[if_pos h1] at h
   have e:(i+n).toNat=j:=Ba h
   exact⟨by rw[Jx (by omega) h1,e],by omega,h1,by omega⟩
  ·rw[if_neg h1] at h;cases h
theorem zM5{α:Type}{xs:List α}{i:Int}{v:α}(h:atI xs i=some v): ∃j,seqIndex? i xs.length=some j/\xs[j]? =some v/\j<xs.length/\ -(xs.length:Int)<=i/\i<xs.length:=by
 unfold atI at h
 cases e:ixN xs.length i with
 |none=>rw[e] at h;cases h
 |some j=>
  rw[e] at h
  obtain⟨h1,h2,h3,h4⟩:=zQY e
  exact⟨j,h1,h,h2,h3,h4⟩
theorem zHD{α:Type}(xs:List α)(v:α):atI (xs++[v]) (-1)=some v:=by
 have hl:(xs++[v]).length=xs.length+1:=by simp
 have e:ixN (xs++[v]).length (-1)=some xs.length:=by
  unfold ixN
  rw[hl,if_neg (by decide),if_pos (by omega)]
  congr 1
  omega
 unfold atI
 rw[e]
 show(xs++[v])[xs.length]? =some v
 simp
def zM6(b:Expr):Prop:= ∀o i,subscripted b false o i=operate [o,i] (Gv o i)
def IxR(X:Cx)(r:R2):Prop:=
 ∀(value slice:Expr) (a6:List (Addr×Obj)) (s:A7) (σ:St) (H:Hp) (x y:V) (v u:Value) (Q:VK),Inv X a6 σ H s->RelV x v->RelV y u->r x y H Q→
  subscripted slice false v u=operate [v,u] (Gv v u)->wpAny (model X.prog X.w) X.A (subscriptTail value slice v u) (EP X a6 σ Q) X.xe s
def MtR(X:Cx)(id:String)(r:V->List V->Hp->VK->Prop):Prop:=
 ∀(a6:List (Addr×Obj)) (s:A7) (σ:St) (H:Hp) (x:V) (xs:List V) (v:Value) (us:List Value) (Q:VK),Inv X a6 σ H s->RelV x v->Vals xs us->r x xs H Q→
  wpAny (model X.prog X.w) X.A (call (.builtin id) (v::us)) (EP X a6 σ Q) X.xe s
section
variable{X:Cx}{a b:Expr}{ta tb:TE}{pos:Pos}
theorem IxR.or{r r':R2}(h:IxR X r)(h':IxR X r'):IxR X (fun x y H Q=>r x y H Q∨r' x y H Q):=by
 intro value slice a6 s σ H x y v u Q I rx ry q hs
 rcases q with q|q
 ·exact h value slice a6 s σ H x y v u Q I rx ry q hs
 ·exact h' value slice a6 s σ H x y v u Q I rx ry q hs
theorem yDE{r:R2}(hr:IxR X r)(ha:PE X a ta)(hb:PE X b tb)(hs:zM6 b):PE X (.Subscript a b pos) (tOp r ta tb):=by
 intro a6 s σ H Q I h
 exact Subscript_ (binT ha hb I h fun v u s2 x y H2 I2 rx ry q=>hr a b a6 s2 σ H2 x y v u Q I2 rx ry q (hs _ _))
def rIxL(K:Ad):R2:=fun x y H Q=> ∃p xs i v,x= .ref p/\y= .int i/\SqL K H p xs/\atI xs i=some v/\Q v H
def rIxT(K:Ad):R2:=fun x y H Q=> ∃p xs i v,x= .ref p/\y= .int i/\SqT K H p xs/\atI xs i=some v/\Q v H
def rIxS:R2:=fun x y H Q=> ∃z i c,x= .str z/\y= .int i/\z.length<=sizeLine/\atI z.cps.toList i=some c/\Q (.str ⟨#[c]⟩) H
theorem zWO:IxR X (rIxL X.K):=by
 intro value slice a6 s σ H x y v u Q I rx ry h hs
 obtain⟨p,xs,i,z,rfl,rfl,hq,he,q⟩:=h
 cases rx
 obtain⟨t,rfl⟩:=ry
 obtain⟨its,r,pl,hz⟩:=I.list hq
 obtain⟨j,h1,h2,h3,h4,h5⟩:=zM5 he
 obtain⟨w,ew,rw'⟩:=r.get h2
 have hl:=r.length
 have hn:=zIN
 have fin:EP X a6 σ Q w s:=⟨z,H,I,rw',q⟩
 by_cases h0:0<=i
 ·have hj:i.toNat=j:=by
   rw[Kn h0 h5] at h1
   exact Ba h1
  exact item_listR pl.isList h0 (by omega) (by rw[hj];simpa using ew) fin hs
 ·have hj:(i+(its.toArray.size:Int)).toNat=j:=by
   rw[Jx (by omega) h4] at h1
   rw[Af,<- hl]
   exact Ba h1
  exact Hh (x:=w) pl.isList.typeIs slot_list_getitem.lookup
   (wpAny_getItem_list_neg (Q:=fun r s'=>r=w/\EP X a6 σ Q r s') pl.isList (by omega) (by rw[Af]<;>omega) (by omega) (by rw[hj];simpa using ew) ⟨rfl,fin⟩) hs
theorem yAW:IxR X (rIxT X.K):=by
 intro value slice a6 s σ H x y v u Q I rx ry h hs
 obtain⟨p,xs,i,z,rfl,rfl,hq,he,q⟩:=h
 cases rx
 obtain⟨t,rfl⟩:=ry
 obtain⟨its,r,pl,hz⟩:=I.tuple hq
 obtain⟨j,h1,h2,h3,h4,h5⟩:=zM5 he
 obtain⟨w,ew,rw'⟩:=r.get h2
 have hl:=r.length
 have hn:=zIN
 have fin:EP X a6 σ Q w s:=⟨z,H,I,rw',q⟩
 exact Hh (x:=w) pl.typeIs slot_tuple_getitem.lookup
  (getItem_tuple (j:=j) (Q:=fun r s'=>r=w/\EP X a6 σ Q r s') pl (by omega) (by omega) (by rw[Af,<- hl];exact h1) (by simpa using ew) ⟨rfl,fin⟩) hs
theorem yAX:IxR X rIxS:=by
 intro value slice a6 s σ H x y v u Q I rx ry h hs
 obtain⟨z,i,c,rfl,rfl,hz,he,q⟩:=h
 obtain⟨t,rfl⟩:=rx
 obtain⟨t',rfl⟩:=ry
 obtain⟨j,h1,h2,h3,h4,h5⟩:=zM5 he
 have hl:z.cps.toList.length=z.length:=by simp[Str.length]
 rw[hl] at h1 h4 h5
 have hn:=zIN
 exact Lm (typeIs_str s z t) slot_str_getitem.lookup (getItem_str (c:=c) (by
  have e1:decide (i< -(2 ^ 63:Int))=false:=decide_eq_false (by omega)
  have e2:decide (i≥2 ^ 63)=false:=decide_eq_false (by omega)
  rw[e1,e2,Bool.or_false]) (by rw[h1];simpa using h2) ⟨.str ⟨#[c]⟩,H,I.tok _,⟨_,rfl⟩,q⟩) hs
def rIx(K:Ad):R2:=fun x y H Q=>rIxL K x y H Q∨rIxT K x y H Q∨rIxS x y H Q
theorem yAY:IxR X (rIx X.K):=zWO.or (yAW.or yAX)
theorem zOB(its:List Value)(n j:Nat)(u:Value):D2 (·.setIfInBounds j u) {cls:= .type "list",data:= .seq its.toArray n}={cls:= .type "list",data:= .seq (its.set j u).toArray n}:=by simp[D2]
theorem Inv.lst{a6:List (Addr×Obj)}{σ:St}{H:Hp}{s:A7}{p:Addr}{xs:List V}(I:Inv X a6 σ H s)(h:H p=some (.lst xs)):
  ∃(its:List Value) (n:Nat),Vals xs its/\s.heap.get? p=some {cls:= .type "list",data:= .seq its.toArray n}/\xs.length<=sizeLine:=by
 obtain⟨z,its,n,r,e⟩:=I.hok p _ h
 exact⟨its,n,r,e,z⟩
theorem Inv.lstUpd{a6:List (Addr×Obj)}{σ:St}{H:Hp}{s:A7}{p:Addr}{xs ys:List V}{its its':List Value}{n n':Nat}{f:Obj->Obj}(I:Inv X a6 σ H s)(h:H p=some (.lst xs))
  (ho:s.heap.get? p=some {cls:= .type "list",data:= .seq its.toArray n}) (hf:f {cls:= .type "list",data:= .seq its.toArray n}={cls:= .type "list",data:= .seq its'.toArray n'}) (r:Vals ys its') (hz:ys.length<=sizeLine) (t:Nat):
  Inv X a6 σ (upd H p (.lst ys)) {s with heap:=s.heap.update p f,toks:=t}:=by
 have e:(s.heap.update p f).get? p=some {cls:= .type "list",data:= .seq its'.toArray n'}:=by rw[Hu f ho (by rw[hf]<;>rfl),hf]
 refine I.write (x:=p) (e:=p) (by rw[h];trivial) (.inl rfl) (fun b u hb q=>(Hi _ _ (C9 hb)).trans q) ⟨_,e⟩ ?_
 exact⟨hz,its',n',r,e⟩
def yCW:V->V->V->Hp->(Hp->Prop)->Prop:=fun o i v H Q=> ∃p xs k j,o= .ref p/\i= .int k/\H p=some (.lst xs)/\ixN xs.length k=some j/\Q (upd H p (.lst (xs.set j v)))
theorem zSM:PSet X yCW:=by
 intro a6 s σ H o i v ov iv u Q I ro ri rv h
 obtain⟨p,xs,k,j,rfl,rfl,hp,hj,q⟩:=h
 cases ro
 obtain⟨t,rfl⟩:=ri
 obtain⟨its,n,r,ho,hz⟩:=I.lst hp
 obtain⟨h1,h2,h3,h4⟩:=zQY hj
 have hl:=r.length
 have hn:=zIN
 have I':Inv X a6 σ (upd H p (.lst (xs.set j v))) {s with heap:=s.heap.update p (D2 (·.setIfInBounds j u))}:=
  I.lstUpd hp ho (zOB its n j u) (r.set rv j) (by rw[B9];exact hz) s.toks
 by_cases h0:0<=k
 ·have hk:k.toNat=j:=by
   rw[Kn h0 h4] at h1
   exact Ba h1
  exact W.ki_setAt ho h0 (by omega) (by rw[Af,<- hl];exact h4) (by rw[hk];exact⟨_,I',q⟩)
 ·have hk:(k+(its.toArray.size:Int)).toNat=j:=by
   rw[Jx (by omega) h3] at h1
   rw[Af,<- hl]
   exact Ba h1
  exact W.ki_setBack ho (by omega) (by rw[Af,<- hl];exact h3) (by omega) (by rw[hk];exact⟨_,I',q⟩)
theorem zK6(lo hi:Option Int)(n:Nat):(F6 lo hi none n).1=((HT.sIx n 0 lo:Nat):Int)/\(F6 lo hi none n).2.1=((HT.sIx n n hi:Nat):Int)/\(F6 lo hi none n).2.2=1:=by
 refine⟨?_,?_,rfl⟩
 ·cases lo with
  |none=>simp[F6,HT.sIx]
  |some i=>
   simp only[F6,HT.sIx,K4,show(1:Int)>0 by decide,if_true]
   by_cases h:i<0
   ·simp only[h,if_true]<;>omega
   ·simp only[h,if_false]<;>omega
 ·cases hi with
  |none=>simp[F6,HT.sIx]
  |some i=>
   simp only[F6,HT.sIx,K4,show(1:Int)>0 by decide,if_true]
   by_cases h:i<0
   ·simp only[h,if_true]<;>omega
   ·simp only[h,if_false]<;>omega
theorem zJ7(its:List Value)(lo hi:Option Int):slicePick its.toArray lo hi none=((its.drop (HT.sIx its.length 0 lo)).take (HT.sIx its.length its.length hi - HT.sIx its.length 0 lo)).toArray:=by
 obtain⟨h1,h2,h3⟩:=zK6 lo hi its.toArray.size
 unfold slicePick
 rw[h1,h2,h3]
 simp only[sliceRange_one,pick_run,Af]<;>rfl
def rSlL(K:Ad):V->Option Int->Option Int->Hp->VK->Prop:=fun x lo hi H Q=> ∃a xs,x= .ref a/\SqL K H a xs/\ ∀p,H p=none->Q (.ref p) (upd H p (.lst (cutV xs lo hi)))
theorem zVE:SlR X (rSlL X.K):=by
 intro a6 s σ H x v vl vu lo hi sl Q I rx hs pl pu h
 obtain⟨a,xs,rfl,hx,q⟩:=h
 cases rx
 obtain⟨its,r,ht,hz⟩:=I.list hx
 have a9:=r.length
 refine⟨"list",_,slot_list_getitem.lookup,ht.isList.typeIs,?_⟩
 refine wpAny_getItem_list_slice ht.isList hs pl pu .none (by simp) ?_ (by rw[Af]<;>omega)
 rw[zJ7,<- a9]
 refine⟨.ref s.heap.objs.size,_,I.laid (t':=s.toks) (o:= .lst (cutV xs lo hi)) (fun b ob q=>A1 _ q) (Ae _) ?_,rfl,q _ (I.hok.fresh (Ae _))⟩
 exact⟨Df (zI3 xs lo hi) hz,_,0,(r.drop (HT.sIx xs.length 0 lo)).take (HT.sIx xs.length xs.length hi - HT.sIx xs.length 0 lo),Ai _ rfl⟩
theorem zL6:zBW X (.builtin "len") (fun xs H Q=> ∃p ys,xs=[.ref p]/\(SqL X.K H p ys∨SqT X.K H p ys)/\Q (.int ys.length) H):=by
 intro a6 s σ H xs us Q I r h
 obtain⟨p,ys,rfl,hq,q⟩:=h
 obtain⟨u,rfl,rx⟩:=zH0 r
 cases rx
 have hn:=zIN
 rcases hq with hq|hq
 ·obtain⟨its,r',pl,hz⟩:=I.list hq
  have a9:=r'.length
  exact Calls.call_len_list pl.isList (by simp only[Af]<;>omega) ⟨.int ys.length,H,I.tok _,⟨s.toks+1,by rw[Af,a9]⟩,q⟩
 ·obtain⟨its,r',pl,hz⟩:=I.tuple hq
  have a9:=r'.length
  exact len_tuple pl (by simp only[Af]<;>omega) ⟨.int ys.length,H,I.tok _,⟨s.toks+1,by rw[Af,a9]⟩,q⟩
theorem zL5:zBW X (.builtin "len") (fun xs H Q=> ∃z,xs=[.str z]/\z.length<=sizeLine/\Q (.int z.length) H):=by
 intro a6 s σ H xs us Q I r h
 obtain⟨z,rfl,hz,q⟩:=h
 obtain⟨u,rfl,t,rfl⟩:=zH0 r
 have hn:=zIN
 exact len_str (by omega) ⟨.int z.length,H,I.tok _,⟨_,rfl⟩,q⟩
theorem zBW.or{f:Value}{r r':List V->Hp->VK->Prop}(h:zBW X f r)(h':zBW X f r'):zBW X f (fun xs H Q=>r xs H Q∨r' xs H Q):=by
 intro a6 s σ H xs us Q I rs q
 rcases q with q|q
 ·exact h a6 s σ H xs us Q I rs q
 ·exact h' a6 s σ H xs us Q I rs q
theorem zL4:zBW X (.type "list") (fun xs H Q=> ∃p ys,xs=[.ref p]/\(SqL X.K H p ys∨SqT X.K H p ys)/\ ∀l,H l=none->Q (.ref l) (upd H l (.lst ys))):=by
 intro a6 s σ H xs us Q I r h
 obtain⟨p,ys,rfl,hq,q⟩:=h
 obtain⟨u,rfl,rx⟩:=zH0 r
 cases rx
 have fin: ∀(its:List Value),Vals ys its->ys.length<=sizeLine-> ∀(h':Heap) (c':Nat),(∀b o',s.heap.get? b=some o'->h'.get? b=some o')→
   h'.get? s.heap.objs.size=some {cls:= .type "list",dict:=none,data:= .seq its.toArray c',slots:= #[]}->EP X a6 σ Q (.ref s.heap.objs.size) {s with heap:=h'}:=fun its r' hz h' c' kp e=>
  ⟨.ref s.heap.objs.size,_,I.laid (t':=s.toks) kp (Ae _) (show zCR X.prog X.w _ h' _ (.lst ys) from⟨hz,its,c',r',e⟩),rfl,q _ (I.hok.fresh (Ae _))⟩
 rcases hq with hq|hq
 ·obtain⟨its,r',pl,hz⟩:=I.list hq
  have a9:=r'.length
  obtain⟨o,ho,hc,n,hd⟩:=pl.isList
  exact call_list_seq p (.inl rfl) ho hc hd (fun h' c' kp e=>fin its r' hz h' c' kp e) (by simp only[Af]<;>omega)
 ·obtain⟨its,r',pl,hz⟩:=I.tuple hq
  have a9:=r'.length
  obtain⟨o,ho,hc,n,hd⟩:=pl
  exact call_list_seq p (.inr rfl) ho hc hd (fun h' c' kp e=>fin its r' hz h' c' kp e) (by simp only[Af]<;>omega)
theorem zJQ:zBW X (.type "tuple") (fun xs H Q=> ∃p ys,xs=[.ref p]/\((SqL X.K H p ys/\ ∀l,H l=none->Q (.ref l) (upd H l (.tup ys)))∨(SqT X.K H p ys/\Q (.ref p) H))):=by
 intro a6 s σ H xs us Q I r h
 obtain⟨p,ys,rfl,h⟩:=h
 obtain⟨u,rfl,rx⟩:=zH0 r
 cases rx
 rcases h with⟨hq,q⟩|⟨hq,q⟩
 ·obtain⟨its,r',pl,hz⟩:=I.list hq
  have a9:=r'.length
  refine call_tuple_list pl.isList (fun h' kp=> ?_) (by simp only[Af]<;>omega)
  have I1:Inv X a6 σ H {s with heap:=h'}:=I.kept (t':=s.toks) kp
  have I2:Inv X a6 σ (upd H h'.objs.size (.tup ys)) {s with heap:=h'.push {cls:= .type "tuple",data:= .seq its.toArray}}:=
   I1.laid (t':=s.toks) (fun b o e=>A1 _ e) (Ae _) (show zCR X.prog X.w _ _ _ (.tup ys) from⟨hz,its,r',Gj _ _⟩)
  exact⟨.ref h'.objs.size,_,I2,rfl,q _ (I1.hok.fresh (Ae _))⟩
 ·obtain⟨its,r',pl,hz⟩:=I.tuple hq
  exact call_tuple_same pl ⟨.ref p,H,I,rfl,q⟩
def tyV(K:Ad)(T:String)(x:V)(H:Hp):Prop:=match x with
 | .str _ => T = "str"
 | .int _ => T = "int"
 | .ref p => (T = "list" /\ ∃ xs,SqL K H p xs) ∨ (T = "tuple" /\ ∃ o,K.lookup p = some o /\ o.cls = .type "tuple" /\ o.dict = none) ∨
   (T= "dict" /\((∃kvs,H p=some (.dK kvs))∨ ∃kvs,H p=some (.dT kvs)))∨(T= "set" /\ ∃S n,H p=some (.set S n))
 |_=>False
theorem zXB{a6:List (Addr×Obj)}{σ:St}{H:Hp}{s:A7}{T:String}{x:V}{v:Value}(I:Inv X a6 σ H s)(r:RelV x v)(ty:tyV X.K T x H):
  s.TypeIs v T/\ ∀a,v= .ref a-> ∃ob,s.heap.get? a=some ob/\ob.dict=none:=by
 cases x with
 |str z=>
  obtain⟨t,rfl⟩:=r
  cases (show T= "str" from ty)
  exact⟨typeIs_str s z t,fun _ e=>nomatch e⟩
 |int i=>
  obtain⟨t,rfl⟩:=r
  cases (show T= "int" from ty)
  exact⟨typeIs_int s i t,fun _ e=>nomatch e⟩
 |ref p=>
  cases r
  rcases ty with⟨rfl,xs,hq⟩|⟨rfl,o,hk,hc,hd⟩|⟨rfl,hk⟩|⟨rfl,S,n,hk⟩
  ·obtain⟨its,_,pl,_⟩:=I.list hq
   refine⟨pl.isList.typeIs,fun a e=> ?_⟩
   cases e
   obtain⟨o,n,e,c,hd,_⟩:=pl
   exact⟨o,e,hd⟩
  ·refine ⟨⟨o,I.kIn p o hk,hc⟩,fun a e => ?_⟩
   cases e
   exact⟨o,I.kIn _ o hk,hd⟩
  ·have z: ∃o,s.heap.get? p=some o/\o.ExactDict:=by
    rcases hk with⟨kvs,hk⟩|⟨kvs,hk⟩
    ·obtain⟨_,_,_,_,o,_,_,e,ex,_⟩:=I.hok p _ hk
     exact⟨o,e,ex⟩
    ·obtain⟨_,_,_,_,o,_,_,e,ex,_⟩:=I.hok p _ hk
     exact⟨o,e,ex⟩
   obtain⟨o,e,ex⟩:=z
   refine⟨⟨o,e,ex.1⟩,fun a e2=> ?_⟩
   cases e2
   exact⟨o,e,ex.2.1⟩
  ·obtain⟨o,_,_,_,e,ex,_⟩:=I.hok p _ hk
   refine⟨⟨o,e,ex.1⟩,fun a e2=> ?_⟩
   cases e2
   exact⟨o,e,ex.2.1⟩
 |_=>exact E6 ty
def tBM(K:Ad)(T:String)(r:V->List V->Hp->VK->Prop)(to:TE)(t:TA):TE:=fun σ H Q=>to σ H fun x H1=>tyV K T x H1/\t σ H1 fun xs H2=>r x xs H2 Q
variable{o e:Expr}{es:List Expr}{to:TE}{t:TA}{name:Str}{aj a8:Pos}{T id:String}{r:V->List V->Hp->VK->Prop}
theorem yDF(pa:PlainAttrs T)(slot:Slot T name id)(hty:typeOf (.builtin id)=pure (.type "method_descriptor")) (hm:MtR X id r) (ho:PE X o to) (ha:PA X (e::es) t)
  (b9 : Es o name X.env (eval o X.env) = eval o X.env := by rfl)
  (cq : ((Dc a8 (A2 (e :: es) X.env)).all (fun x => !x.1) && (J7 a8 (Fu [] X.env)).all (fun x => x.1.isSome)
   && decide ((e::es).length+([]:List Fv).length+(if([]:List Fv).isEmpty then 0 else 1)<30))=true:=by rfl)
  (b8:(aj.endLine==a8.line)=true:=by rfl) (hs:A2 (e::es) X.env=(false,eval e X.env)::A2 es X.env:=by rfl) (au:(Dc a8 (A2 es X.env)).any (·.1)=false:=by rfl):
  PE X (.Call (.Attribute o name aj) (e::es) [] a8) (tBM X.K T r to t):=by
 intro a6 s σ H Q I h
 refine wpAny_Call_method_late b9 cq b8 rfl (thn (ho a6 s σ H _ I h) fun v s1 ⟨x,H1,I1,r1,ty,q1⟩=> ?_)
 obtain⟨h1,h2⟩:=zXB I1 r1 ty
 refine⟨T,id,pa,slot,hty,h1,h2,?_⟩
 have hA:=ha a8 a6 s1 σ H1 _ I1 q1
 rw[hs] at hA⊢
 refine Dx (by show(false || (Dc a8 (A2 es X.env)).any (·.1))=false;rw[au]<;>rfl) (Ea ?_)
 exact thn hA fun us s2 ⟨vs,H2,I2,r2,q2⟩=>hm a6 s2 σ H2 x vs v us Q I2 r1 r2 q2
end
def MtM(X:Cx)(id:String)(r:V->List V->Hp->VK->Prop):Prop:=
 ∀(a6:List (Addr×Obj)) (s:A7) (σ:St) (H:Hp) (x:V) (xs:List V) (v:Value) (us:List Value) (Q:VK),Inv X a6 σ H s->RelV x v->Vals xs us->r x xs H Q→
  wpAny (model X.prog X.w) X.A (call (.builtin id) (v::us)) (EP X a6 σ Q) X.xe s
theorem Vals.one: ∀{x:V} {us:List Value},Vals [x] us-> ∃u,us=[u]/\RelV x u
 |_,_,.cons r .nil=>⟨_,rfl,r⟩
theorem Vals.eraseIdx: ∀{xs:List V} {us:List Value} (i:Nat),Vals xs us->Vals (xs.eraseIdx i) (us.eraseIdx i)
 |_,_,_,.nil=> .nil
 |_,_,0,.cons _ t=>t
 |_,_,i+1,.cons r t=> .cons r (Vals.eraseIdx i t)
section
variable{X:Cx}{a6:List (Addr×Obj)}{σ:St}{H:Hp}{s:A7}{l b:Addr}{xs ys zs:List V}
theorem Inv.lset{its its':List Value}{n:Nat}{f:Array Value->Array Value}{t':Nat}(I:Inv X a6 σ H s)(hH:H l=some (.lst xs))
  (e:s.heap.get? l=some {cls:= .type "list",data:= .seq its.toArray n}) (hf:f its.toArray=its'.toArray) (hv:Vals ys its') (hz:ys.length<=sizeLine):
  Inv X a6 σ (upd H l (.lst ys)) {s with heap:=s.heap.update l (D2 f),toks:=t'}:=by
 have q:=PySem.IsL.update e f
 rw[hf] at q
 refine I.write (x:=l) (e:=l) (by rw[hH];exact trivial) (.inl rfl) (fun b' u hb hu=>(Hi s.heap (D2 f) (C9 hb)).trans hu) ⟨_,q⟩ ?_
 exact⟨hz,its',_,hv,q⟩
theorem Inv.lnew{its:List Value}{t':Nat}(I:Inv X a6 σ H s)(hv:Vals ys its)(hz:ys.length<=sizeLine):
  Inv X a6 σ (upd H s.heap.objs.size (.lst ys)) {s with heap:=s.heap.push {cls:= .type "list",data:= .seq its.toArray},toks:=t'}:=
 I.laid (fun _ _ q=>A1 _ q) (Ae _) ⟨hz,its,0,hv,Ai _ rfl⟩
theorem Inv.fresh(I:Inv X a6 σ H s):H s.heap.objs.size=none:=I.hok.fresh (Ae _)
theorem Inv.lstM(I:Inv X a6 σ H s)(hH:H l=some (.lst xs)):xs.length<=sizeLine/\ ∃(its:List Value) (n:Nat),Vals xs its/\xs.length=its.length/\s.heap.get? l=some {cls:= .type "list",data:= .seq its.toArray n}:=by
 obtain⟨z,its,n,r,e⟩:=I.hok l _ hH
 exact⟨z,its,n,r,r.length,e⟩
end
section
variable{X:Cx}
def zPZ:V->List V->Hp->VK->Prop:=fun x vs H Q=> ∃l xs y,x= .ref l/\vs=[y]/\H l=some (.lst xs)/\xs.length<sizeLine/\Q .non (upd H l (.lst (xs++[y])))
theorem zB8:MtM X "list.append" zPZ:=by
 intro a6 s σ H x vs v us Q I rx rv h
 obtain⟨l,xs,y,rfl,rfl,hH,hz,q⟩:=h
 cases rx
 obtain⟨u,rfl,ru⟩:=rv.one
 obtain⟨z,its,n,r,hl,e⟩:=I.lstM hH
 refine Ji F.slot_list_append ⟨_,e,rfl⟩ F.entry_list_append (F.args_list_append_2 _ _) (PySem.list_append l its.toArray n u (by rw[Af];omega)) ⟨e,?_⟩
 refine⟨.non,_,I.lset (its':=its++[u]) hH e (by simp) (r.append (.cons ru .nil)) ?_,rfl,q⟩
 rw[Bg,Dh]
 omega
end
section
variable{prog:Aw}{w:World}{A:C3}{E:Value->A7->Prop}{s:A7}
set_option maxRecDepth 100000 in
end
section
variable{κ:Type}[DecidableEq κ]
noncomputable def valV(kvs:List (κ×V))(k:κ):Option V:=(kvs.find? fun kv=>decide (kv.1=k)).map (·.2)
noncomputable def putK(kvs:List (κ×V))(k:κ)(v:V):List (κ×V):=
 if(kvs.any fun kv=>decide (kv.1=k))=true then kvs.map (fun kv=>if kv.1=k then(kv.1,v) else kv) else kvs++[(k,v)]
theorem zH6{p:κ×V}{r:List (κ×V)}{k:κ}(e:p.1=k):valV (p::r) k=some p.2:=by simp[valV,E2,e]
theorem zFE{p:κ×V}{r:List (κ×V)}{k:κ}(e: ¬p.1=k):valV (p::r) k=valV r k:=by simp[valV,E2,e]
theorem zJ4(k:κ): ∀kvs:List (κ×V),(kvs.any fun kv=>decide (kv.1=k))=(valV kvs k).isSome
 |[]=>rfl
 |p::r=>by
  rw[Fg]
  by_cases e:p.1=k
  ·simp only[zH6 e,decide_eq_true e,Bool.true_or,J8]
  ·rw[zFE e,decide_eq_false e,Ln];exact zJ4 k r
theorem zEZ(kvs:List (κ×V))(k:κ)(v:V):(putK kvs k v).length<=kvs.length+1:=by
 unfold putK
 split
 ·rw[Bi];omega
 ·rw[Bg,B0,Fw];omega
theorem zST{kvs:List (κ×V)}{k:κ}(v:V)(h:valV kvs k=none):putK kvs k v=kvs++[(k,v)]:=by
 unfold putK
 rw[zJ4,h]
 exact if_neg (by decide)
theorem RelO.isSome_eq{o:Option V}{u:Option Value}(r:RelO o u):o.isSome=u.isSome:=by
 cases o with
 |none=>cases u with
  |none=>rfl
  |some _=>exact(show False from r).elim
 |some _=>cases u with
  |none=>exact(show False from r).elim
  |some _=>rfl
theorem RelO.getD{o:Option V}{u:Option Value}{d:V}{d':Value}(r:RelO o u)(rd:RelV d d'):RelV (o.getD d) (u.getD d'):=by
 cases o with
 |none=>cases u with
  |none=>exact rd
  |some _=>exact(show False from r).elim
 |some _=>cases u with
  |none=>exact(show False from r).elim
  |some _=>exact r
theorem KV.val{kvs:List (κ×V)}{vs:List (κ×Value)}(r:KV kvs vs)(k:κ):RelO (valV kvs k) (Jj vs k):=by
 unfold KV at r
 induction r with
 | nil => exact True.intro
 | @cons p q ps qs h t ih=>
  obtain⟨h1,h2⟩:=h
  by_cases e:p.1=k
  ·have e':q.1=k:=h1.symm.trans e
   have b:Jj (q::qs) k=some q.2:=by simp[Jj,E2,e']
   rw[zH6 e,b];exact h2
  ·have e' : ¬ q.1 = k := fun z => e (h1.trans z)
   have b:Jj (q::qs) k=Jj qs k:=by simp[Jj,E2,e']
   rw[zFE e,b];exact ih
theorem KV.any{kvs:List (κ×V)}{vs:List (κ×Value)}(r:KV kvs vs)(k:κ):(kvs.any fun kv=>decide (kv.1=k))=vs.any fun kv=>decide (kv.1=k):=by
 unfold KV at r
 induction r with
 |nil=>rfl
 |cons h t ih=>rw[Fg,Fg,ih,h.1]
theorem KV.repl{kvs:List (κ×V)}{vs:List (κ×Value)}(r:KV kvs vs)(k:κ){y:V}{u:Value}(ry:RelV y u):
  KV (kvs.map fun kv=>if kv.1=k then(kv.1,y) else kv) (vs.map fun kv=>if kv.1=k then(kv.1,u) else kv):=by
 unfold KV at r⊢
 induction r with
 |nil=>exact .nil
 | @cons p q ps qs h t ih=>
  rw[An,An]
  refine .cons ?_ ih
  obtain⟨h1,h2⟩:=h
  by_cases e:p.1=k
  ·rw[if_pos e,if_pos (h1.symm.trans e)];exact⟨h1,ry⟩
  ·rw[if_neg e,if_neg (fun z=>e (h1.trans z))];exact⟨h1,h2⟩
theorem KV.put{kvs:List (κ×V)}{vs:List (κ×Value)}(r:KV kvs vs)(k:κ){y:V}{u:Value}(ry:RelV y u):KV (putK kvs k y) (Lw vs k u):=by
 unfold putK Lw
 rw[r.any k]
 by_cases e:(vs.any fun kv=>decide (kv.1=k))=true
 ·rw[if_pos e,if_pos e];exact r.repl k ry
 ·rw[if_neg e,if_neg e];exact M5 r ⟨rfl,ry⟩
theorem KV.length{kvs:List (κ×V)}{vs:List (κ×Value)}(r:KV kvs vs):kvs.length=vs.length:=J4 r
end
theorem zLT{P:Aw}{w:World}{k:Key}{u:Value}(r:RelV (kV k) u):(zBA P w).is k u=true:=by
 cases k with
 |inl i=>obtain⟨t,e⟩:=(show∃t,u=Kg i t from r);subst e;exact zLS P w i t
 |inr x=>obtain⟨t,e⟩:=(show∃t,u=Kh x t from r);subst e;exact zLR P w x t
theorem zKN{P:Aw}{w:World}: ∀{ks:List Key} {us:List Value},Vals (ks.map kV) us->ItemsAre (zBA P w) ks us
 |[],_,r=>by rw[Ce] at r;cases r;exact .nil
 |k::ks,_,r=>by
  rw[An] at r
  cases r with
  |cons h t=>exact .cons (zLT h) (zKN t)
abbrev KT(H:Hp):List (List Key×V)->List (List Key×Addr×Value)->Prop:=Paired fun p q=>p.1=q.1/\H q.2.1=some (.tup (p.1.map kV))/\RelV p.2 q.2.2
theorem KT.val{H:Hp}{kvs:List (List Key×V)}{xs:List (List Key×Addr×Value)}(r:KT H kvs xs)(k:List Key):RelO (valV kvs k) ((atKey xs k).map (·.2)):=by
 induction r with
 | nil => exact True.intro
 | @cons p q ps qs h t ih=>
  obtain⟨h1,_,h2⟩:=h
  by_cases e:p.1=k
  ·have e':q.1=k:=h1.symm.trans e
   have b:atKey (q::qs) k=some q.2:=by simp[atKey,E2,e']
   rw[zH6 e,b];exact h2
  ·have e' : ¬ q.1 = k := fun z => e (h1.trans z)
   have b:atKey (q::qs) k=atKey qs k:=by simp[atKey,E2,e']
   rw[zFE e,b];exact ih
theorem KT.repl{H:Hp}{kvs:List (List Key×V)}{xs:List (List Key×Addr×Value)}(r:KT H kvs xs)(k:List Key){y:V}{u:Value}(ry:RelV y u):
  KT H (kvs.map fun kv=>if kv.1=k then(kv.1,y) else kv) (xs.map (putAt k u)):=by
 induction r with
 |nil=>exact .nil
 | @cons p q ps qs h t ih=>
  rw[An,An]
  refine .cons ?_ ih
  obtain⟨h1,h2,h3⟩:=h
  unfold putAt
  by_cases e:p.1=k
  ·rw[if_pos e,if_pos (h1.symm.trans e)];exact⟨h1,h2,ry⟩
  ·rw[if_neg e,if_neg (fun z=>e (h1.trans z))];exact⟨h1,h2,h3⟩
theorem KT.put{H:Hp}{kvs:List (List Key×V)}{xs:List (List Key×Addr×Value)}(r:KT H kvs xs)(k:List Key){b:Addr}{y:V}{u:Value}(hb:H b=some (.tup (k.map kV)))(ry:RelV y u):
  KT H (putK kvs k y) (storedH xs k b u):=by
 have e:(kvs.any fun kv=>decide (kv.1=k))=(atKey xs k).isSome:=by rw[zJ4,(r.val k).isSome_eq,Option.isSome_map]
 unfold putK storedH
 rw[e]
 by_cases q:(atKey xs k).isSome=true
 ·rw[if_pos q,if_pos q];exact r.repl k ry
 ·rw[if_neg q,if_neg q];exact M5 r ⟨rfl,hb,ry⟩
theorem KT.keeps{H H':Hp}{kvs:List (List Key×V)}{xs:List (List Key×Addr×Value)}(r:KT H kvs xs)(ht: ∀b ys,H b=some (.tup ys)->H' b=some (.tup ys)):KT H' kvs xs:=
 Paired.mapP r fun _ _ z=>⟨z.1,ht _ _ z.2.1,z.2.2⟩
section
variable{P:Aw}{w:World}{H:Hp}{h:Heap}{a:Addr}
theorem zYB{u:HO}(ok:HOk P w H h)(e:Rd H a u):zCR P w H h a u:=e.ok ok
theorem zOG{kvs:List (Key×V)}(ok:HOk P w H h)(e:Rd H a (.dK kvs)):kvs.length<=sizeLine/\(a==De)=false/\ ∃vs,KV kvs vs/\h.DictOf (zBA P w) a vs:=
 show zCR P w H h a (.dK kvs) from zYB ok e
theorem yB8{kvs:List (Key×V)}(ok:HOk P w H h)(e:H a=some (.dK kvs)):kvs.length<=sizeLine/\(a==De)=false/\ ∃vs,KV kvs vs/\h.DictOf (zBA P w) a vs:=zOG ok (.inl e)
theorem zKM{ks:List Key}(ok:HOk P w H h)(e:H a=some (.tup (ks.map kV))):(tupleKind (zBA P w)).is h ks a:=by
 obtain⟨_,its,r,o,h1,h2,n,h3⟩:=(show zCR P w H h a (.tup (ks.map kV)) from ok a _ e)
 exact⟨o,its.toArray,n,h1,h2,h3,by simpa using zKN r⟩
theorem zOF{kvs:List (List Key×V)}(ok:HOk P w H h)(e:Rd H a (.dT kvs)):kvs.length<=sizeLine/\(a==De)=false∧
  ∃xs,KT H kvs xs/\h.DictOfH (tupleKind (zBA P w)) a xs:=by
 obtain⟨z,y,xs,r,o,es,ep,h1,h2,h3,h4,h5⟩:=(show zCR P w H h a (.dT kvs) from zYB ok e)
 refine⟨z,y,xs,r,o,es,ep,h1,h2,h3,h4,fun x hx=> ?_,h5⟩
 have all: ∀{l:List (List Key×V)} {m:List (List Key×Addr×Value)},KT H l m-> ∀x∈m,(tupleKind (zBA P w)).is h x.1 x.2.1:=by
  intro l m q
  induction q with
  | nil => intro x hx;exact nomatch hx
  | @cons p q ps qs hq t ih=>
   intro x hx
   rcases A8.mp hx with e|hx
   ·subst e
    exact zKM ok (by rw[<- hq.1];exact hq.2.1)
   ·exact ih x hx
 exact all r x hx
theorem yEY{kvs:List (List Key×V)}(ok:HOk P w H h)(e:H a=some (.dT kvs)):kvs.length<=sizeLine/\(a==De)=false∧
  ∃xs,KT H kvs xs/\h.DictOfH (tupleKind (zBA P w)) a xs:=zOF ok (.inl e)
end
def DGet(H:Hp)(a:Addr)(y:V)(r:Option V):Prop:=
 (∃kvs k,Rd H a (.dK kvs)/\y=kV k/\r=valV kvs k)∨ ∃kvs k b,Rd H a (.dT kvs)/\y= .ref b/\H b=some (.tup (k.map kV))/\r=valV kvs k
def DPut(H:Hp)(a:Addr)(y v:V)(H':Hp):Prop:=
 (∃kvs k,H a=some (.dK kvs)/\y=kV k/\kvs.length<sizeLine/\H'=upd H a (.dK (putK kvs k v)))∨
 ∃kvs k b,H a=some (.dT kvs)/\y= .ref b/\H b=some (.tup (k.map kV))/\kvs.length<sizeLine/\H'=upd H a (.dT (putK kvs k v))
theorem DGet.k{H:Hp}{a:Addr}{kvs:List (Key×V)}{k:Key}(e:H a=some (.dK kvs)):DGet H a (kV k) (valV kvs k):= .inl ⟨kvs,k,.inl e,rfl,rfl⟩
theorem DPut.k{H:Hp}{a:Addr}{kvs:List (Key×V)}{k:Key}{v:V}(e:H a=some (.dK kvs))(hl:kvs.length<sizeLine):DPut H a (kV k) v (upd H a (.dK (putK kvs k v))):= .inl ⟨kvs,k,e,rfl,hl,rfl⟩
section
variable{X:Cx}{a6:List (Addr×Obj)}{σ:St}{H:Hp}{s:A7}{a:Addr}{y v:V}{u r:Value}{o:Option V}{A:C3}{E:Value->A7->Prop}
theorem Inv.big(I:Inv X a6 σ H s):De<s.heap.objs.size:=by
 have h:mainGlobals<s.heap.objs.size:=(I.mod.glob.keeps I.bk).lt
 exact Jy (by decide) h
theorem zRG{Q:Value->A7->Prop}(hu:A.units+1<cLine)(I:Inv X a6 σ H s)(g:DGet H a y (some v))(ry:RelV y u)(h: ∀w' s',Inv X a6 σ H s'->RelV v w'->Q w' s'):
  wpAny (model X.prog X.w) A (Gv (.ref a) u) Q E s:=by
 rcases g with⟨kvs,k,e,ey,l⟩|⟨kvs,k,b,e,ey,eb,l⟩
 ·subst ey
  obtain⟨z,hd,vs,rel,dd⟩:=zOG I.hok e
  obtain⟨w',hw,rw'⟩:=RelO.some_of (v:=v) (o:=Jj vs k) (by rw[l];exact rel.val k)
  exact wpAny_getItem_of (zLT ry) dd.mapOf hw (h w' _ (I.tok _) rw')
 ·subst ey
  cases (show u=Ax b from ry)
  obtain⟨z,hd,xs,rel,dd⟩:=zOF I.hok e
  obtain⟨w',hw,rw'⟩:=RelO.some_of (v:=v) (o:=(atKey xs k).map (·.2)) (by rw[l];exact rel.val k)
  obtain⟨p,hp,hp2⟩:=Option.map_eq_some_iff.mp hw
  refine wpAny_getItem_heap (Et hu) (zKM I.hok eb) dd hp ?_
  rw[hp2]
  exact h w' _ (I.tok _) rw'
theorem zLZ{h':Heap}{t':Nat}{ob:HO}(I:Inv X a6 σ H s)(mu:Mut (H a))(hs:Dt a s.heap h')(he: ∃q,h'.get? a=some q)(new:zCR X.prog X.w (upd H a ob) h' a ob):
  Inv X a6 σ (upd H a ob) {s with heap:=h',toks:=t'}:=
 I.write (x:=a) (e:=a) mu (.inl rfl) (fun b q hb z=>(hs.2 b hb).trans z) he new
theorem zRD{P:Aw}{w:World}{H':Hp}{h':Heap}{kvs:List (Key×V)}{vs:List (Key×Value)}(z:kvs.length<=sizeLine)(hd:(a==De)=false)(rel:KV kvs vs)(dd:h'.DictOf (zBA P w) a vs):
  zCR P w H' h' a (.dK kvs):=⟨z,hd,vs,rel,dd⟩
theorem zRF{H':Hp}{Q:Unit->A7->Prop}(hu:A.units+1<cLine)(I:Inv X a6 σ H s)(g:DPut H a y v H')(ry:RelV y u)(rv:RelV v r)(h: ∀s',Inv X a6 σ H' s'->Q () s'):
  wpAny (model X.prog X.w) A (setItem (.ref a) u r) Q E s:=by
 rcases g with⟨kvs,k,e,ey,l,eH⟩|⟨kvs,k,b,e,ey,eb,l,eH⟩
 ·subst ey eH
  obtain⟨z,hd,vs,rel,dd⟩:=yB8 I.hok e
  have hz:vs.length<=sizeLine:=by rw[<- rel.length];exact z
  have hl:(putK kvs k v).length<=sizeLine:=by have:=zEZ kvs k v;omega
  refine wpAny_setItem_pairs (hsz:=hz) (zLT ry) dd fun h' dd' hs=>h _ ?_
  have he: ∃q,h'.get? a=some q:=let ⟨q,_,_,hq,_⟩:=dd';⟨q,hq⟩
  exact zLZ I (by rw[e];exact True.intro) hs he (zRD hl hd (rel.put k rv) dd')
 ·subst ey eH
  cases (show u=Ax b from ry)
  obtain⟨z,hd,xs,rel,dd⟩:=yEY I.hok e
  have hz:xs.length<=sizeLine:=by rw[<- J4 rel];exact z
  have hl:(putK kvs k v).length<=sizeLine:=by have:=zEZ kvs k v;omega
  refine wpAny_setItem_heap (hsz:=hz) (Et hu) (zKM I.hok eb) dd fun h' dd' hs=>h _ ?_
  obtain⟨q,es,ep,hq,h2,h3,h4,_,h5⟩:=dd'
  refine zLZ I (by rw[e];exact True.intro) hs ⟨q,hq⟩ ⟨hl,hd,_,(rel.put k eb rv).keeps fun c ys ec=> ?_,q,es,ep,hq,h2,h3,h4,h5⟩
  rw[zAV (yEA ec e (fun z=>nomatch z))]
  exact ec
end
theorem zLY{X:Cx}{a6:List (Addr×Obj)}{σ:St}{H:Hp}{s:A7}{a:Addr}{y:V}{o:Option V}(I:Inv X a6 σ H s)(g:DGet H a y o):s.TypeIs (.ref a) "dict":=by
 rcases g with⟨kvs,k,e,_,_⟩|⟨kvs,k,b,e,_,_,_⟩
 ·obtain⟨_,_,vs,_,dd⟩:=zOG I.hok e
  exact dd.typeIs
 ·obtain⟨_,_,xs,_,dd⟩:=zOF I.hok e
  exact dd.typeIs
def yCV(td ty tv:TE):TS:=fun D σ H=>tv σ H fun v H1=>td σ H1 fun x H2=>ty σ H2 fun y H3=> ∃a H4,x= .ref a/\DPut H3 a y v H4/\D.nx σ H4
section
variable{X:Cx}{o i e value:Expr}{pos ap cb:Pos}{td ty tv:TE}
theorem zVR(hu:X.A.units+1<cLine)(ho:PE X o td)(hi:PE X i ty)(hv:PE X value tv)(hs:El value (some (.Subscript o i ap)) pos.line X.env=pure false):
  PS X (.Assign [.Subscript o i ap] value pos) (yCV td ty tv):=by
 intro a6 s σ H D I h
 refine wpAny_Assign_Subscript (thn (hv a6 s σ H _ I h) fun r s1 ⟨v,H1,I1,rv,q1⟩=>thn (ho a6 s1 σ H1 _ I1 q1) fun u s2 ⟨x,H2,I2,rx,q2⟩=>thn (hi a6 s2 σ H2 _ I2 q2) fun iv s3 ⟨y,H3,I3,ry,a,H4,ex,g,q3⟩=> ?_) hs
 subst ex
 obtain rfl:u=Ax a:=rx
 exact zRF hu I3 g ry rv fun s4 I4=>⟨σ,H4,I4,q3⟩
end
theorem zNP{P:Aw}{w:World}{H:Hp}(h:Heap)(hb:De<h.objs.size):zCR P w H (h.push {cls:= .type "dict",data:= .dict #[]}) h.objs.size (.dK []):=
 ⟨Cc _,beq_eq_false_iff_ne.mpr (C9 (Au hb)),[],.nil,Ko h⟩
def zXJ:TE:=fun _ H Q=> ∀p,H p=none->Q (.ref p) (upd H p (.dK []))
section
variable{X:Cx}{pos:Pos}
theorem zT1:PE X (.Dict [] [] pos) zXJ:=fun a6 s σ H Q I h=>
 wpAny_Dict_empty ⟨.ref s.heap.objs.size,_,I.laid (a:=s.heap.objs.size) (o:= .dK []) (t':=s.toks) (fun _ _ q=>A1 _ q) (Ae _) (zNP s.heap I.big),rfl,h _ (I.hok.fresh (Ae _))⟩
end
def zMJ:List (TE×TE)->St->Hp->(List (V×V)->Hp->Prop)->Prop
 |[],_,H,Q=>Q [] H
 |(tk,tv)::r,σ,H,Q=>tk σ H fun x H1=>tv σ H1 fun y H2=>zMJ r σ H2 fun ps H3=>Q ((x,y)::ps) H3
abbrev VV:List (V×V)->List (Value×Value)->Prop:=Paired fun p q=>RelV p.1 q.1/\RelV p.2 q.2
def PPs(X:Cx)(pos:Pos)(keys:List (Option Expr))(values:List Expr)(trs:List (TE×TE)):Prop:=
 ∀(a6:List (Addr×Obj)) (s:A7) (σ:St) (H:Hp) (Q:List (V×V)->Hp->Prop),Inv X a6 σ H s->zMJ trs σ H Q→
  wpAny (model X.prog X.w) X.A (evalPairs (pairTrees keys values X.env pos)) (fun vs s'=> ∃ps H',Inv X a6 σ H' s'/\VV ps vs/\Q ps H') X.xe s
theorem zVT{X:Cx}{pos:Pos}:PPs X pos [] [] []:=fun a6 s σ H Q I h=>pairTrees_nil_walk ⟨[],H,I,.nil,h⟩
theorem zSW{X:Cx}{pos:Pos}{k v:Expr}{ks:List (Option Expr)}{vs:List Expr}{tk tv:TE}{trs:List (TE×TE)}(hk:PE X k tk)(hv:PE X v tv)(hr:PPs X pos ks vs trs):
  PPs X pos (some k::ks) (v::vs) ((tk,tv)::trs):=fun a6 s σ H Q I h=>
 pairTrees_cons_walk (thn (hk a6 s σ H _ I h) fun u s1 ⟨x,H1,I1,rx,q1⟩=>thn (hv a6 s1 σ H1 _ I1 q1) fun w2 s2 ⟨y,H2,I2,ry,q2⟩=>
  thn (hr a6 s2 σ H2 _ I2 q2) fun ws s3 ⟨ps,H3,I3,rel,q3⟩=>⟨(x,y)::ps,H3,I3,.cons ⟨rx,ry⟩ rel,q3⟩)
noncomputable def zER(kvs more:List (Key×V)):List (Key×V):=more.foldl (fun acc kv=>putK acc kv.1 kv.2) kvs
theorem KV.merge: ∀{more:List (Key×V)} {rs:List (Key×Value)} {kvs:List (Key×V)} {vs:List (Key×Value)},KV more rs->KV kvs vs->KV (zER kvs more) (merged vs rs):=by
 intro more rs kvs vs r
 unfold KV at r
 induction r generalizing kvs vs with
 | nil => intro q;exact q
 | @cons p q ps qs h t ih=>
  intro r0
  have e:KV (putK kvs p.1 p.2) (Lw vs q.1 q.2):=by
   have:=r0.put p.1 h.2
   rw[<- h.1];exact this
  exact ih e
theorem zFM: ∀(more kvs:List (Key×V)),(zER kvs more).length<=kvs.length+more.length
 |[],kvs=>by show kvs.length<=kvs.length+0;omega
 |p::r,kvs=>by
  have h1:=zFM r (putK kvs p.1 p.2)
  have h2:=zEZ kvs p.1 p.2
  show(zER (putK kvs p.1 p.2) r).length<=_
  rw[B0];omega
theorem zIU{P:Aw}{w:World}: ∀{kvs:List (Key×V)} {ws:List (Value×Value)},VV (kvs.map fun kv=>(kV kv.1,kv.2)) ws-> ∃rs,Carries (zBA P w) ws rs/\KV kvs rs
 | [],_,r => by rw [Ce] at r;cases r;exact ⟨[],True.intro,.nil⟩
 | p :: kvs,_,r => by
  rw[An] at r
  cases r with
  | @cons a b as bs h t=>
   obtain⟨rs,c,q⟩:=zIU (P:=P) (w:=w) t
   obtain⟨b1,b2⟩:=b
   exact⟨(p.1,b2)::rs,⟨zLT h.1,rfl,c⟩,.cons ⟨rfl,h.2⟩ q⟩
def yC9(trs:List (TE×TE)):TE:=fun σ H Q=> ∀p,H p=none->zMJ trs σ (upd H p (.dK [])) fun ps H2=>H2 p=some (.dK [])/\ ∃kvs:List (Key×V),ps=kvs.map (fun kv=>(kV kv.1,kv.2))/\kvs.length<=15/\Q (.ref p) (upd H2 p (.dK (zER [] kvs)))
theorem zW1{X:Cx}{pos:Pos}{keys:List (Option Expr)}{values:List Expr}{trs:List (TE×TE)}(h:PPs X pos keys values trs)(cu:keys.all (·.isSome)=true)(hl:keys.length=values.length)(h0:keys≠[])
  (h15:keys.length<=15):PE X (.Dict keys values pos) (yC9 trs):=by
 intro a6 s σ H Q I q
 have hn:=I.hok.fresh (Ae s.heap.objs.size)
 have I1:=I.laid (a:=s.heap.objs.size) (o:= .dK []) (h':=s.heap.push {cls:= .type "dict",data:= .dict #[]}) (t':=s.toks) (fun _ _ q=>A1 _ q) (Ae _) (zNP s.heap I.big)
 refine wpAny_Dict_walk (knd:=zBA X.prog X.w) cu hl h0 h15 (thn (h a6 _ σ _ _ I1 (q _ hn)) fun ws s2 ⟨ps,H2,I2,rel,e,kvs,ep,lk,q2⟩=> ?_)
 subst ep
 obtain⟨rs,c,rk⟩:=zIU (P:=X.prog) (w:=X.w) rel
 obtain⟨z,hd,vs0,r0,dd⟩:=yB8 I2.hok e
 cases r0
 refine⟨rs,c,dd,fun h' dd' hs=>⟨.ref s.heap.objs.size,_,?_,rfl,q2⟩⟩
 have hz:(zER [] kvs).length<=sizeLine:=by
  have h1:=zFM kvs []
  rw[Fw] at h1
  rw[Bt];omega
 have he: ∃q,h'.get? s.heap.objs.size=some q:=let ⟨q,_,_,hq,_⟩:=dd';⟨q,hq⟩
 exact zLZ I2 (by rw[e];exact True.intro) hs he (zRD hz hd (rk.merge .nil) dd')
structure M1(X:Cx)(o:Expr)(m:Str)(aj:Pos)(e:Expr)(a8:Pos):Prop where
 base:Es o m X.env (eval o X.env)=eval o X.env
 few:((Dc a8 (A2 [e] X.env)).all (fun x=> !x.1) && (J7 a8 (Fu [] X.env)).all (fun x=>x.1.isSome)
  && decide (([e]:List Expr).length+([]:List Fv).length+(if([]:List Fv).isEmpty then 0 else 1)<30))=true
 line:(aj.endLine==a8.line)=true
 trees:Dc a8 (A2 [e] X.env)=[(false,eval e X.env)]
structure M2(X:Cx)(o:Expr)(m:Str)(aj:Pos)(e f:Expr)(a8:Pos):Prop where
 base:Es o m X.env (eval o X.env)=eval o X.env
 few:((Dc a8 (A2 [e,f] X.env)).all (fun x=> !x.1) && (J7 a8 (Fu [] X.env)).all (fun x=>x.1.isSome)
  && decide (([e,f]:List Expr).length+([]:List Fv).length+(if([]:List Fv).isEmpty then 0 else 1)<30))=true
 line:(aj.endLine==a8.line)=true
 trees:Dc a8 (A2 [e,f] X.env)=[(false,eval e X.env),(false,eval f X.env)]
def IsD(H:Hp)(a:Addr):Prop:=(∃kvs,Rd H a (.dK kvs))∨ ∃kvs,Rd H a (.dT kvs)
theorem zUN{X:Cx}{a6:List (Addr×Obj)}{σ:St}{H:Hp}{s:A7}{a:Addr}(I:Inv X a6 σ H s)(d:IsD H a):
  s.TypeIs (.ref a) "dict" /\(∀b,Ax a= .ref b-> ∃ob,s.heap.get? b=some ob/\ob.dict=none)/\(a==De)=false:=by
 rcases d with⟨kvs,e⟩|⟨kvs,e⟩
 ·obtain⟨_,hd,vs,_,dd⟩:=zOG I.hok e
  refine⟨dd.typeIs,fun b q=> ?_,hd⟩
  cases q
  obtain⟨ob,_,_,h1,h2,_⟩:=dd
  exact⟨ob,h1,h2.2.1⟩
 ·obtain⟨_,hd,xs,_,dd⟩:=zOF I.hok e
  refine⟨dd.typeIs,fun b q=> ?_,hd⟩
  cases q
  obtain⟨ob,_,_,h1,h2,_⟩:=dd
  exact⟨ob,h1,h2.2.1⟩
section
variable{X:Cx}{a6:List (Addr×Obj)}{σ:St}{H:Hp}{s:A7}{a:Addr}{y d:V}{u r:Value}{o:Option V}{A:C3}{E:Value->A7->Prop}
theorem yBA{Q:Value->A7->Prop}(hu:A.units+1<cLine)(I:Inv X a6 σ H s)(g:DGet H a y o)(ry:RelV y u)(h: ∀w' s',Inv X a6 σ H s'->RelV (o.getD .non) w'->Q w' s'):
  wpAny (model X.prog X.w) A (call (.builtin "dict.get") [.ref a,u]) Q E s:=by
 rcases g with⟨kvs,k,e,ey,l⟩|⟨kvs,k,b,e,ey,eb,l⟩
 ·subst ey
  obtain⟨z,hd,vs,rel,dd⟩:=zOG I.hok e
  refine Hv Cf dd.typeIs Db (Eu _ _) (meets_dict_get (zBA X.prog X.w) a (zLT ry) hd) ⟨_,dd.mapOf,h _ _ (I.tok _) ?_⟩
  rw[l]
  exact(rel.val k).getD rfl
 ·subst ey
  cases (show u=Ax b from ry)
  obtain⟨z,hd,xs,rel,dd⟩:=zOF I.hok e
  refine Hv Cf dd.typeIs Db (Eu _ _) (meetsH_dict_get (tupleKind (zBA X.prog X.w)) a b hd) ⟨Et hu,k,xs,zKM I.hok eb,dd,h _ _ (I.tok _) ?_⟩
  rw[l]
  exact(rel.val k).getD rfl
theorem yB9{Q:Value->A7->Prop}(hu:A.units+1<cLine)(I:Inv X a6 σ H s)(g:DGet H a y o)(ry:RelV y u)(rd:RelV d r)(h: ∀w' s',Inv X a6 σ H s'->RelV (o.getD d) w'->Q w' s'):
  wpAny (model X.prog X.w) A (call (.builtin "dict.get") [.ref a,u,r]) Q E s:=by
 rcases g with⟨kvs,k,e,ey,l⟩|⟨kvs,k,b,e,ey,eb,l⟩
 ·subst ey
  obtain⟨z,hd,vs,rel,dd⟩:=zOG I.hok e
  refine Hv Cf dd.typeIs Db (Gw _ _ _) (meets_dict_get_default (zBA X.prog X.w) a (zLT ry) hd r) ⟨_,dd.mapOf,h _ _ (I.tok _) ?_⟩
  rw[l]
  exact(rel.val k).getD rd
 ·subst ey
  cases (show u=Ax b from ry)
  obtain⟨z,hd,xs,rel,dd⟩:=zOF I.hok e
  refine Hv Cf dd.typeIs Db (Gw _ _ _) (meetsH_dict_get_default (tupleKind (zBA X.prog X.w)) a b hd r) ⟨Et hu,k,xs,zKM I.hok eb,dd,h _ _ (I.tok _) ?_⟩
  rw[l]
  exact(rel.val k).getD rd
end
def zXK(td ty tx:TE):TE:=fun σ H Q=>td σ H fun x H1=> ∃a,x= .ref a/\IsD H1 a/\ty σ H1 fun y H2=>tx σ H2 fun z H3=> ∃o,DGet H3 a y o/\Q (o.getD z) H3
section
variable{X:Cx}{o e f:Expr}{aj a8:Pos}{td ty tx:TE}
theorem zT2(hu:X.A.units+1<cLine)(ho:PE X o td)(he:PE X e ty)(hf:PE X f tx)(m:M2 X o "get" aj e f a8):PE X (.Call (.Attribute o "get" aj) [e,f] [] a8) (zXK td ty tx):=by
 intro a6 s σ H Q I h
 refine Jk m.base m.few m.line Gx Cf Hw (thn (ho a6 s σ H _ I h) fun u s1 ⟨x,H1,I1,rx,a,ex,d,q1⟩=> ?_)
 subst ex
 obtain rfl:u=Ax a:=rx
 obtain⟨t1,t2,_⟩:=zUN I1 d
 refine⟨t1,t2,?_⟩
 rw[m.trees]
 refine Dx rfl (Ea (E1 (thn (he a6 s1 σ H1 _ I1 q1) fun iv s2 ⟨y,H2,I2,ry,q2⟩=>
  E1 (thn (hf a6 s2 σ H2 _ I2 q2) fun fv s3 ⟨z,H3,I3,rz,ov,g,q3⟩=>F4 ?_))))
 exact yB9 hu I3 g ry rz fun w' s4 I4 rw'=>⟨_,H3,I4,rw',q3⟩
end
end L2
namespace Att
open PySem PySem.W PySem.Calls PyProof.Rows
theorem zHV{P:Kf}{h:Heap}: ∀(ns:List Int) (vs:List Value),WellAll P h vs (ns.map WData.int)->Jl vs ns:=by
 intro ns
 induction ns with
 |nil=>
  intro vs w
  rw[Ce] at w
  cases w
  exact .nil
 |cons n ns ih=>
  intro vs w
  rw[An] at w
  cases w with
  |cons a b=>
   cases a
   exact .cons _ _ (ih _ b)
theorem zPB{l:OpenLaw}{n:Nat}(hn:l.most=some n){P:Kf}{h:Heap}{args:List WData}{vals:List Value}
  (hpre:l.row.toRowW.claim.pre args=true) (hwl:WellAll P h vals args):
  ∃a vs ns,vals=[Ax a]/\args=[WData.list (ns.map WData.int)]/\h.get? a=some {cls:= .type "list",data:= .seq vs.toArray}/\Jl vs ns/\ns.length<=n:=by
 have hsh:WShape.hasAll [] args [.list .int]=true:=(pre_splitW hpre).1
 have hc:l.pre.holds [] {args:=args}=true:=(pre_splitW hpre).2
 obtain⟨d,r,rfl,h1,h2⟩:=hasAllW_cons hsh
 obtain rfl:=hasAllW_nil h2
 obtain⟨xs,rfl,h3⟩:=hasW_list h1
 obtain⟨ns,rfl⟩:=items_int h3
 have a9:ns.length<=n:=by
  unfold OpenLaw.pre at hc
  have h4:(WTm.not (.lt (.lit (.int (n:Int))) (.len (.arg 0)))).holds [] {args:=[.list (ns.map .int)]}=true:=by
   have h4:=(holds_andW hc).1
   rw[hn] at h4
   exact h4
  have h5:=condW_of h4 (w_not (w_lt w_lit (w_len_list (w_arg rfl))))
  rw[Bi] at h5
  refine Nat.le_of_not_lt fun q=> ?_
  have q':(n:Int)<((ns.length:Nat):Int):=by omega
  first
   |(rw[decide_eq_true q'] at h5;exact absurd h5 (by decide))
   |(simp at h5;omega)
 cases hwl with
 |cons w1 w2=>
  cases w2
  cases w1 with
  |list ho cu=>exact⟨_,_,ns,rfl,rfl,ho,zHV ns _ cu,a9⟩
theorem zQ5(l:OpenLaw)(args:List WData):l.row.toRowW.claim.post args (.bool true) args=true:=
 postW_of (r:=l.row.toRowW) (X:=(true==true))
  (show M8 [] (.bool true) .bool=true by first|rfl|decide|simp[M8,WShape.arms,WShape.armsAll])
  (show(WTm.eq .res (.lit (.bool true))).value [] {args:=args,res:=some (.bool true),after:=args}=some (.bool (true==true)) from w_eq_bool (w_res rfl) w_lit) rfl
theorem zM4{l:OpenLaw}{n:Nat}{q:Aw}{loose:List Str}{XP:(Str->Option Value)->Heap->Prop}{YP:World->Heap->Prop}{d:DefRec}
  (hn:l.most=some n) (hdf:d.params.defaults=[])
  (call: ∀(w:World) (s₀ s₁:A7) (mg mb:Str->Option Value) (fa:Addr) (o:Obj) (pm cd doc:Value) (a:Addr) (vs:List Value) (ns:List Int),
   Ground q loose [] XP w s₀ mg mb s₁.heap->YP w s₁.heap→
   s₁.heap.get? fa=some o->o.data= .func (docDef d.name d.params d.body d.scope pm cd doc)->s₁.heap.CodeRec cd d.name->mg d.name=some (.ref fa)→
   s₁.heap.get? a=some {cls:= .type "list",data:= .seq vs.toArray}->Jl vs ns->ns.length<=n->s₁.gens= #[]→
   Iu (model l.prog w) Ix (.call (.ref fa) ⟨[.ref a],[]⟩) (fun r s'=>r= .ok (.ret (.bool true))/\OldK s₁.heap s'.heap/\s'.os=s₁.os/\Hn s'.gens) s₁):
  WalkO q loose XP YP l.row.toRowW d [] (fun f vs=>Lj f vs):=by
 intro w s₀ s₁ mg mb G Y fa o pm cd doc dV kV ho hd hcd hD hmg hg args vals as hpre hlay hrd hwl hlo
 obtain rfl:dV= .none:=Dflts.none hD hdf
 obtain rfl:kV= .none:=Dflts.noKw hD
 obtain⟨a,vs,ns,rfl,rfl,hobj,hints,a9⟩:=zPB hn hpre hwl
 refine enter_call (Jw (call w s₀ s₁ mg mb fa o pm cd doc a vs ns G Y ho (fd_plain hd) hcd hmg hobj hints a9 hg) fun r s' hq=> ?_)
 obtain⟨rfl,h2,h3,h4⟩:=hq
 exact⟨.inl ⟨.bool true,.bool true,[],rfl,fun _=>rfl,.bool true,zQ5 l _,fun _=>⟨Jm,fun _ hm=>(nomatch hm)⟩⟩,h2,h3,h4⟩
end Att
namespace L2
open PySem PySem.Spec PyProof.Rows
theorem zJZ: ∀{vs:List Value} {ns:List Int},Jl vs ns->Vals (ns.map V.int) vs
 |_,_,.nil=> .nil
 |_,_,.cons n t h=> .cons ⟨t,rfl⟩ (zJZ h)
def Only(H:Hp):Prop:= ∀b,H b=none∨ ∃o xs,H b=some (.frz o (.lst xs))
theorem zTF{P:Aw}{w:World}{K:Ad}{mg mb:Str->Option Value}{CX:CXT}{k:Nat}{fa a:Addr}{fd:D9}{x:Str}{sp:Sp}{s₁:A7}{vs:List Value}{ns:List Int}
  (KX:K.In s₁.heap) (hns:s₁.heap.Ns mainGlobals mg) (hb:s₁.heap.Ns builtinsNs mb) (hbb: ∀x:Str,x≠ "__name__" ->mb x=As x) (nv:s₁.heap.NoLimit) (hg:s₁.gens= #[])
  (ha:s₁.heap.get? a=some {cls:= .type "list",data:= .seq vs.toArray}) (hi:Jl vs ns) (hl:ns.length<=sizeLine) (hr:Room k Ix)
  (F: ∀base:Heap,K.In base->base.Ns mainGlobals mg->FnOk P w K mg base CX k fa fd [x] sp) (lv: ∀(s:A7) (u:Value),Km s fd ⟨[u],[]⟩ [(x,u)])
  (hsp : ∀ H : Hp,Only H -> SqL K H a (ns.map V.int) -> sp [.ref a] H (fun v _ => v = .bl true) fun _ _ _ => False)
  (hCX : ∀ H e s',CX [] H s₁ (fun _ _ _ => False) e s' -> False) :
  Iu (model P w) Ix (.call (.ref fa) ⟨[.ref a],[]⟩) (fun r s'=>r= .ok (.ret (.bool true))/\OldK s₁.heap s'.heap/\s'.os=s₁.os/\Hn s'.gens) s₁:=by
 have rv:=zJZ hi
 have mn:=hi.length
 have lw: ∀H:Hp,Only H->SqL K H a (ns.map V.int)->HOk P w H s₁.heap->(∀b,H b≠none->b=a)->(H a≠none->K.lookup a=none)→
   Iu (model P w) Ix (.call (.ref fa) ⟨[.ref a],[]⟩) (fun r s'=>r= .ok (.ret (.bool true))/\OldK s₁.heap s'.heap/\s'.os=s₁.os/\Hn s'.gens) s₁:=by
  intro H hO hS hok hA hK
  have cy: ∀{b:Addr} {o:Obj},s₁.heap.get? b=some o->H b=none->(hidT s₁.heap H).get? b=some o:=fun e n=>zTM e n
  have noA: ∀{b:Addr} {o:Obj} {es:Array Hl} {ep:Nat},s₁.heap.get? b=some o->o.data= .dict es ep->H b=none:=fun{b o es ep} e d=>by
   cases q:H b with
   | none => rfl
   |some u=>
    have e':b=a:=hA b (by rw[q];simp)
    subst e'
    rw[ha] at e;cases e
    have d':Data.seq vs.toArray _=Data.dict es ep:=d
    cases d'
  have nsK: ∀{b:Addr} {m:Str->Option Value},s₁.heap.Ns b m->(hidT s₁.heap H).Ns b m:=fun{b m} ⟨o,es,ep,e,d,r⟩=>⟨o,es,ep,cy e (noA e d),d,r⟩
  have hKb:K.In (hidT s₁.heap H):=fun b o e=>cy (KX b o e) (by
   cases q:H b with
   | none => rfl
   |some u=>
    have e':b=a:=hA b (by rw[q];simp)
    subst e'
    rw[hK (by rw[q];simp)] at e;cases e)
  have hM:Mod K mg (hidT s₁.heap H):=⟨hKb,nsK hns,⟨mb,nsK hb,hbb⟩,let ⟨mc,h1,h2⟩:=nv;⟨mc,nsK h1,h2⟩⟩
  have e0:Env0 P w K mg (hidT s₁.heap H) Ix [] s₁ H:=⟨rfl,hM,fun b o e=>zWA e,Nat.le_of_eq (zR1 _ _),trivial,fun b hb=>absurd (show b∈([]:List Addr) from hb) (by simp),hok,.of_eq hg⟩
  refine Jw ((F _ hKb (nsK hns)).run Ix [] s₁ H ⟨[.ref a],[]⟩ [.ref a] [.ref a] _ _ hr e0 (lv s₁ (.ref a)) (.cons rfl .nil) (hsp H hO hS)) fun r s' h=> ?_
  cases r with
  | error e => exact (hCX H e s' h).elim
  |ok fl=>
   cases fl with
   | next => exact E6 h
   | brk => exact E6 h
   | cont => exact E6 h
   |ret u=>
    obtain⟨v,H',os,bare,un,ng,r',q⟩:=h
    have q':v= .bl true:=q
    subst q'
    obtain rfl:u=Lg true:=r'
    refine⟨rfl,OldK.of_keep fun b o e=> ?_,os,bare⟩
    cases q:H b with
    | none => exact un.keep b o e q (by intro z;exact absurd (show b ∈ ([] : List Addr) from z) (by simp)) (by simp)
    |some u=>
     rcases hO b with z|⟨ob,xs,z⟩
     ·rw[q] at z;cases z
     ·have z2:=un.frzs b ob _ z
      obtain⟨e1,_⟩:=hok b _ z
      obtain⟨e2,_⟩:=ng b _ z2
      rw[e] at e1;cases e1
      exact e2
 cases hk:K.lookup a with
 |some o=>
  have e:=KX a o hk
  rw[ha] at e
  cases e
  refine lw (fun _=>none) (fun _=> .inl rfl) (.inr ⟨_,vs.toArray,_,hk,rfl,rfl,rfl,by rw[Af,mn];exact hl,by simpa using rv⟩) (fun b u z=>by have z':(none:Option HO)=some u:=z;cases z') (fun b z=>absurd rfl z) fun z=>absurd rfl z
 |none=>
  refine lw (fun b=>if b=a then some (.frz {cls:= .type "list",data:= .seq vs.toArray} (.lst (ns.map V.int))) else none) (fun b=> ?_) (.inl (.inr ⟨{cls:= .type "list",data:= .seq vs.toArray},if_pos rfl⟩)) (fun b u z=> ?_) (fun b z=> ?_) fun _=>hk
  ·by_cases hb:b=a
   ·exact .inr ⟨_,_,if_pos hb⟩
   ·exact .inl (if_neg hb)
  ·by_cases hb:b=a
   ·have z':=(if_pos hb).symm.trans z
    cases z'
    subst hb
    exact⟨ha,by rw[Bi];exact hl,vs,_,rv,ha⟩
   ·have z':=(if_neg hb).symm.trans z
    cases z'
  ·by_cases hb:b=a
   ·exact hb
   ·exact absurd (if_neg hb) z
theorem zUW{l:Lx}{n k:Nat}{q:Aw}{loose:List Str}{XP:(Str->Option Value)->Heap->Prop}{YP:World->Heap->Prop}{d:DefRec}{K:Kf->Ad}{CX:World->CXT}{sp:World->Sp}{x:Str}
  (hn:l.most=some n) (hn2:n<=sizeLine) (hdf:d.params.defaults=[]) (hr:Room k Ix)
  (hY: ∀(w:World) (h:Heap),YP w h->(K w.params).In h)
  (F: ∀(w:World) (mg:Str->Option Value) (fa:Addr) (h:Heap),(K w.params).In h->h.Ns mainGlobals mg->mg d.name=some (.ref fa)→
   ∃fd:D9,(∀(s:A7) (u:Value),Km s fd ⟨[u],[]⟩ [(x,u)])∧
    ∀base:Heap,(K w.params).In base->base.Ns mainGlobals mg->FnOk l.prog w (K w.params) mg base (CX w) k fa fd [x] (sp w))
  (hsp: ∀(w:World) (H:Hp) (a:Addr) (ns:List Int),ns.length<=n->Only H->SqL (K w.params) H a (ns.map V.int)->sp w [.ref a] H (fun v _=>v= .bl true) fun _ _ _=>False)
  (hCX: ∀(w:World) (H:Hp) (s:A7) (e:Value) (s':A7),CX w [] H s (fun _ _ _=>False) e s'->False):
  W.WalkO q loose XP YP l.row.toRowW d [] (fun f vs=>Lj f vs):=by
 refine Att.zM4 hn hdf fun w s₀ s₁ mg mb fa o pm cd doc a vs ns G Y ho hd hcd hmg hobj hints a9 hg=> ?_
 have KX:=hY w _ Y
 obtain⟨fd,hb,hF⟩:=F w mg fa _ KX G.T.g hmg
 exact zTF KX G.T.g G.T.b G.T.builtins G.T.nolimit hg hobj hints (Df a9 hn2) hr hF hb (fun H hO hS=>hsp w H a ns a9 hO hS) fun H e s'=>hCX w H s₁ e s'
theorem zRZ{l:Lx}{n k:Nat}{q:Aw}{loose:List Str}{XP:(Str->Option Value)->Heap->Prop}{YP:World->Heap->Prop}{d:DefRec}{K:Kf->Ad}{CX:CXT}{sp:Ad->Sp}{x:Str}
  (hn:l.most=some n) (hn2:n<=sizeLine) (hdf:d.params.defaults=[]) (hr:Room k Ix)
  (hY: ∀(w:World) (h:Heap),YP w h->(K w.params).In h)
  (F: ∀(w:World) (mg:Str->Option Value) (fa:Addr) (h:Heap),(K w.params).In h->h.Ns mainGlobals mg->mg d.name=some (.ref fa)→
   ∃fd:D9,(∀(s:A7) (u:Value),Km s fd ⟨[u],[]⟩ [(x,u)])∧
    ∀base:Heap,(K w.params).In base->base.Ns mainGlobals mg->FnOk l.prog w (K w.params) mg base CX k fa fd [x] (sp (K w.params)))
  (hsp: ∀(K:Ad) (H:Hp) (a:Addr) (ns:List Int),ns.length<=n->Only H->SqL K H a (ns.map V.int)->sp K [.ref a] H (fun v _=>v= .bl true) fun _ _ _=>False)
  (hCX: ∀(H:Hp) (s:A7) (e:Value) (s':A7),CX [] H s (fun _ _ _=>False) e s'->False):
  W.WalkO q loose XP YP l.row.toRowW d [] (fun f vs=>Lj f vs):=
 zUW (K:=K) (CX:=fun _=>CX) (sp:=fun w=>sp (K w.params)) hn hn2 hdf hr hY F (fun w H a ns h1 h2 h3=>hsp (K w.params) H a ns h1 h2 h3) fun _ H s e s'=>hCX H s e s'
noncomputable def zC7(s:Stmt):Arguments:=match s with
 | .FunctionDef _ a _ _ _ _ _ _ _ _=>a
 |_=>{posonlyargs:=[],args:=[],vararg:=none,kwonlyargs:=[],kw_defaults:=[],kwarg:=none,defaults:=[]}
noncomputable def zBP(s:Stmt):List Stmt:=match s with
 | .FunctionDef _ _ b _ _ _ _ _ _ _=>b
 |_=>[]
noncomputable def zA6(s:Stmt):Scope:=match s with
 | .FunctionDef _ _ _ _ _ _ sc _ _ _=>sc
 |_=>{kind:= .function,names:=[],isGenerator:=false,isCoroutine:=false}
abbrev CX0:CXT:=fun _ _ _ _ _ _=>False
abbrev E0:XK:=fun _ _ _=>False
theorem zW4{X:Cx}:zRV CX0 X E0:=fun _ _ _ _ _ _ _ h=>h.elim
structure Fun(K:Ad)(x qual:Str)(st:Stmt)(f:Addr)(fd:D9):Prop where
 ex: ∃(oc:Value) (od:Option Addr) (kV doc pm:Value) (an:Option Addr) (cdv ct:Value) (osl:Array (Option Value)),
  fd=Fs x qual (zC7 st) (zBP st) (zA6 st) .none kV doc pm an cdv ct/\K.lookup f=some ⟨oc,od,.func fd,osl⟩/\Ga K cdv qual=true
 kp:Ep K (.ref f)=true
section
variable{P:Aw}{w:World}{K:Ad}{mg:Str->Option Value}{base:Heap}
theorem Fun.ok{x qual:Str}{st:Stmt}{f:Addr}{fd:D9}{N ps:List Str}{k:Nat}{sp:Sp}(F:Fun K x qual st f fd)(S:zAF N ps (zA6 st))(len: ∀vs H Q E,sp vs H Q E->vs.length=ps.length)
  (az: ∀(cdv:Value) (A:C3) (outer:List Env) (s:A7) (H:Hp) (vs:List V) (Q:VK) (E:XK),Room k (A.deeper (Gk qual (zA6 st) s.heap.objs.size f cdv))->sp vs H Q E→
   ∃t,PSs (cxOf CX0 P w K mg base N qual (zA6 st) f cdv A outer s H E).nox (zBP st) t/\t {nx:=fun _ H'=>Q .non H',rt:=Q} (zFZ N vs) H):FnOk P w K mg base CX0 (k+1) f fd ps sp:=by
 obtain⟨oc,od,kV,doc,pm,an,cdv,ct,osl,rfl,lk,hcd⟩:=F.ex
 refine yB4 lk hcd S len fun A outer s H vs Q E hr hsp=> ?_
 obtain⟨t,h,q⟩:=az cdv A outer s H vs Q E hr hsp
 exact⟨t,h.nox,q⟩
theorem Fun.binds{x qual:Str}{st:Stmt}{f:Addr}{fd:D9}{ps:List Str}(F:Fun K x qual st f fd)
  (h: ∀(kV doc pm:Value) (an:Option Addr) (cdv ct:Value) (us:List Value),us.length=ps.length->bindArgs (Fs x qual (zC7 st) (zBP st) (zA6 st) .none kV doc pm an cdv ct) ⟨us,[]⟩=pure (ps.zip us)):zJV K fd ps []:=by
 obtain⟨oc,od,kV,doc,pm,an,cdv,ct,osl,rfl,lk,hcd⟩:=F.ex
 exact .all (h kV doc pm an cdv ct)
theorem zUQ{x qual:Str}{st:Stmt}{f:Addr}{oc:Value}{od an:Option Addr}{osl:Array (Option Value)}{kV doc pm cdv ct:Value}(l:K.lookup f=some ⟨oc,od,.func (Fs x qual (zC7 st) (zBP st) (zA6 st) .none kV doc pm an cdv ct),osl⟩)
  (c:Ga K cdv qual=true) (k:Ep K (.ref f)=true):Fun K x qual st f (Fs x qual (zC7 st) (zBP st) (zA6 st) .none kV doc pm an cdv ct):=⟨⟨oc,od,kV,doc,pm,an,cdv,ct,osl,rfl,l,c⟩,k⟩
end
theorem yB3{A:C3}{k:Nat}(hr:Room k A):A.units+1<cLine:=Nat.lt_of_le_of_lt (Nat.add_le_add_left (by decide:1<=64) _) hr.units
section
variable{X:Cx}
theorem pv(i:Nat){x:Str}{pos:Pos}(hN:X.N[i]? =some x:=by rfl)(hv:Vis X.env.scope x:=by first|exact Hx rfl|exact Hy (Hx rfl)|exact Hy (Hy rfl))(hd:(x==("__debug__":Str))=false:=by decide)
  (hcd:(x==("__classdict__":Str))=false:=by decide):PE X (.Name x pos) (tVar i):=zQB hN hv hd hcd
end
theorem iteF{A B:Prop}(h:B):if false=true then A else B:=by
 rw[if_neg Cn]
 exact h
theorem iteT{A B:Prop}(h:A):if true=true then A else B:=by
 rw[if_pos rfl]
 exact h
def Same(H H':Hp):Prop:= ∀b o,H b=some o->H' b=some o
theorem Same.refl(H:Hp):Same H H:=fun _ _ h=>h
theorem Same.trans{H H1 H2:Hp}(a:Same H H1)(b:Same H1 H2):Same H H2:=fun c o h=>b c o (a c o h)
theorem Same.seq{K:Ad}{H H':Hp}{a:Addr}{xs:List V}(e:Same H H')(h:SqL K H a xs):SqL K H' a xs:=by
 rcases h with(h|⟨o,h⟩)|h
 ·exact .inl (.inl (e _ _ h))
 ·exact .inl (.inr ⟨o,e _ _ h⟩)
 ·exact .inr h
theorem zM0{env:Env}{f:Str×NameKind->List (Str×Addr)->Sem (ForInStep (List (Str×Addr)))}
  (hf : ∀ n k r,f (n,k) r = if (k == Az) = true then (cellOf env n >>= fun c => pure (Cb ((n,c) :: r))) else pure (Cb r)) :
  ∀(names:List (Str×NameKind)) (cs:List (Str×Addr)),(∀y∈names,y.2= .free-> ∃c,env.cells.lookup y.1=some c)→
   ∃cl,forIn names cs f=(pure cl:Sem (List (Str×Addr)))/\(∀x c,cl.lookup x=some c->cs.lookup x=some c∨env.cells.lookup x=some c)∧
    (∀x c,cs.lookup x=some c-> ∃c',cl.lookup x=some c')/\ ∀x,(x,Az)∈names-> ∃c,cl.lookup x=some c
 | [],cs,_ => ⟨cs,rfl,fun _ _ e => .inl e,fun _ c e => ⟨c,e⟩,fun _ h => nomatch h⟩
 | (n,k) :: r,cs,h => by
  have hr: ∀y∈r,y.2= .free-> ∃c,env.cells.lookup y.1=some c:=fun y hy=>h y (Ag _ hy)
  by_cases hk:k= .free
  ·subst hk
   obtain⟨c,hc⟩:=h (n,.free) Ak rfl
   have hc:env.cells.lookup n=some c:=hc
   obtain⟨cl,e1,e2,e3,e4⟩:=zM0 hf r ((n,c)::cs) hr
   refine⟨cl,?_,fun x c' e=> ?_,fun x c' e=> ?_,fun x hx=> ?_⟩
   ·rw [Fx,hf,if_pos (show (Az == Az) = true by decide)]
    have ec:cellOf env n=pure c:=by unfold cellOf;rw[hc]
    rw[ec,pure_bind,pure_bind]
    exact e1
   ·rcases e2 x c' e with q|q
    ·by_cases hx:x=n
     ·subst hx
      rw[Cg] at q
      cases q
      exact .inr hc
     ·rw[Bn,beq_eq_false_iff_ne.mpr hx] at q
      exact .inl q
    ·exact .inr q
   ·by_cases hx:x=n
    ·subst hx
     exact e3 x c (Cg ..)
    ·refine e3 x c' ?_
     rw[Bn,beq_eq_false_iff_ne.mpr hx]
     exact e
   ·rcases A8.mp hx with q|q
    ·cases q
     exact e3 n c (Cg ..)
    ·exact e4 x q
  ·obtain⟨cl,e1,e2,e3,e4⟩:=zM0 hf r cs hr
   refine⟨cl,?_,e2,e3,fun x hx=> ?_⟩
   ·have hb : ¬ (k == Az) = true := by simpa using hk
    rw[Fx,hf,if_neg hb,pure_bind]
    exact e1
   ·rcases A8.mp hx with q|q
    ·cases q
     exact absurd rfl hk
    ·exact e4 x q
theorem zRI{env:Env}{scope:Scope}(h: ∀y∈scope.names,y.2= .free-> ∃c,env.cells.lookup y.1=some c):
  ∃cl,closureFor scope env=pure cl/\(∀x c,cl.lookup x=some c->env.cells.lookup x=some c)/\ ∀x,(x,Az)∈scope.names-> ∃c,cl.lookup x=some c:=by
 simp only[closureFor]
 obtain⟨cl,e1,e2,_,e4⟩:=zM0 (env:=env) (f:=fun x r=>match x with
  |(name,kind)=>if(kind==Az)=true then(cellOf env name>>=fun c=>pure (Cb ((name,c)::r))) else pure (Cb r)) (fun _ _ _=>rfl) scope.names [] h
 refine⟨cl,?_,fun x c e=> ?_,e4⟩
 ·first
   |exact e1
   |(refine Eq.trans (congrArg (fun m=>m>>=pure) e1) ?_;exact pure_bind _ _)
 ·rcases e2 x c e with q|q
  ·cases q
  ·exact q
noncomputable def caps(ix:List Nat)(σ:St):St:=ix.map fun i=>(σ[i]?).join
def PTs(Y:Cx)(ifs:List Expr)(tt:TT):Prop:=
 ∀(a6:List (Addr×Obj)) (s:A7) (σ:St) (H:Hp) (Q:Bool->Hp->Prop),Inv Y a6 σ H s->tt σ H Q→
  wpAny (model Y.prog Y.w) Y.A (forIn ifs true fun c r=>if r=true then do let ok<- isTrue c Y.env (eval c Y.env);pure (Cb ok) else pure (Cb r)) (TP Y a6 σ Q) Y.xe s
def tYes:TT:=fun _ H Q=>Q true H
theorem zVO{Y:Cx}:PTs Y [] tYes:=fun _ _ _ H _ I h=>wpAny_tests_nil ⟨H,I,h⟩
theorem zVN{Y:Cx}{c:Expr}{tt:TT}(h:PT Y c tt):PTs Y [c] tt:=fun a6 s σ H Q I hw=>wpAny_tests_one (h a6 s σ H Q I hw)
structure Blk(Y:Cx)(tg:Expr)(ifs:List Expr)(elt:Expr)(g:TG)(tt:TT)(te:TE):Prop where
 tg:PG Y tg g
 ts:PTs Y ifs tt
 el:PE Y elt te
theorem zRH{prog:Aw}{w:World}{A:C3}{s:A7}{elt b5 iter:Expr}{ifs:List Expr}{scope:Scope}{pos:Pos}{it acc:Value}{env:Env}{R:Result->A7->Prop}(I:Nat->A7->Prop)
  (turn : ∀ n s,I n s -> wpAny (model prog w) A (pyNext it) (fun r s₁ => match r with
   | none => R (.ok .next) s₁
   | some v => wpAny (model prog w) A (Fq b5 it v) (fun _ s₀ => wpAny (model prog w) A (assign b5 env v) (fun _ s₂ =>
     wpAny (model prog w) A (forIn ifs true fun c r=>if r=true then do let ok<- isTrue c env (eval c env);pure (Cb ok) else pure (Cb r)) (fun ok s₃=>if ok=true then wpAny (model prog w) A (eval elt env) (fun x s₄=>
      wpAny (model prog w) A (call (.builtin "list.append") [acc,x]) (fun _ s₅=> ∃m,m<n/\I m s₅) (fun _ _=>False) s₄) (fun _ _=>False) s₃
      else∃m,m<n/\I m s₃) (fun _ _=>False) s₂)
     (fun _ _=>False) s₀) (fun _ _=>False) s₁) (fun _ _=>False) s)
  (n:Nat) (h:I n s):Iu (model prog w) A (.compLoop (.ListComp elt [⟨b5,iter,ifs,0⟩] scope pos) 0 it acc env) R s:=by
 refine codeAny_loop rfl I (fun n s hI=> ?_) n h
 show wpAny _ A ((compTurn (.ListComp elt [⟨b5,iter,ifs,0⟩] scope pos) 0 it acc env).onRaise (fun x=>do noteFrame x env;theTreesLotGoes x)) _ _ s
 refine wpAny_noted ?_
 rw[compTurn_list]
 refine A0 (E7 (A0 (Br (turn n s hI) (fun r s₁ h₁=> ?_) fun _ _ h'=>h'.elim)))
 cases r with
 |none=>exact A9 h₁
 |some v=>
  refine A0 (Br h₁ (fun _ s₀ h₀'=> ?_) fun _ _ h'=>h'.elim)
  refine A0 (Br h₀' (fun _ s₂ h₂=> ?_) fun _ _ h'=>h'.elim)
  refine A0 (Br h₂ (fun okb s₃ h₃=> ?_) fun _ _ h'=>h'.elim)
  cases okb with
  |false=>exact A9 ⟨rfl,h₃⟩
  |true=>exact A0 (A0 (Br h₃ (fun x s₄ h₄=>A0 (Br h₄ (fun _ s₅ h₅=>A9 (A9 ⟨rfl,h₅⟩)) fun _ _ h'=>h'.elim)) fun _ _ h'=>h'.elim))
section
variable{X:Cx}{a6:List (Addr×Obj)}{σ:St}{H H':Hp}{s s1 s':A7}{h'':Heap}
theorem Inv.offNew{σ':St}{H1:Hp}(I1:Inv X a6 σ H1 s1)(I':Inv X a6 σ' H' s')(hn:H' s1.heap.objs.size=none)(sb: ∀b o,b≠s1.heap.objs.size->s'.heap.get? b=some o->h''.get? b=some o):
  Inv X a6 σ' H' {s' with heap:=h''}:=
 I'.turned (t':=s'.toks) (it:=s1.heap.objs.size) sb hn (Eg I1.lt) (.inr I1.sz)
  (fun x c e z => by
   obtain⟨v,q⟩:=I1.cell x c e
   have:=q.lt
   rw[z] at this
   exact Bo _ this)
  fun p hp z=>by
   have:=Ac (I1.pin p hp).1
   rw[z] at this
   exact Bo _ this
end
def yBM(D:Addr)(ix:List Nat)(nl:Nat)(J:It)(g:TG)(tt:TT)(te:TE)(σ:St)(H0:Hp)(Q:Hp->Prop):Prop:=
 ∃W:Nat->Nat->List V->Hp->Prop,(∃m,W 0 m [] (upd H0 D (.lst [])))/\ ∀i m acc H1,W i m acc H1→
  (J.stop i H1/\Q H1)∨
  (J.go i H1/\ ∃N:List V->Hp->Prop,(∀ar H',N ar H'-> ∃m',m'<m/\W (i+1) m' ar H')∧
   ∀x H2,J.yld i H1 x H2->g x (caps ix σ++B4 nl none) H2 fun σ2 H3=>σ2.take ix.length=caps ix σ∧
    tt σ2 H3 fun b H4=>if b=true then te σ2 H4 fun v H5=>H5 D=some (.lst acc)/\acc.length<sizeLine/\N (acc++[v]) (upd H5 D (.lst (acc++[v]))) else N acc H4)
theorem zGR{env:Env}{x:Str}: ∀{l:List (Str×NameKind)},l.lookup x=some .free→
  (l.map fun (n,k) => if (k == Az && env.scope.kind == .function && env.kindOf n == some .cell) then (n,Bk) else (n,k)).lookup x = some .cell ∨
  (l.map fun (n,k) => if (k == Az && env.scope.kind == .function && env.kindOf n == some .cell) then (n,Bk) else (n,k)).lookup x = some .free
 | [],h => by cases h
 | (n,k) :: r,h => by
  show Iy x ((if(k==Az && env.scope.kind== .function && env.kindOf n==some .cell)=true then(n,Bk) else(n,k))::_)=some .cell∨Iy x ((if(k==Az && env.scope.kind== .function && env.kindOf n==some .cell)=true then(n,Bk) else(n,k))::_)=some .free
  by_cases hx:x=n
  ·subst hx
   rw[Cg] at h
   cases h
   by_cases hc:(Az==Az && env.scope.kind== .function && env.kindOf x==some .cell)=true
   ·left
    rw[if_pos hc,Cg]
   ·right
    rw[if_neg hc,Cg]
  ·have hb:(x==n)=false:=beq_eq_false_iff_ne.mpr hx
   simp only[Bn,hb] at h
   have ih:=zGR (env:=env) h
   by_cases hc:(k==Az && env.scope.kind== .function && env.kindOf n==some .cell)=true
   ·rw[if_pos hc]
    simp only[Bn,hb]
    exact ih
   ·rw[if_neg hc]
    simp only[Bn,hb]
    exact ih
def zSI(ix:List Nat)(nl:Nat)(wi:TI)(g:TG)(tt:TT)(te:TE):TE:=fun σ H Q=>wi σ H fun J H0=> ∀D,H0 D=none->yBM D ix nl J g tt te σ H0 fun H'=>Q (.ref D) H'
mutual
inductive Dp(K:Ad)(H:Hp):V->Ik->Prop
 |non:Dp K H .non .none
 |bl (b:Bool):Dp K H (.bl b) (.bool b)
 |int (i:Int):Dp K H (.int i) (.int i)
 |str (x:Str):Dp K H (.str x) (.str x)
 |lst {a:Addr} {xs:List V} {ds:List Ik}:SqL K H a xs->zM7 K H xs ds->Dp K H (.ref a) (.list ds)
 |tup {a:Addr} {xs:List V} {ds:List Ik}:SqT K H a xs->zM7 K H xs ds->Dp K H (.ref a) (.tuple ds)
inductive zM7(K:Ad)(H:Hp):List V->List Ik->Prop
 |nil:zM7 K H [] []
 |cons {v:V} {vs:List V} {d:Ik} {ds:List Ik}:Dp K H v d->zM7 K H vs ds->zM7 K H (v::vs) (d::ds)
end
section
variable{X:Cx}{a6:List (Addr×Obj)}{σ:St}{H:Hp}{s:A7}
mutual
theorem Inv.reads(I:Inv X a6 σ H s): ∀{v:V} {d:Ik} {u:Value},Dp X.K H v d->RelV v u-> ∃as,Reads s.heap u d as
 |_,_,_,.non,r=>by cases r;exact⟨_,.none⟩
 |_,_,_,.bl b,r=>by cases r;exact⟨_,.bool b⟩
 |_,_,_,.int i,r=>by obtain⟨t,rfl⟩:=r;exact⟨_,.int i t⟩
 |_,_,_,.str x,r=>by obtain⟨t,rfl⟩:=r;exact⟨_,.str x t⟩
 |_,_,_,.lst q all,r=>by
  cases r
  obtain⟨its,rv,⟨o,n,e,c,_,d⟩,_⟩:=I.list q
  obtain⟨as,h⟩:=Inv.readsAll I all rv
  exact⟨_,.list e c d (by simpa using h)⟩
 |_,_,_,.tup q all,r=>by
  cases r
  obtain⟨its,rv,⟨o,e,c,n,d⟩,_⟩:=I.tuple q
  obtain⟨as,h⟩:=Inv.readsAll I all rv
  exact⟨_,.tuple e c d (by simpa using h)⟩
theorem Inv.readsAll(I:Inv X a6 σ H s): ∀{vs:List V} {ds:List Ik} {us:List Value},zM7 X.K H vs ds->Vals vs us-> ∃as,ReadsAll s.heap us ds as
 | _,_,_,.nil,r => by cases r;exact ⟨_,.nil⟩
 | _,_,_,.cons h t,r => by
  cases r with
  |cons r1 r2=>
   obtain⟨as,h1⟩:=Inv.reads I h r1
   obtain⟨bs,h2⟩:=Inv.readsAll I t r2
   exact⟨_,.cons h1 h2⟩
end
end
def rEqD(K:Ad):R2:=fun x y H Q=> ∃d e,Dp K H x d/\Dp K H y e/\Cz d=true/\Cz e=true/\Q (.bl (Fk d e)) H
def rNeD(K:Ad):R2:=fun x y H Q=> ∃d e,Dp K H x d/\Dp K H y e/\Cz d=true/\Cz e=true/\Q (.bl (!PyData.eqv d e)) H
section
variable{X:Cx}
theorem zZ7(hu:X.A.units+64<cLine):OpR X (C0 .Eq) (rEqD X.K):=by
 intro a6 s σ H x y v u Q I rx ry h
 obtain⟨d,e,hd,he,sd,se,q⟩:=h
 obtain⟨as,h1⟩:=I.reads hd rx
 obtain⟨bs,h2⟩:=I.reads he ry
 exact eq_dataH h1 h2 sd se hu (zNI I q rfl)
theorem zZ5(hu:X.A.units+64<cLine):OpR X (C0 .NotEq) (rNeD X.K):=by
 intro a6 s σ H x y v u Q I rx ry h
 obtain⟨d,e,hd,he,sd,se,q⟩:=h
 obtain⟨as,h1⟩:=I.reads hd rx
 obtain⟨bs,h2⟩:=I.reads he ry
 exact ne_dataH h1 h2 sd se hu (zNI I q rfl)
theorem zGN: ∀{us:List Value} {ns:List Int},Jl us ns->Vals (ns.map V.int) us
 |_,_,.nil=> .nil
 |_,_,.cons i t h=> .cons ⟨t,rfl⟩ (zGN h)
theorem zGV: ∀{ns:List Int} {us:List Value},Vals (ns.map V.int) us->Jl us ns
 |[],_,.nil=> .nil
 |i::ns,_,.cons r t=>by
  obtain⟨k,rfl⟩:=r
  exact .cons i k (zGV t)
theorem zH5:zBW X (.builtin "sorted") (fun xs H Q=> ∃(p:Addr) (ns:List Int),xs=[.ref p]/\SqL X.K H p (ns.map V.int)/\ns.length<64∧
  ∀(l:Addr) (ms:List Int),H l=none->ms.Perm ns->ms.Pairwise (· <= ·)->Q (.ref l) (upd H l (.lst (ms.map V.int)))):=by
 intro a6 s σ H xs us Q I r h
 obtain⟨p,ns,rfl,hq,hl,q⟩:=h
 obtain⟨u,rfl,rx⟩:=zH0 r
 cases rx
 obtain⟨its,rv,pl,hz⟩:=I.list hq
 have a9:=rv.length
 rw[Bi] at a9
 refine sorted_ints pl.isList (zGV rv) (by omega) fun out ms a1 a2 a3=> ?_
 obtain⟨e,he⟩:=sortedAll_at s.heap its out
 have hml:ms.length=ns.length:=a2.length_eq
 have hn:H (s.heap.objs.size+1)=none:=I.hok.fresh (E3 _)
 refine⟨.ref (s.heap.objs.size+1),_,I.laid (a:=s.heap.objs.size+1) (o:= .lst (ms.map V.int)) (t':=s.toks) (fun b o=>sortedAll_old) (E3 _) ?_,rfl,q _ ms hn a2 a3⟩
 refine⟨by rw[Bi,Bt];omega,out.toList,e,zGN a1,?_⟩
 rw[he]
def rngP(p:Addr)(a b c:Int):Heap->Prop:=fun h=> ∃t u v,IsRange h p a b c t u v
theorem zM2:zBW X (.type "range") (fun xs H Q=> ∃a b c,xs=[.int a,.int b,.int c]/\0<c/\c<1073741824/\ ∀p,H p=none->Q (.ref p) (upd H p (.ext (rngP p a b c)))):=by
 intro a6 s σ H xs us Q I r h
 obtain⟨a,b,c,rfl,hc,hc2,q⟩:=h
 cases r with
 |cons r1 r=>
  cases r with
  |cons r2 r=>
   cases r with
   |cons r3 r=>
    cases r
    obtain⟨t,rfl⟩:=r1
    obtain⟨u,rfl⟩:=r2
    obtain⟨v,rfl⟩:=r3
    refine call_range_3 (by omega) ?_ (.inl (Hg (by omega)))
    have hn:=I.hok.fresh (Ae s.heap.objs.size)
    refine⟨.ref s.heap.objs.size,_,I.laid (a:=s.heap.objs.size) (o:= .ext (rngP s.heap.objs.size a b c)) (t':=s.toks) (fun _ _ z=>A1 _ z) (Ae _) ?_,rfl,q _ hn⟩
    refine⟨⟨t,u,v,Kk ..⟩,⟨_,Ai _ rfl⟩,fun h1 h2 ⟨t,u,v,z⟩ k=>⟨t,u,v,k _ z⟩⟩
theorem zL7:zBW X (.builtin "len") (fun xs H Q=> ∃p a b c,∃n:Nat,xs=[.ref p]/\H p=some (.ext (rngP p a b c))/\Co a b c=n/\(n:Int)<2 ^ 63/\Q (.int n) H):=by
 intro a6 s σ H xs us Q I r h
 obtain⟨p,a,b,c,n,rfl,hp,hn,hz,q⟩:=h
 obtain⟨u,rfl,rx⟩:=zH0 r
 cases rx
 obtain⟨⟨t,u,v,z⟩,_⟩:=I.hok p _ hp
 exact call_len_range z hn hz ⟨.int n,H,I.tok _,⟨_,rfl⟩,q⟩
inductive zOK:List Hl->List (Str×V)->Prop
 |nil:zOK [] []
 |cons {e:Hl} {es:List Hl} {x:Str} {t:Tok} {v:V} {D:List (Str×V)}:e.key= .str x t->RelV v e.val->zOK es D->zOK (e::es) ((x,v)::D)
def KTab(K:Ad)(a:Addr)(D:List (Str×V)):Prop:=
 (a==De)=false/\ ∃o es ep,K.lookup a=some o/\o.ExactDict/\o.data= .dict es ep/\zOK es.toList D
theorem zOK.rows{es:List Hl}{D:List (Str×V)}(h:zOK es D):KTD.Rows RelV es D:=by
 induction h with
 |nil=>exact .nil
 |cons h1 h2 _ ih=>exact .cons h1 h2 ih
theorem zNC{A:C3}{E:Value->A7->Prop}{s:A7}{K:Ad}{prog:Aw}{w:World}{a:Addr}{D:List (Str×V)}{k:Str}{tk:Tok}{Q:Option Value->A7->Prop}(hK:K.In s.heap)(T:KTab K a D)
  (h1: ∀d v,Dm k D=some d->RelV d v->Q (some v) {s with toks:=s.toks+1}) (h2:Dm k D=none->Q none {s with toks:=s.toks+1}):
  wpAny (model prog w) A (dictGet a (.str k tk)) Q E s:=by
 obtain⟨_,o,es,ep,ho,hc,hd,hr⟩:=T
 have ho:=hK _ _ ho
 have hr:=hr.rows
 unfold dictGet
 try with_reducible refine Be ?_
 refine A0 (wpAny_pyHash_str (A0 (KTD.kt_dictFind_strs (s:={s with toks:=s.toks+1}) ho hd (by obtain⟨l⟩:=es;simpa using hr.exact) ?_)))
 have hq:Q (findBy (fun k v=>v.isStr k) es k) {s with toks:=s.toks+1}:=by
  have hf:findBy (fun k v=>v.isStr k) es k=(es.toList.find? fun e=>e.key.isStr k).map (·.val):=by
   obtain⟨l⟩:=es
   simp[findBy]
  rw[hf]
  cases hat:Dm k D with
  |some d=>obtain⟨v,hv,hfl⟩:=hr.find_some hat;rw[hv];exact h1 d v hat hfl
  |none=>rw[hr.find_none hat];exact h2 hat
 rw[findBy_of_findIdx?] at hq
 cases hi:es.findIdx? fun e=>e.key.isStr k with
 |none=>rw[hi] at hq;exact A9 hq
 |some i=>rw[hi] at hq;exact A0 (wpAny_dictEntries (s:={s with toks:=s.toks+1}) ho hd (A9 hq))
theorem zWP:IxR X (fun x y H Q=> ∃a k D v,x= .ref a/\y= .str k/\KTab X.K a D/\Dm k D=some v/\Q v H):=by
 intro value slice a6 s σ H x y v u Q I rx ry h hs
 obtain⟨a,k,D,d,rfl,rfl,T,hk,q⟩:=h
 cases rx
 obtain⟨t,rfl⟩:=ry
 have hT:s.TypeIs (.ref a) "dict":=by
  obtain⟨_,o,es,ep,ho,hc,_⟩:=T
  exact⟨o,I.kIn _ _ ho,hc.1⟩
 have main:wpAny (model X.prog X.w) X.A (Gv (.ref a) (.str k t)) (EP X a6 σ Q) X.xe s:=by
  unfold Gv
  try with_reducible refine Be ?_
  refine A0 (Gm hT (by decide) ?_)
  refine A0 (C8 (name:=Av "__getitem__") hT Gf
   (Cv Gf hT PySem.F.entry_dict_getitem ?_ (PySem.F.args_dict_getitem_2 _ _)))
  show wpAny _ _ (dictGet a (.str k t)>>=_) _ _ s
  exact A0 (zNC I.kIn T (fun d' v' ha hv=>A9 ⟨v',rfl,A9 (by
   rw[hk] at ha;cases ha
   exact⟨d,H,I.tok _,hv,q⟩)⟩) fun hn=>by rw[hk] at hn;cases hn)
 exact Lm hT PySem.F.slot_dict_getitem.lookup main hs
end
section
variable{prog:Aw}{w:World}{A:C3}{E:Value->A7->Prop}{s:A7}
theorem zKY{it t:Addr}{items:Array Value}(hne:t≠it): ∀(n i:Nat) (s:A7) (Q:List Value->A7->Prop),s.heap.IsListIter it t i->s.heap.IsList t items->i+n<=items.size→
  (∀h',h'.IsListIter it t (i+n)->Dt it s.heap h'->Q ((items.toList.drop i).take n) {s with heap:=h'})->wpAny (model prog w) A (draw (.ref it) n) Q E s
 |0,i,s,Q,hit,_,_,hQ=>by
  show wpAny _ _ (pure []) Q E s
  exact A9 (by simpa using hQ s.heap hit (Heap.SameBut.refl ..))
 |n+1,i,s,Q,hit,ht,hle,hQ=>by
  have hlt:i<items.size:=by omega
  show wpAny _ _ (pyNext (.ref it)>>=_) Q E s
  refine A0 (Hf hit ht (x:=items[i]) (by simp[hlt]) fun h₁ hit₁ hs₁=> ?_)
  refine A0 (Be (zKY hne n (i+1) _ _ hit₁ (ht.extBut hs₁.extBut hne) (by omega) fun h₂ hit₂ hs₂=>A9 ?_))
  have hd:items.toList.drop i=items[i]::items.toList.drop (i+1):=by simp[Cy,hlt]
  have:=hQ h₂ (by rw[show i+(n+1)=i+1+n by omega];exact hit₂) (hs₁.trans hs₂)
  rw[hd,Fy] at this
  exact this
theorem zH1{t:Addr}{items:Array Value}{Q:List Value->A7->Prop}(hh:A.handled=none)(ht:s.heap.IsList t items)
  (hQ: ∀h',Fz s.heap.objs.size s.heap h'->Q items.toList {s with heap:=h'}):wpAny (model prog w) A (Fp (.ref t) items.size none) Q E s:=by
 have hlt:t≠s.heap.objs.size:=by obtain⟨o,ho,_⟩:=ht;exact Au (Ac ho)
 unfold Fp
 refine A0 ?_
 ·unfold notIterableAtAll
  refine A0 (wpAny_specialOf ht.typeIs PySem.F.slot_list_iter.lookup ?_)
  refine A9 ?_
  simp only[Di,if_false]
  refine A0 (Be (E8 ht ?_))
  have htp:(s.heap.push {cls:= .type "list_iterator",data:= .fields #[.ref t,.int 0 0]}).IsList t items:=by
   obtain⟨o,ho,r⟩:=ht
   exact⟨o,A1 _ ho,r⟩
  refine A0 (Be (zKY hlt items.size 0 _ _ ⟨_,Ai _ rfl,rfl,rfl⟩ htp (by omega) fun h₁ hit₁ hs₁=> ?_))
  have cu:List.take items.size (List.drop 0 items.toList)=items.toList:=by rw[Il];exact Bm (by simp)
  rw[cu]
  rw[if_neg (by simp)]
  have ht₁:h₁.IsList t items:=htp.extBut hs₁.extBut hlt
  refine A0 (Be (Hq hh hit₁ ht₁ (by simp) fun h₂ he₂=> ?_))
  simp only[Option.isSome_none,Di,if_false]
  refine A9 (hQ h₂ fun b o hb e=>he₂ b o hb (hs₁.extBut b o hb (A1 _ e)))
theorem zGG{env:Env}{gm:List Expr}{x1}{pos:Pos}{t:Addr}{items:Array Value}{Q:Unit->A7->Prop}(hh:A.handled=none)(ht:s.heap.IsList t items)
  (hn:(assignEach gm env).length=items.size) (li:(assignEach gm env).findIdx? (·.1)=none)
  (h: ∀h',Fz s.heap.objs.size s.heap h'->wpAny (model prog w) A (assignInOrder ((assignEach gm env).map (·.2)) items.toList) Q E {s with heap:=h'}):
  wpAny (model prog w) A (assign (.Tuple gm x1 pos) env (.ref t)) Q E s:=by
 rw[assign_Tuple]
 refine A0 (E7 ?_)
 unfold unpack
 rw[hn,li]
 exact A0 (Be (zH1 hh ht h))
end
section
variable{X:Cx}{pos:Pos}
def gLst(K:Ad)(n:Nat)(t:TGs):TG:=fun v σ H Q=> ∃a xs,v= .ref a/\SqL K H a xs/\xs.length=n/\t xs σ H Q
theorem zYW{es:List Expr}{k:Nat}{t:TGs}{n:Nat}(hc:X.calm=true)(h:PGs X es t)
  (hn:(assignEach es X.env).length=n:=by rfl) (hst:(assignEach es X.env).findIdx? (·.1)=none:=by rfl):PG X (.Tuple es k pos) (gLst X.K n t):=by
 intro a6 s σ H v u Q I r hw
 obtain⟨a,xs,e1,hq,hl,hw⟩:=hw
 subst e1
 cases r
 obtain⟨its,rv,ht,hz⟩:=I.list hq
 refine zGG (I.ok.hd hc) ht.isList (by simp[hn,<- hl,rv.length]) hst fun h' hx=> ?_
 have I1:Inv X a6 σ H {s with heap:=h'}:=I.kept (t':=s.toks) fun b o e=>hx b o (Au (Ac e)) e
 exact h a6 _ σ H xs _ Q I1 (by simpa using rv) hw
def FnAt(X:Cx)(f:Addr)(sp:Sp):Prop:= ∃(k:Nat) (fd:D9) (ps:List Str),FnOk X.prog X.w X.K X.mg X.base CX0 k f fd ps sp/\Room k X.A/\Ep X.K (.ref f)=true/\zJV X.K fd ps []
def zXL(X:Cx)(tf:TE)(t:TA):TE:=fun σ H Q=>tf σ H fun x H1=> ∃f sp,x= .ref f/\FnAt X f sp/\t σ H1 fun vs H2=>sp vs H2 Q E0
theorem zT5{x:Str}{p pos:Pos}{e:Expr}{es:List Expr}{tf:TE}{t:TA}(hf:PE X (.Name x p) tf)(ha:PA X (e::es) t)
  (he:A2 (e::es) X.env=(false,eval e X.env)::A2 es X.env:=by rfl) (hpl:(Dc pos (A2 es X.env)).any (·.1)=false:=by rfl):
  PE X (.Call (.Name x p) (e::es) [] pos) (zXL X tf t):=by
 intro a6 s σ H Q I h
 refine Dg (thn (hf a6 s σ H _ I h) fun u s1 ⟨x,H1,I1,rx,f,sp,ex,F,q⟩=> ?_)
 subst ex
 obtain rfl:u=Ax f:=rx
 obtain⟨k,fd,ps,F,hr,hk,hb⟩:=F
 refine W.callWith_K (h₀:=X.base) I.ok.mod.kin hk (thn (ha pos a6 s1 σ H1 _ I1 q) fun us s2 ⟨vs,H2,I2,r,q2⟩=>⟨I2.kIn,?_⟩) he hpl
 refine zU5 (dvs:=[]) (ds:=[]) F hr hb .nil zW4 I2 r ?_
 rw[Cq]
 exact q2
end
section
variable{X:Cx}{K:Ad}
theorem yEI(h:X.K=K):zBW X (.type "list") (fun xs H Q=> ∃p ys,xs=[.ref p]/\(SqL K H p ys∨SqT K H p ys)/\ ∀l,H l=none->Q (.ref l) (upd H l (.lst ys))):=by subst h;exact zL4
theorem yAR(h:X.K=K):zBW X (.type "tuple") (fun xs H Q=> ∃p ys,xs=[.ref p]/\((SqL K H p ys/\ ∀l,H l=none->Q (.ref l) (upd H l (.tup ys)))∨(SqT K H p ys/\Q (.ref p) H))):=by subst h;exact zJQ
theorem zWN(h:X.K=K):zBW X (.builtin "sorted") (fun xs H Q=> ∃(p:Addr) (ns:List Int),xs=[.ref p]/\SqL K H p (ns.map V.int)/\ns.length<64∧
  ∀(l:Addr) (ms:List Int),H l=none->ms.Perm ns->ms.Pairwise (· <= ·)->Q (.ref l) (upd H l (.lst (ms.map V.int)))):=by subst h;exact zH5
theorem kEqD(h:X.K=K)(hu:X.A.units+64<cLine):OpR X (C0 .Eq) (rEqD K):=by subst h;exact zZ7 hu
theorem kNeD(h:X.K=K)(hu:X.A.units+64<cLine):OpR X (C0 .NotEq) (rNeD K):=by subst h;exact zZ5 hu
theorem zWM(h:X.K=K){es:List Expr}{k:Nat}{t:TGs}{n:Nat}{pos:Pos}(hc:X.calm=true)(hg:PGs X es t)(hn:(assignEach es X.env).length=n:=by rfl)(hst:(assignEach es X.env).findIdx? (·.1)=none:=by rfl):PG X (.Tuple es k pos) (gTup K n t):=by subst h;exact zYU hc hg hn hst
theorem yEH(h:X.K=K){es:List Expr}{k:Nat}{t:TGs}{n:Nat}{pos:Pos}(hc:X.calm=true)(hg:PGs X es t)(hn:(assignEach es X.env).length=n:=by rfl)(hst:(assignEach es X.env).findIdx? (·.1)=none:=by rfl):PG X (.Tuple es k pos) (gLst K n t):=by subst h;exact zYW hc hg hn hst
theorem zUM(h:X.K=K){tg l:Expr}{tl:TE}(hl:PE X l tl):PI X tg l (yB2 K tl):=by subst h;exact zVX hl
theorem yAL(h:X.K=K){tg l:Expr}{tl:TE}(hl:PE X l tl):PI X tg l (iTup K tl):=by subst h;exact zYT hl
theorem kBm(h:X.K=K){o e:Expr}{es:List Expr}{to:TE}{t:TA}{name:Str}{aj a8:Pos}{T id:String}{r:V->List V->Hp->VK->Prop}(pa:PlainAttrs T)(slot:Slot T name id)(hty:typeOf (.builtin id)=pure (.type "method_descriptor")) (hm:MtR X id r) (ho:PE X o to) (ha:PA X (e::es) t)
  (b9 : Es o name X.env (eval o X.env) = eval o X.env := by rfl)
  (cq : ((Dc a8 (A2 (e :: es) X.env)).all (fun x => !x.1) && (J7 a8 (Fu [] X.env)).all (fun x => x.1.isSome)
   && decide ((e::es).length+([]:List Fv).length+(if([]:List Fv).isEmpty then 0 else 1)<30))=true:=by rfl)
  (b8:(aj.endLine==a8.line)=true:=by rfl) (hs:A2 (e::es) X.env=(false,eval e X.env)::A2 es X.env:=by rfl) (au:(Dc a8 (A2 es X.env)).any (·.1)=false:=by rfl):
  PE X (.Call (.Attribute o name aj) (e::es) [] a8) (tBM K T r to t):=by
 subst h;exact yDF pa slot hty hm ho ha b9 cq b8 hs au
end
theorem zUT:As "len"=some (.builtin "len"):=by decide+kernel
theorem zRS:As "min"=some (.builtin "min"):=by decide+kernel
theorem zUS:As "max"=some (.builtin "max"):=by decide+kernel
theorem zL8:As "sorted"=some (.builtin "sorted"):=by decide+kernel
theorem zJS:As "isinstance"=some (.builtin "isinstance"):=by decide+kernel
theorem zEE:As "list"=some (.type "list"):=by decide+kernel
theorem zDI:As "tuple"=some (.type "tuple"):=by decide+kernel
theorem zNT:As "range"=some (.type "range"):=by decide+kernel
theorem zX1:As "bool"=some (.type "bool"):=by decide+kernel
theorem yBF:As "int"=some (.type "int"):=by decide+kernel
theorem yBE:As "str"=some (.type "str"):=by decide+kernel
structure Def(P:Aw)(w:World)(K:Ad)(mg:Str->Option Value)(base:Heap)(x:Str)(k:Nat)(ps:List Str)(sp:Sp)(f:Addr):Prop where
 at_:mg x=some (.ref f)
 ok: ∃fd,FnOk P w K mg base CX0 k f fd ps sp/\zJV K fd ps []
 kp:Ep K (.ref f)=true
section
variable{X:Cx}{x:Str}{k j:Nat}{ps:List Str}{sp:Sp}{f:Addr}{p pos:Pos}{e:Expr}{es:List Expr}{t:TA}
theorem zN1(D:Def X.prog X.w X.K X.mg X.base x k ps sp f)(hr:Room j X.A)(hk:k<=j)(hg:Gl X x)(ha:PA X (e::es) t)(hdb:(x==("__debug__":Str))=false:=by decide)
  (he:A2 (e::es) X.env=(false,eval e X.env)::A2 es X.env:=by rfl) (hpl:(Dc pos (A2 es X.env)).any (·.1)=false:=by rfl):
  PE X (.Call (.Name x p) (e::es) [] pos) (zVB sp [] E0 t):=by
 obtain⟨fd,F,B⟩:=D.ok
 exact zQD F (hr.mono hk) hg D.at_ D.kp B .nil zW4 ha hdb he hpl
theorem Def.fnAt(D:Def X.prog X.w X.K X.mg X.base x k ps sp f)(hr:Room j X.A)(hk:k<=j):FnAt X f sp:=by
 obtain⟨fd,F,B⟩:=D.ok
 exact⟨k,fd,ps,F,hr.mono hk,D.kp,B⟩
end
theorem zA5{H:Hp}{p:Addr}{o:HO}(hp:H p=none):Same H (upd H p o):=fun b o' e=>by
 rw[zAV (zD3 e hp)]
 exact e
theorem zLH(ns:List Int):Cz (.list (ns.map Jn))=true:=by
 have h1:Dw (.list (ns.map Jn))=true:=by simp only[Dw,canLayAll_ints]
 have h2:Fc (.list (ns.map Jn))<=64:=by
  simp only[Fc,depthAll_ints]
  decide
 unfold Cz
 rw[h1,decide_eq_true h2]
 rfl
inductive Dat where
 |non|bl (b:Bool)|int (i:Int)|str (x:Str)|ty (n:String)|fn (x:Str)|tup (ds:List Dat)|lst (ds:List Dat)|dct (ks:List Key) (ds:List Dat)|exn (x:Str)
def FzL(K:Ad)(H:Hp)(a:Addr)(xs:List V):Prop:=
 (∃o,H a=some (.frz o (.lst xs)))∨
  ∃(o:Obj) (its:Array Value) (n:Nat),K.lookup a=some o/\o.cls= .type "list" /\o.dict=none/\o.data= .seq its n/\its.size<=sizeLine/\Vals xs its.toList
theorem FzL.sq{K:Ad}{H:Hp}{a:Addr}{xs:List V}(h:FzL K H a xs):SqL K H a xs:=by
 rcases h with⟨o,h⟩|h
 ·exact .inl (.inr ⟨o,h⟩)
 ·exact .inr h
def yFH(h:Heap)(a C:Addr):Prop:= ∃o vs,h.get? a=some o/\o.cls= .ref C/\o.data= .fields vs
mutual
inductive Rep(K:Ad)(N:Addr->Prop)(H:Hp):(Addr->Prop)->V->Dat->Prop
 |non {M:Addr->Prop}:Rep K N H M .non .non
 |bl {M:Addr->Prop} (b:Bool):Rep K N H M (.bl b) (.bl b)
 |int {M:Addr->Prop} (i:Int):Rep K N H M (.int i) (.int i)
 |str {M:Addr->Prop} (x:Str):Rep K N H M (.str x) (.str x)
 |ty {M:Addr->Prop} (n:String):Rep K N H M (.ty n) (.ty n)
 |fn {M:Addr->Prop} {a:Addr} {x:Str}:Hz K mainGlobals x=some (some (.ref a))->Rep K N H M (.ref a) (.fn x)
 |tup {M:Addr->Prop} {a:Addr} {xs:List V} {ds:List Dat}:SqT K H a xs->RepA K N H xs ds->Rep K N H M (.ref a) (.tup ds)
 |lst {M:Addr->Prop} {a:Addr} {xs:List V} {ds:List Dat}:H a=some (.lst xs)-> ¬M a->RepA K N H xs ds->Rep K N H M (.ref a) (.lst ds)
 |fzl {M:Addr->Prop} {a:Addr} {xs:List V} {ds:List Dat}:FzL K H a xs->RepA K N H xs ds->Rep K N H M (.ref a) (.lst ds)
 |dct {M:Addr->Prop} {a:Addr} {kvs:List (Key×V)} {ds:List Dat}:H a=some (.dK kvs)-> ¬M a->RepA K N H (kvs.map C2) ds->Rep K N H M (.ref a) (.dct (kvs.map Bh) ds)
 |ktb {M:Addr->Prop} {a:Addr} {D:List (Str×V)} {ds:List Dat}:KTab K a D->RepA K N H (D.map C2) ds->Rep K N H M (.ref a) (.dct (D.map fun p=> .inr p.1) ds)
 |exn {M:Addr->Prop} {a C:Addr} {x:Str} {φ:Heap->Prop}:Hz K mainGlobals x=some (some (.ref C))->H a=some (.ext φ)->(∀h,φ h->yFH h a C)->Rep K N H M (.ref a) (.exn x)
inductive RepA(K:Ad)(N:Addr->Prop)(H:Hp):List V->List Dat->Prop
 |nil:RepA K N H [] []
 |cons {v:V} {vs:List V} {d:Dat} {ds:List Dat}:Rep K N H N v d->RepA K N H vs ds->RepA K N H (v::vs) (d::ds)
end
def Hard:HO->Prop
 | .tup _=>True
 | .frz _ _=>True
 | .ext _=>True
 |_=>False
def Fr(P:Addr->Prop)(H H':Hp):Prop:= ∀b o,H b=some o->(P b->Hard o)->H' b=some o
theorem Fr.refl(P:Addr->Prop)(H:Hp):Fr P H H:=fun _ _ h _=>h
theorem Fr.trans{P:Addr->Prop}{H H1 H2:Hp}(a:Fr P H H1)(b:Fr P H1 H2):Fr P H H2:=fun c o h n=>b c o (a c o h n) n
theorem Fr.mono{P P':Addr->Prop}{H H':Hp}(a:Fr P H H')(h: ∀b,P b->P' b):Fr P' H H':=fun c o e n=>a c o e fun z=>n (h c z)
theorem Same.fr{P:Addr->Prop}{H H':Hp}(a:Same H H'):Fr P H H':=fun c o h _=>a c o h
section
variable{K:Ad}{N N' M M' P:Addr->Prop}{H H':Hp}
theorem Fr.tup(f:Fr P H H'){a:Addr}{xs:List V}(h:SqT K H a xs):SqT K H' a xs:=by
 rcases h with(h|⟨o,h⟩)|h
 ·exact .inl (.inl (f _ _ h fun _=>trivial))
 ·exact .inl (.inr ⟨o,f _ _ h fun _=>trivial⟩)
 ·exact .inr h
theorem Fr.fzl(f:Fr P H H'){a:Addr}{xs:List V}(h:FzL K H a xs):FzL K H' a xs:=by
 rcases h with⟨o,h⟩|h
 ·exact .inl ⟨o,f _ _ h fun _=>trivial⟩
 ·exact .inr h
mutual
theorem Rep.fr(f:Fr P H H')(hN: ∀a,P a->N a): ∀{M:Addr->Prop} {v:V} {d:Dat},(∀a,P a->M a)->Rep K N H M v d->Rep K N H' M v d
 |_,_,_,_,.non=> .non
 |_,_,_,_,.bl b=> .bl b
 |_,_,_,_,.int i=> .int i
 |_,_,_,_,.str x=> .str x
 |_,_,_,_,.ty n=> .ty n
 |_,_,_,_,.fn h=> .fn h
 |_,_,_,_,.tup q r=> .tup (f.tup q) (RepA.fr f hN r)
 |_,_,_,hM,.lst q n r=> .lst (f _ _ q fun z=>absurd (hM _ z) n) n (RepA.fr f hN r)
 |_,_,_,_,.fzl q r=> .fzl (f.fzl q) (RepA.fr f hN r)
 |_,_,_,hM,.dct q n r=> .dct (f _ _ q fun z=>absurd (hM _ z) n) n (RepA.fr f hN r)
 |_,_,_,_,.ktb q r=> .ktb q (RepA.fr f hN r)
 |_,_,_,_,.exn p q r=> .exn p (f _ _ q fun _=>trivial) r
theorem RepA.fr(f:Fr P H H')(hN: ∀a,P a->N a): ∀{vs:List V} {ds:List Dat},RepA K N H vs ds->RepA K N H' vs ds
 |_,_,.nil=> .nil
 |_,_,.cons h t=> .cons (Rep.fr f hN hN h) (RepA.fr f hN t)
end
mutual
theorem Rep.mono(hN: ∀a,N' a->N a): ∀{M M':Addr->Prop} {v:V} {d:Dat},(∀a,M' a->M a)->Rep K N H M v d->Rep K N' H M' v d
 |_,_,_,_,_,.non=> .non
 |_,_,_,_,_,.bl b=> .bl b
 |_,_,_,_,_,.int i=> .int i
 |_,_,_,_,_,.str x=> .str x
 |_,_,_,_,_,.ty n=> .ty n
 |_,_,_,_,_,.fn h=> .fn h
 |_,_,_,_,_,.tup q r=> .tup q (RepA.mono hN r)
 |_,_,_,_,hM,.lst q n r=> .lst q (fun z=>n (hM _ z)) (RepA.mono hN r)
 |_,_,_,_,_,.fzl q r=> .fzl q (RepA.mono hN r)
 |_,_,_,_,hM,.dct q n r=> .dct q (fun z=>n (hM _ z)) (RepA.mono hN r)
 |_,_,_,_,_,.ktb q r=> .ktb q (RepA.mono hN r)
 |_,_,_,_,_,.exn p q r=> .exn p q r
theorem RepA.mono(hN: ∀a,N' a->N a): ∀{vs:List V} {ds:List Dat},RepA K N H vs ds->RepA K N' H vs ds
 |_,_,.nil=> .nil
 |_,_,.cons h t=> .cons (Rep.mono hN hN h) (RepA.mono hN t)
end
theorem Rep.same(f:Same H H'){v:V}{d:Dat}(h:Rep K N H M v d):Rep K N H' M v d:=h.fr f.fr (fun _ z=>z.elim) (P:=fun _=>False) fun _ z=>z.elim
theorem RepA.same(f:Same H H'){vs:List V}{ds:List Dat}(h:RepA K N H vs ds):RepA K N H' vs ds:=h.fr f.fr (P:=fun _=>False) fun _ z=>z.elim
theorem RepA.length: ∀{vs:List V} {ds:List Dat},RepA K N H vs ds->vs.length=ds.length
 |_,_,.nil=>rfl
 |_,_,.cons _ t=>congrArg (· +1) (RepA.length t)
theorem RepA.append: ∀{vs ws:List V} {ds es:List Dat},RepA K N H vs ds->RepA K N H ws es->RepA K N H (vs++ws) (ds++es)
 |_,_,_,_,.nil,s=>s
 |_,_,_,_,.cons h t,s=> .cons h (RepA.append t s)
theorem RepA.get: ∀{vs:List V} {ds:List Dat} {i:Nat} {d:Dat},RepA K N H vs ds->ds[i]? =some d-> ∃v,vs[i]? =some v/\Rep K N H N v d
 |_,_,_,_,.nil,e=>by simp at e
 |_,_,0,_,.cons r _,e=>by simp at e;subst e;exact⟨_,rfl,r⟩
 |_,_,i+1,x,.cons _ t,e=>by
  obtain⟨u,h1,h2⟩:=RepA.get (i:=i) (d:=x) t (by simpa using e)
  exact⟨u,by simpa using h1,h2⟩
theorem RepA.take: ∀{vs:List V} {ds:List Dat} (n:Nat),RepA K N H vs ds->RepA K N H (vs.take n) (ds.take n)
 |_,_,0,_=> .nil
 |_,_,_+1,.nil=> .nil
 |_,_,n+1,.cons r t=> .cons r (RepA.take n t)
theorem RepA.drop: ∀{vs:List V} {ds:List Dat} (n:Nat),RepA K N H vs ds->RepA K N H (vs.drop n) (ds.drop n)
 |_,_,0,r=>r
 |_,_,_+1,.nil=> .nil
 |_,_,n+1,.cons _ t=>RepA.drop n t
theorem RepA.set{v:V}{d:Dat}(h:Rep K N H N v d): ∀{vs:List V} {ds:List Dat} (i:Nat),RepA K N H vs ds->RepA K N H (vs.set i v) (ds.set i d)
 |_,_,_,.nil=> .nil
 |_,_,0,.cons _ t=> .cons h t
 |_,_,i+1,.cons q t=> .cons q (RepA.set h i t)
theorem RepA.snoc{vs:List V}{ds:List Dat}{v:V}{d:Dat}(r:RepA K N H vs ds)(h:Rep K N H N v d):RepA K N H (vs++[v]) (ds++[d]):=r.append (.cons h .nil)
end
mutual
def Dat.isD:Dat->Bool
 | .non=>true
 | .bl _=>true
 | .int _=>true
 | .str _=>true
 | .ty _=>false
 | .fn _=>false
 | .tup ds=>isDs ds
 | .lst ds=>isDs ds
 | .dct _ _=>false
 | .exn _=>false
def isDs:List Dat->Bool
 |[]=>true
 |d::ds=>d.isD && isDs ds
end
mutual
def Dat.pd:Dat->Ik
 | .non=> .none
 | .bl b=> .bool b
 | .int i=> .int i
 | .str x=> .str x
 | .ty _=> .none
 | .fn _=> .none
 | .tup ds=> .tuple (pds ds)
 | .lst ds=> .list (pds ds)
 | .dct _ _=> .none
 | .exn _=> .none
def pds:List Dat->List Ik
 |[]=>[]
 |d::ds=>d.pd::pds ds
end
mutual
def Dat.hard:Dat->Bool
 | .tup ds=>zH4 ds
 | .lst _=>false
 | .dct _ _=>false
 |_=>true
def zH4:List Dat->Bool
 |[]=>true
 |d::ds=>d.hard && zH4 ds
end
section
variable{K:Ad}{N:Addr->Prop}{H:Hp}
mutual
theorem Rep.dp: ∀{M:Addr->Prop} {v:V} {d:Dat},Rep K N H M v d->d.isD=true->Dp K H v d.pd
 |_,_,_,.non,_=> .non
 |_,_,_,.bl b,_=> .bl b
 |_,_,_,.int i,_=> .int i
 |_,_,_,.str x,_=> .str x
 |_,_,_,.ty n,h=>by simp[Dat.isD] at h
 |_,_,_,.fn _,h=>by simp[Dat.isD] at h
 |_,_,_,.tup q r,h=> .tup q (RepA.dp r (by simpa[Dat.isD] using h))
 |_,_,_,.lst q n r,h=> .lst (SqL.of q) (RepA.dp r (by simpa[Dat.isD] using h))
 |_,_,_,.fzl q r,h=> .lst q.sq (RepA.dp r (by simpa[Dat.isD] using h))
 |_,_,_,.dct _ _ _,h=>by simp[Dat.isD] at h
 |_,_,_,.ktb _ _,h=>by simp[Dat.isD] at h
 |_,_,_,.exn _ _ _,h=>by simp[Dat.isD] at h
theorem RepA.dp: ∀{vs:List V} {ds:List Dat},RepA K N H vs ds->isDs ds=true->zM7 K H vs (pds ds)
 |_,_,.nil,_=> .nil
 |_,_,.cons h t,e=> .cons (Rep.dp h (by simp[isDs] at e;exact e.1)) (RepA.dp t (by simp[isDs] at e;exact e.2))
end
mutual
theorem Rep.hard{N':Addr->Prop}: ∀{M M':Addr->Prop} {v:V} {d:Dat},Rep K N H M v d->d.hard=true->Rep K N' H M' v d
 |_,_,_,_,.non,_=> .non
 |_,_,_,_,.bl b,_=> .bl b
 |_,_,_,_,.int i,_=> .int i
 |_,_,_,_,.str x,_=> .str x
 |_,_,_,_,.ty n,h=> .ty n
 |_,_,_,_,.fn q,h=> .fn q
 |_,_,_,_,.tup q r,h=> .tup q (RepA.hard r (by simpa[Dat.hard] using h))
 |_,_,_,_,.lst q n r,h=>by simp[Dat.hard] at h
 |_,_,_,_,.fzl q r,h=>by simp[Dat.hard] at h
 |_,_,_,_,.dct _ _ _,h=>by simp[Dat.hard] at h
 |_,_,_,_,.ktb _ _,h=>by simp[Dat.hard] at h
 |_,_,_,_,.exn p q r,_=> .exn p q r
theorem RepA.hard{N':Addr->Prop}: ∀{vs:List V} {ds:List Dat},RepA K N H vs ds->zH4 ds=true->RepA K N' H vs ds
 |_,_,.nil,_=> .nil
 |_,_,.cons h t,e=> .cons (Rep.hard h (by simp[zH4] at e;exact e.1)) (RepA.hard t (by simp[zH4] at e;exact e.2))
end
end
inductive Sl where
 |no|va (d:Dat)|ow (d:Dat)
abbrev Ev:=List Sl
structure Bs where
 Z:Addr->Prop
 P:Addr->Prop
 H0:Hp
 mu:Nat->Option Addr
 kp:List (V×Dat)
def Nn(B:Bs)(O:Nat->Option Addr):Addr->Prop:=fun a=>B.Z a∨ ∃i,O i=some a
def OA(O:Nat->Option Addr):Addr->Prop:=fun a=> ∃i,O i=some a
inductive Own(K:Ad)(N:Addr->Prop)(H:Hp)(a:Addr):Dat->Prop
 |lst {xs:List V} {ds:List Dat}:H a=some (.lst xs)->RepA K N H xs ds->Own K N H a (.lst ds)
 |dct {kvs:List (Key×V)} {ds:List Dat}:H a=some (.dK kvs)->RepA K N H (kvs.map C2) ds->Own K N H a (.dct (kvs.map Bh) ds)
theorem Own.fr{K:Ad}{N P:Addr->Prop}{H H':Hp}{a:Addr}{d:Dat}(f:Fr P H H')(hN: ∀a,P a->N a)(ha: ¬P a):Own K N H a d->Own K N H' a d
 | .lst q r=> .lst (f _ _ q fun z=>absurd z ha) (r.fr f hN)
 | .dct q r=> .dct (f _ _ q fun z=>absurd z ha) (r.fr f hN)
theorem Own.mono{K:Ad}{N N':Addr->Prop}{H:Hp}{a:Addr}{d:Dat}(h: ∀b,N' b->N b):Own K N H a d->Own K N' H a d
 | .lst q r=> .lst q (r.mono h)
 | .dct q r=> .dct q (r.mono h)
theorem Own.soft{K:Ad}{N:Addr->Prop}{H:Hp}{a:Addr}{d:Dat}(h:Own K N H a d): ∃o,H a=some o/\¬Hard o:=by
 cases h with
 |lst q _=>exact⟨_,q,fun z=>z⟩
 |dct q _=>exact⟨_,q,fun z=>z⟩
theorem Own.rep{K:Ad}{N M:Addr->Prop}{H:Hp}{a:Addr}{d:Dat}(h:Own K N H a d)(hM: ¬M a):Rep K N H M (.ref a) d:=by
 cases h with
 |lst q r=>exact .lst q hM r
 |dct q r=>exact .dct q hM r
structure Sta(K:Ad)(ml:List Nat)(B:Bs)(O:Nat->Option Addr)(H:Hp)(σ:St)(δ:Ev):Prop where
 len:σ.length=δ.length
 va: ∀(i:Nat) (d:Dat),δ[i]? =some (Sl.va d)-> ∃v,σ[i]? =some (some v)/\Rep K (Nn B O) H (Nn B O) v d
 ow: ∀(i:Nat) (d:Dat),δ[i]? =some (Sl.ow d)-> ∃a,O i=some a/\σ[i]? =some (some (.ref a))/\Own K (Nn B O) H a d
 dom: ∀(i:Nat) a,O i=some a-> ∃d,δ[i]? =some (Sl.ow d)
 inj: ∀i j a,O i=some a->O j=some a->i=j
 old: ∀i a,O i=some a-> ¬B.Z a/\(B.P a∨B.H0 a=none)
 zin: ∀a,B.Z a-> ∃o,H a=some o
 frm:Fr B.P B.H0 H
 par:(∀i a,B.mu i=some a->i∈ml)/\ ∀i∈ml,O i=B.mu i
 pin: ∀a,B.P a-> ∃o,H a=some o
 kep: ∀p∈B.kp,Rep K (Nn B O) H (Nn B O) p.1 p.2
section
variable{K:Ad}{ml:List Nat}{B:Bs}{O:Nat->Option Addr}{H H':Hp}{σ:St}{δ δ':Ev}
theorem Sta.nin(S:Sta K ml B O H σ δ){a:Addr}(h:Nn B O a): ∃o,H a=some o:=by
 rcases h with h|⟨i,h⟩
 ·exact S.zin a h
 ·obtain⟨d,e⟩:=S.dom i a h
  obtain⟨a',e1,_,w⟩:=S.ow i d e
  rw[h] at e1
  cases e1
  obtain⟨o,q,_⟩:=w.soft
  exact⟨o,q⟩
theorem Sta.new(S:Sta K ml B O H σ δ){a:Addr}(h:H a=none): ¬Nn B O a:=fun z=>by
 obtain⟨o,q⟩:=S.nin z
 rw[h] at q
 cases q
theorem Sta.same(S:Sta K ml B O H σ δ)(f:Same H H'):Sta K ml B O H' σ δ where
 len:=S.len
 va:=fun i d e=>let ⟨v,a,b⟩:=S.va i d e;⟨v,a,b.same f⟩
 ow:=fun i d e=>let ⟨a,b,c,w⟩:=S.ow i d e;⟨a,b,c,w.fr (P:=fun _=>False) f.fr (fun _ z=>z.elim) fun z=>z⟩
 dom:=S.dom
 inj:=S.inj
 old:=S.old
 zin:=fun a h=>let ⟨o,q⟩:=S.zin a h;⟨o,f _ _ q⟩
 frm:=S.frm.trans f.fr
 par:=S.par
 pin:=fun a h=>let ⟨o,q⟩:=S.pin a h;⟨o,f _ _ q⟩
 kep:=fun p h=>(S.kep p h).same f
theorem Sta.fresh(S:Sta K ml B O H σ δ){a:Addr}(h:H a=none):B.H0 a=none:=by
 cases q:B.H0 a with
 | none => rfl
 |some o=>
  by_cases hp:B.P a
  ·obtain⟨o',e⟩:=S.pin a hp
   rw[h] at e
   cases e
  ·have := S.frm a o q fun z => absurd z hp
   rw[h] at this
   cases this
def Bs.add(B:Bs)(p:Addr):Bs:={B with Z:=fun a=>B.Z a∨a=p}
theorem zHN{p:Addr}: ∀a,Nn B O a->Nn (B.add p) O a:=fun a h=>by
 rcases h with h|h
 ·exact .inl (.inl h)
 ·exact .inr h
mutual
theorem Rep.away{p:Addr}(hp:H p=none)(N N':Addr->Prop)(hN: ∀a,N' a->N a∨a=p): ∀{M M':Addr->Prop} {v:V} {d:Dat},(∀a,M' a->M a∨a=p)->Rep K N H M v d->Rep K N' H M' v d
 |_,_,_,_,_,.non=> .non
 |_,_,_,_,_,.bl b=> .bl b
 |_,_,_,_,_,.int i=> .int i
 |_,_,_,_,_,.str x=> .str x
 |_,_,_,_,_,.ty n=> .ty n
 |_,_,_,_,_,.fn h=> .fn h
 |_,_,_,_,_,.tup q r=> .tup q (RepA.away hp N N' hN r)
 |_,_,_,_,hM,.lst q n r=> .lst q (fun z=>by rcases hM _ z with z|z;exact n z;rw[z,hp] at q;cases q) (RepA.away hp N N' hN r)
 |_,_,_,_,_,.fzl q r=> .fzl q (RepA.away hp N N' hN r)
 |_,_,_,_,hM,.dct q n r=> .dct q (fun z=>by rcases hM _ z with z|z;exact n z;rw[z,hp] at q;cases q) (RepA.away hp N N' hN r)
 |_,_,_,_,_,.ktb q r=> .ktb q (RepA.away hp N N' hN r)
 |_,_,_,_,_,.exn p q r=> .exn p q r
theorem RepA.away{p:Addr}(hp:H p=none)(N N':Addr->Prop)(hN: ∀a,N' a->N a∨a=p): ∀{vs:List V} {ds:List Dat},RepA K N H vs ds->RepA K N' H vs ds
 |_,_,.nil=> .nil
 |_,_,.cons h t=> .cons (Rep.away hp N N' hN hN h) (RepA.away hp N N' hN t)
end
theorem zE8{p:Addr}: ∀a,Nn (B.add p) O a->Nn B O a∨a=p:=fun a h=>by
 rcases h with(h|h)|h
 ·exact .inl (.inl h)
 ·exact .inr h
 ·exact .inl (.inr h)
theorem Sta.laid(S:Sta K ml B O H σ δ){p:Addr}{o:HO}(hp:H p=none):Sta K ml (B.add p) O (upd H p o) σ δ where
 len:=S.len
 va:=fun i d e=>let ⟨v,a,b⟩:=S.va i d e;⟨v,a,(b.away hp _ _ zE8 zE8).same (zA5 hp)⟩
 ow:=fun i d e=>by
  obtain⟨a,b,c,w⟩:=S.ow i d e
  refine⟨a,b,c,?_⟩
  have hne: ∀o,H a=some o->upd H p o=upd H p o:=fun _ _=>rfl
  cases w with
  |lst q r=>exact .lst (zA5 hp _ _ q) ((r.away hp _ _ zE8).same (zA5 hp))
  |dct q r=>exact .dct (zA5 hp _ _ q) ((r.away hp _ _ zE8).same (zA5 hp))
 dom:=S.dom
 inj:=S.inj
 old:=fun i a h=>by
  refine⟨fun z=> ?_,(S.old i a h).2⟩
  rcases z with z|z
  ·exact(S.old i a h).1 z
  ·obtain⟨o,q⟩:=S.nin (.inr ⟨i,h⟩)
   rw[z,hp] at q
   cases q
 zin:=fun a h=>by
  rcases h with h|h
  ·obtain⟨o,q⟩:=S.zin a h
   exact⟨o,zA5 hp _ _ q⟩
  ·exact⟨_,by rw[h];exact zAH⟩
 frm:=S.frm.trans (zA5 hp).fr
 par:=S.par
 pin:=fun a h=>let ⟨o,q⟩:=S.pin a h;⟨o,zA5 hp _ _ q⟩
 kep:=fun p h=>((S.kep p h).away hp _ _ zE8 zE8).same (zA5 hp)
theorem zKK{i:Nat}{o:Option Addr}: ∀a,Nn B (fun j=>if j=i then none else O j) a->Nn B O a:=fun a h=>by
 rcases h with h|⟨j,h⟩
 ·exact .inl h
 ·refine .inr ⟨j,?_⟩
  by_cases hj:j=i
  ·simp[hj] at h
  ·simpa[hj] using h
theorem zG0{α:Type}{l:List α}{i j:Nat}{x y:α}(h:(l.set i x)[j]? =some y):(j=i/\y=x/\i<l.length)∨(j≠i/\l[j]? =some y):=by
 by_cases hj:j=i
 ·subst hj
  rw[List.getElem?_set_self'] at h
  cases q:l[j]? with
  |none=>rw[q] at h;cases h
  |some z=>
   rw[q] at h
   cases h
   exact .inl ⟨rfl,rfl,(A5.mp q).1⟩
 ·rw[B6 (C9 hj)] at h
  exact .inr ⟨hj,h⟩
theorem Sta.setVa(S:Sta K ml B O H σ δ){i:Nat}{v:V}{d:Dat}(hm:i∉ml)(h:Rep K (Nn B O) H (Nn B O) v d):Sta K ml B (fun j=>if j=i then none else O j) H (σ.set i (some v)) (δ.set i (.va d)) where
 len:=by rw[B9,B9,S.len]
 va:=fun j e q=>by
  rcases zG0 q with⟨rfl,z,hl⟩|⟨hj,q⟩
  ·cases z
   exact⟨v,by rw[Bz (by rw[S.len];exact hl)],h.mono (zKK (o:=none)) (zKK (o:=none))⟩
  ·obtain⟨u,e1,r⟩:=S.va j e q
   exact⟨u,by rw[B6 (C9 hj)];exact e1,r.mono (zKK (o:=none)) (zKK (o:=none))⟩
 ow:=fun j e q=>by
  rcases zG0 q with⟨rfl,z,hl⟩|⟨hj,q⟩
  ·cases z
  ·obtain⟨a,e1,e2,w⟩:=S.ow j e q
   exact⟨a,by simpa[hj] using e1,by rw[B6 (C9 hj)];exact e2,w.mono (zKK (o:=none))⟩
 dom:=fun j a e=>by
  by_cases hj:j=i
  ·simp[hj] at e
  ·obtain ⟨d,q⟩ := S.dom j a (by simpa [hj] using e)
   exact⟨d,by rw[B6 (C9 hj)];exact q⟩
 inj:=fun j k a e1 e2=>by
  by_cases hj:j=i
  ·simp[hj] at e1
  ·by_cases hk:k=i
   ·simp[hk] at e2
   ·exact S.inj j k a (by simpa[hj] using e1) (by simpa[hk] using e2)
 old:=fun j a e=>by
  by_cases hj:j=i
  ·simp[hj] at e
  ·exact S.old j a (by simpa[hj] using e)
 zin:=S.zin
 frm:=S.frm
 par:=⟨S.par.1,fun j hj=>by
  have hne:j≠i:=fun z=>hm (z▸hj)
  have h2:O j=B.mu j:=S.par.2 j hj
  simpa[hne] using h2⟩
 pin:=S.pin
 kep:=fun p hp=>(S.kep p hp).mono (zKK (o:=none)) (zKK (o:=none))
theorem zIJ{i:Nat}{p:Addr}: ∀a,Nn B (fun j=>if j=i then some p else O j) a->Nn (B.add p) O a:=fun a h=>by
 rcases h with h|⟨j,h⟩
 ·exact .inl (.inl h)
 ·by_cases hj:j=i
  ·simp[hj] at h
   exact .inl (.inr h.symm)
  ·exact .inr ⟨j,by simpa[hj] using h⟩
theorem Sta.setOw{p:Addr}(S:Sta K ml (B.add p) O H σ δ){i:Nat}{d:Dat}(hm:i∉ml)(hl:i<δ.length)(hz: ¬B.Z p)(h0:B.H0 p=none)(h:Own K (Nn (B.add p) O) H p d):
  Sta K ml B (fun j=>if j=i then some p else O j) H (σ.set i (some (.ref p))) (δ.set i (.ow d)) where
 len:=by rw[B9,B9,S.len]
 va := fun j e q => by
  rcases zG0 q with⟨rfl,z,_⟩|⟨hj,q⟩
  ·cases z
  ·obtain⟨u,e1,r⟩:=S.va j e q
   exact⟨u,by rw[B6 (C9 hj)];exact e1,r.mono zIJ zIJ⟩
 ow := fun j e q => by
  rcases zG0 q with⟨rfl,z,hl⟩|⟨hj,q⟩
  ·cases z
   exact⟨p,by simp,by rw[Bz (by rw[S.len];exact hl)],h.mono zIJ⟩
  ·obtain⟨a,e1,e2,w⟩:=S.ow j e q
   exact⟨a,by simpa[hj] using e1,by rw[B6 (C9 hj)];exact e2,w.mono zIJ⟩
 dom:=fun j a e=>by
  by_cases hj:j=i
  ·subst hj
   exact⟨d,by rw[Bz hl]⟩
  ·obtain ⟨d,q⟩ := S.dom j a (by simpa [hj] using e)
   exact⟨d,by rw[B6 (C9 hj)];exact q⟩
 inj:=fun j k a e1 e2=>by
  by_cases hj:j=i
  ·by_cases hk:k=i
   ·rw[hj,hk]
   ·simp[hj] at e1
    simp[hk] at e2
    exact absurd (.inr e1.symm) (S.old k a e2).1
  ·by_cases hk:k=i
   ·simp[hk] at e2
    simp[hj] at e1
    exact absurd (.inr e2.symm) (S.old j a e1).1
   ·exact S.inj j k a (by simpa[hj] using e1) (by simpa[hk] using e2)
 old:=fun j a e=>by
  by_cases hj:j=i
  ·simp[hj] at e
   subst e
   exact⟨hz,.inr h0⟩
  ·have := S.old j a (by simpa [hj] using e)
   exact⟨fun z=>this.1 (.inl z),this.2⟩
 zin:=fun a h=>S.zin a (.inl h)
 frm:=S.frm
 par:=⟨S.par.1,fun j hj=>by
  have hne:j≠i:=fun z=>hm (z▸hj)
  have h2:O j=B.mu j:=S.par.2 j hj
  simpa[hne] using h2⟩
 pin:=S.pin
 kep:=fun p hp=>(S.kep p hp).mono zIJ zIJ
theorem Sta.wrote(S:Sta K ml B O H σ δ){i:Nat}{a:Addr}{d:Dat}{o:HO}(e:O i=some a)(ho: ¬Hard o)(h:Own K (Nn B O) (upd H a o) a d):Sta K ml B O (upd H a o) σ (δ.set i (.ow d)):=by
 have hf:Fr (fun b=>b=a) H (upd H a o):=fun b u q n=>by
  by_cases hb:b=a
  ·subst hb
   obtain⟨d',q'⟩:=S.dom i b e
   obtain⟨a',e1,_,w⟩:=S.ow i d' q'
   rw[e] at e1
   cases e1
   obtain⟨u',q1,hh⟩:=w.soft
   rw[q] at q1
   cases q1
   exact absurd (n rfl) hh
  ·rw[zAV hb]
   exact q
 have hN: ∀b,b=a->Nn B O b:=fun b z=> .inr ⟨i,z▸e⟩
 have hin: ∀b,(∃u,H b=some u)-> ∃u,upd H a o b=some u:=fun b q0=>by
  obtain⟨u,q⟩:=q0
  by_cases hb:b=a
  ·exact ⟨o,by rw [hb];exact zAH⟩
  ·exact ⟨u,by rw [zAV hb];exact q⟩
 refine⟨by rw[B9,S.len],fun j d' q=> ?_,fun j d' q=> ?_,fun j b q=> ?_,S.inj,S.old,fun b h=>hin b (S.zin b h),?_,S.par,fun b h=>hin b (S.pin b h),fun p hp=>(S.kep p hp).fr hf hN hN⟩
 ·rcases zG0 q with⟨_,z,_⟩|⟨hj,q⟩
  ·cases z
  ·obtain⟨v,e1,r⟩:=S.va j d' q
   exact⟨v,e1,r.fr hf hN hN⟩
 ·rcases zG0 q with⟨rfl,z,hl⟩|⟨hj,q⟩
  ·cases z
   obtain⟨d0,q0⟩:=S.dom j a e
   obtain⟨a',e1,e2,_⟩:=S.ow j d0 q0
   rw[e] at e1
   cases e1
   exact⟨a,e,e2,h⟩
  ·obtain⟨a',e1,e2,w⟩:=S.ow j d' q
   exact⟨a',e1,e2,w.fr hf hN fun z=>hj (S.inj j i a (z▸e1) e)⟩
 ·by_cases hj:j=i
  ·subst hj
   obtain⟨d0,q0⟩:=S.dom j b q
   exact⟨d,by rw[Bz (A5.mp q0).1]⟩
  ·obtain⟨d0,q0⟩:=S.dom j b q
   exact⟨d0,by rw[B6 (C9 hj)];exact q0⟩
 ·intro b u q n
  have h1:=S.frm b u q n
  by_cases hb:b=a
  ·subst hb
   rcases(S.old i b e).2 with z|z
   ·obtain⟨d',q'⟩:=S.dom i b e
    obtain⟨a',e1,_,w⟩:=S.ow i d' q'
    rw[e] at e1
    cases e1
    obtain⟨u',q1,hh⟩:=w.soft
    rw[h1] at q1
    cases q1
    exact absurd (n z) hh
   ·rw[q] at z
    cases z
  ·rw[zAV hb]
   exact h1
theorem Sta.keepV(S:Sta K ml B O H σ δ){ps:List (V×Dat)}(h: ∀p∈ps,Rep K (Nn B O) H (Nn B O) p.1 p.2):Sta K ml {B with kp:=ps++B.kp} O H σ δ:=
 ⟨S.len,S.va,S.ow,S.dom,S.inj,S.old,S.zin,S.frm,S.par,S.pin,fun p hp=>(B5.mp hp).elim (h p) (S.kep p)⟩
theorem Sta.unkeep{ps:List (V×Dat)}(S:Sta K ml {B with kp:=ps++B.kp} O H σ δ):Sta K ml B O H σ δ:=
 ⟨S.len,S.va,S.ow,S.dom,S.inj,S.old,S.zin,S.frm,S.par,S.pin,fun p hp=>S.kep p (Ay _ hp)⟩
end
def rz(B:Bs):Addr->Prop:=fun a=>B.Z a∨ ∃i,B.mu i=some a
def av(B:Bs)(O:Nat->Option Addr)(b:Bool):Addr->Prop:=if b then Nn B O else fun a=>Nn B O a/\rz B a
def at_(B:Bs)(O:Nat->Option Addr)(b:Bool):Addr->Prop:=if b then Nn B O else fun _=>False
theorem yBJ{B:Bs}{O:Nat->Option Addr}{b:Bool}: ∀a,at_ B O b a->av B O b a:=fun a h=>by
 cases b with
 |true=>exact h
 |false=>exact h.elim
theorem zX3{B:Bs}{O:Nat->Option Addr}{b c:Bool}(h:b=true->c=true): ∀a,at_ B O b a->at_ B O c a:=fun a z=>by
 cases b with
 |true=>rw[h rfl];exact z
 |false=>exact z.elim
theorem Sta.rzn{K:Ad}{ml:List Nat}{B:Bs}{O:Nat->Option Addr}{H:Hp}{σ:St}{δ:Ev}(S:Sta K ml B O H σ δ): ∀a,rz B a->Nn B O a:=fun a h=>by
 rcases h with h|⟨i,h⟩
 ·exact .inl h
 ·exact .inr ⟨i,(S.par.2 i (S.par.1 i a h)).trans h⟩
theorem Sta.rza{K:Ad}{ml:List Nat}{B:Bs}{O:Nat->Option Addr}{H:Hp}{σ:St}{δ:Ev}(S:Sta K ml B O H σ δ){b:Bool}: ∀a,rz B a->av B O b a:=fun a h=>by
 cases b with
 |true=>exact S.rzn a h
 |false=>exact⟨S.rzn a h,h⟩
theorem zI8{B:Bs}{O:Nat->Option Addr}{b c:Bool}(h:b=true->c=true): ∀a,av B O b a->av B O c a:=fun a z=>by
 cases b with
 |true=>rw[h rfl];exact z
 |false=>cases c with
  |true=>exact z.1
  |false=>exact z
structure Res(K:Ad)(ml:List Nat)(B:Bs)(O:Nat->Option Addr)(H:Hp)(σ:St)(pu bt bi:Bool)(H':Hp)(δ':Ev)(v:V)(d:Dat):Prop where
 sta:Sta K ml B O H' σ δ'
 frm:Fr (OA O) H H'
 pur:pu=true->Same H H'
 rep:Rep K (av B O bi) H' (at_ B O bt) v d
abbrev VF:=Ev->Option (Dat×Ev)
def TV(K:Ad)(ml:List Nat)(pu bt bi:Bool)(f:VF):TE:=fun σ H Q=> ∃B O δ d δ',Sta K ml B O H σ δ/\f δ=some (d,δ')/\ ∀v H',Res K ml B O H σ pu bt bi H' δ' v d->Q v H'
theorem PE.imp{X:Cx}{e:Expr}{t u:TE}(h:PE X e t)(k: ∀σ H Q,u σ H Q->t σ H Q):PE X e u:=fun a6 s σ H Q I w=>h a6 s σ H Q I (k σ H Q w)
theorem PT.imp{X:Cx}{e:Expr}{t u:TT}(h:PT X e t)(k: ∀σ H Q,u σ H Q->t σ H Q):PT X e u:=fun a6 s σ H Q I w=>h a6 s σ H Q I (k σ H Q w)
theorem PW.imp{X:Cx}{e:Expr}{t u:TT}(h:PW X e t)(k: ∀σ H Q,u σ H Q->t σ H Q):PW X e u:=fun aw a6 s σ H Q I w=>h aw a6 s σ H Q I (k σ H Q w)
theorem PA.imp{X:Cx}{e:List Expr}{t u:TA}(h:PA X e t)(k: ∀σ H Q,u σ H Q->t σ H Q):PA X e u:=fun pos a6 s σ H Q I w=>h pos a6 s σ H Q I (k σ H Q w)
theorem PS.imp{X:Cx}{e:Stmt}{t u:TS}(h:PS X e t)(k: ∀D σ H,u D σ H->t D σ H):PS X e u:=fun a6 s σ H D I w=>h a6 s σ H D I (k D σ H w)
theorem PSs.imp{X:Cx}{e:List Stmt}{t u:TS}(h:PSs X e t)(k: ∀D σ H,u D σ H->t D σ H):PSs X e u:=fun a6 s σ H D I w=>h a6 s σ H D I (k D σ H w)
section
variable{X:Cx}{K:Ad}{ml:List Nat}{e a b c:Expr}{pa ta ia pb tb ib pc tc ic:Bool}{fa fb fc:VF}{r:R2}{o:Dat->Dat->Option Dat}{B:Bs}{O:Nat->Option Addr}{H H1 H':Hp}{σ:St}{δ δ':Ev}{v:V}{d:Dat}
noncomputable def fC(d:Dat):VF:=fun δ=>some (d,δ)
theorem Res.refl{pu bt bi:Bool}(S:Sta K ml B O H σ δ)(h:Rep K (av B O bi) H (at_ B O bt) v d):Res K ml B O H σ pu bt bi H δ v d:=⟨S,Fr.refl _ _,fun _=>Same.refl _,h⟩
theorem ve_c(h:PE X e (tC v))(hr: ∀N H M,Rep K N H M v d):PE X e (TV K ml true true true (fC d)):=h.imp fun σ H Q q0=>by
 obtain⟨B,O,δ,d',δ',S,q,k⟩:=q0
 cases q
 exact k v H (Res.refl S (hr _ _ _))
theorem zA2{i j pos}:PE X (.Constant (.int i) j pos) (TV K ml true true true (fC (.int i))):=ve_c zZ2 fun _ _ _=> .int i
theorem zGZ{i j pos}:PE X (.Constant (.bool i) j pos) (TV K ml true true true (fC (.bl i))):=ve_c yDG fun _ _ _=> .bl i
theorem zBI{j pos}:PE X (.Constant .none j pos) (TV K ml true true true (fC .non)):=ve_c zZ0 fun _ _ _=> .non
theorem zAD{i j pos}:PE X (.Constant (.str i) j pos) (TV K ml true true true (fC (.str i))):=ve_c zYX fun _ _ _=> .str i
noncomputable def fV(i:Nat):VF:=fun δ=>match δ[i]? with
 |some (.va d)=>some (d,δ)
 |_=>none
noncomputable def fO(i:Nat):VF:=fun δ=>match δ[i]? with
 |some (.va d)=>some (d,δ)
 |some (.ow d)=>some (d,δ)
 |_=>none
theorem zX8{i:Nat}(h:PE X e (tVar i)):PE X e (TV K ml true true true (fV i)):=h.imp fun σ H Q q0=>by
 obtain⟨B,O,δ,d',δ',S,q,k⟩:=q0
 unfold fV at q
 split at q
 ·rename_i d hd
  cases q
  obtain⟨v,e1,r⟩:=S.va i _ hd
  exact⟨v,e1,k v H (Res.refl S r)⟩
 ·cases q
theorem zX9{i:Nat}(h:PE X e (tVar i)):PE X e (TV K ml true false true (fO i)):=h.imp fun σ H Q q0=>by
 obtain⟨B,O,δ,d',δ',S,q,k⟩:=q0
 unfold fO at q
 split at q
 ·rename_i d hd
  cases q
  obtain⟨v,e1,r⟩:=S.va i _ hd
  exact⟨v,e1,k v H (Res.refl S (r.mono (fun _ z=>z) fun a z=>z.elim))⟩
 ·rename_i d hd
  cases q
  obtain⟨a,e1,e2,w⟩:=S.ow i _ hd
  exact⟨.ref a,e2,k _ H (Res.refl S (w.rep fun z=>z))⟩
 ·cases q
theorem Res.live{H2:Hp}{v2:V}{d2:Dat}(R2:Res K ml B O H1 σ pb tb ib H2 δ' v2 d2)(hs:(pb || (ta && ia))=true)(h:Rep K (av B O ia) H1 (at_ B O ta) v d):Rep K (av B O ia) H2 (at_ B O ta) v d:=by
 cases pb with
 |true=>exact h.same (R2.pur rfl)
 |false=>
  have hs:(ta && ia)=true:=by simpa using hs
  obtain⟨h1,h2⟩:=(A3 _ _).mp hs
  subst h1 h2
  exact h.fr R2.frm (fun a z=> .inr z) fun a z=> .inr z
noncomputable def f2(o:Dat->Dat->Option Dat)(fa fb:VF):VF:=fun δ=>(fa δ).bind fun p=>(fb p.2).bind fun q=>(o p.1 q.1).map fun c=>(c,q.2)
theorem zIS{δ2:Ev}(h:f2 o fa fb δ=some (d,δ2)): ∃x δ1 y,fa δ=some (x,δ1)/\fb δ1=some (y,δ2)/\o x y=some d:=by
 unfold f2 at h
 cases h1:fa δ with
 | none => rw [h1] at h;cases h
 |some p=>
  rw[h1] at h
  cases h2:fb p.2 with
  | none => simp [h2] at h
  |some q=>
   simp only[Aa,h2] at h
   cases h3:o p.1 q.1 with
   |none=>rw[h3] at h;cases h
   |some c=>
    rw[h3] at h
    cases h
    exact⟨p.1,p.2,q.1,rfl,h2,h3⟩
def OpS(K:Ad)(r:R2)(o:Dat->Dat->Option Dat):Prop:= ∀(H:Hp) (N N' M M':Addr->Prop) (x y:V) (d e c:Dat) (Q:VK),Rep K N H M x d->Rep K N' H M' y e->o d e=some c->(∀v,(∀H' N M,Rep K N H' M v c)->Q v H)->r x y H Q
def OpC(K:Ad)(r:R2)(o:Dat->Dat->Option Dat):Prop:= ∀(H:Hp) (N M M':Addr->Prop) (x y:V) (d e c:Dat) (Q:VK),Rep K N H M x d->Rep K N H M' y e->o d e=some c→
 (∀v H',Same H H'->(∀M,(∀a,M a-> ∃o,H a=some o)->Rep K N H' M v c)->Q v H')->r x y H Q
def OpI(K:Ad)(r:R2)(o:Dat->Dat->Option Dat):Prop:= ∀(H:Hp) (N N' M M':Addr->Prop) (x y:V) (d e c:Dat) (Q:VK),Rep K N H M x d->Rep K N' H M' y e->o d e=some c->(∀v,Rep K N H N v c->Q v H)->r x y H Q
theorem zOX(ho:OpS K r o)(hs:(pb || (ta && ia))=true){Q:VK}(h:TV K ml (pa && pb) true true (f2 o fa fb) σ H Q):tOp r (TV K ml pa ta ia fa) (TV K ml pb tb ib fb) σ H Q:=by
 obtain⟨B,O,δ,d,δ2,S,q,k⟩:=h
 obtain⟨x,δ1,y,h1,h2,h3⟩:=zIS q
 refine⟨B,O,δ,x,δ1,S,h1,fun v1 H1 R1=>⟨B,O,δ1,y,δ2,R1.sta,h2,fun v2 H2 R2=> ?_⟩⟩
 exact ho H2 _ _ _ _ v1 v2 x y d Q (R2.live hs R1.rep) R2.rep h3 fun v hv=>k v H2 ⟨R2.sta,R1.frm.trans R2.frm,fun z=>by
  obtain⟨z1,z2⟩:=(A3 _ _).mp z
  exact(R1.pur z1).trans (R2.pur z2),hv _ _ _⟩
theorem zXE(ho:OpC K r o)(hs:(pb || (ta && ia))=true){Q:VK}(h:TV K ml (pa && pb) true (ia && ib) (f2 o fa fb) σ H Q):tOp r (TV K ml pa ta ia fa) (TV K ml pb tb ib fb) σ H Q:=by
 obtain⟨B,O,δ,d,δ2,S,q,k⟩:=h
 obtain⟨x,δ1,y,h1,h2,h3⟩:=zIS q
 refine⟨B,O,δ,x,δ1,S,h1,fun v1 H1 R1=>⟨B,O,δ1,y,δ2,R1.sta,h2,fun v2 H2 R2=> ?_⟩⟩
 have g1: ∀a,av B O (ia && ib) a->av B O ia a:=zI8 fun z=>((A3 _ _).mp z).1
 have g2: ∀a,av B O (ia && ib) a->av B O ib a:=zI8 fun z=>((A3 _ _).mp z).2
 refine ho H2 (av B O (ia && ib)) _ _ v1 v2 x y d Q ((R2.live hs R1.rep).mono g1 fun _ z=>z) (R2.rep.mono g2 fun _ z=>z) h3 fun v H3 s3 hv=>k v H3 ⟨R2.sta.same s3,(R1.frm.trans R2.frm).trans s3.fr,fun z=> ?_,hv _ fun a z=>R2.sta.nin z⟩
 obtain⟨z1,z2⟩:=(A3 _ _).mp z
 exact((R1.pur z1).trans (R2.pur z2)).trans s3
theorem zXD(ho:OpI K r o)(hs:(pb || (ta && ia))=true){Q:VK}(h:TV K ml (pa && pb) ia ia (f2 o fa fb) σ H Q):tOp r (TV K ml pa ta ia fa) (TV K ml pb tb ib fb) σ H Q:=by
 obtain⟨B,O,δ,d,δ2,S,q,k⟩:=h
 obtain⟨x,δ1,y,h1,h2,h3⟩:=zIS q
 refine⟨B,O,δ,x,δ1,S,h1,fun v1 H1 R1=>⟨B,O,δ1,y,δ2,R1.sta,h2,fun v2 H2 R2=> ?_⟩⟩
 exact ho H2 _ _ _ _ v1 v2 x y d Q (R2.live hs R1.rep) R2.rep h3 fun v hv=>k v H2 ⟨R2.sta,R1.frm.trans R2.frm,fun z=>by
  obtain⟨z1,z2⟩:=(A3 _ _).mp z
  exact(R1.pur z1).trans (R2.pur z2),hv.mono (fun _ z=>z) yBJ⟩
theorem zCX{op:Operator}{pos:Pos}(ho:OpR X (Dz op) r)(hv:OpS K r o)(ha:PE X a (TV K ml pa ta ia fa))(hb:PE X b (TV K ml pb tb ib fb))(hs:(pb || (ta && ia))=true:=by rfl):PE X (.BinOp a op b pos) (TV K ml (pa && pb) true true (f2 o fa fb)):=
 (zYY ho ha hb).imp fun _ _ _ h=>zOX hv hs h
theorem zBJ{op:Operator}{pos:Pos}(ho:OpR X (Dz op) r)(hv:OpC K r o)(ha:PE X a (TV K ml pa ta ia fa))(hb:PE X b (TV K ml pb tb ib fb))(hs:(pb || (ta && ia))=true:=by rfl):PE X (.BinOp a op b pos) (TV K ml (pa && pb) true (ia && ib) (f2 o fa fb)):=
 (zYY ho ha hb).imp fun _ _ _ h=>zXE hv hs h
theorem zE1{op:CmpOp}{pos:Pos}(ho:OpR X (C0 op) r)(hv:OpS K r o)(ha:PE X a (TV K ml pa ta ia fa))(hb:PE X b (TV K ml pb tb ib fb))(hm:Eo op b=false)(hs:(pb || (ta && ia))=true:=by rfl):PE X (.Compare a [op] [b] pos) (TV K ml (pa && pb) true true (f2 o fa fb)):=
 (zW2 ho ha hb hm).imp fun _ _ _ h=>zOX hv hs h
theorem yC2{pos:Pos}(ho:IxR X r)(hv:OpI K r o)(ha:PE X a (TV K ml pa ta ia fa))(hb:PE X b (TV K ml pb tb ib fb))(hx:zM6 b)(hs:(pb || (ta && ia))=true:=by rfl):PE X (.Subscript a b pos) (TV K ml (pa && pb) ia ia (f2 o fa fb)):=
 (yDE ho ha hb hx).imp fun _ _ _ h=>zXD hv hs h
noncomputable def oI(C:Int->Int->Bool)(g:Int->Int->Dat):Dat->Dat->Option Dat
 | .int i,.int j=>if C i j=true then some (g i j) else none
 |_,_=>none
theorem zUI{C:Int->Int->Bool}{g:Int->Int->Dat}{d e c:Dat}(h:oI C g d e=some c): ∃i j,d= .int i/\e= .int j/\C i j=true/\c=g i j:=by
 unfold oI at h
 split at h
 ·split at h
  ·rename_i hc
   cases h
   exact⟨_,_,rfl,rfl,hc,rfl⟩
  ·cases h
 ·cases h
theorem zT8{C:Int->Int->Prop}{C':Int->Int->Bool}{g:Int->Int->V}{g':Int->Int->Dat}(hC: ∀i j,C' i j=true->C i j)(hg: ∀i j N H M,Rep K N H M (g i j) (g' i j)):OpS K (rI C g) (oI C' g'):=by
 intro H N N' M M' x y d e c Q hx hy h k
 obtain⟨i,j,rfl,rfl,hc,rfl⟩:=zUI h
 cases hx
 cases hy
 exact⟨_,_,rfl,rfl,hC _ _ hc,k _ fun _ _ _=>hg ..⟩
theorem zKI{g:Int->Int->V}{g':Int->Int->Dat}(hg: ∀i j N H M,Rep K N H M (g i j) (g' i j)):OpS K (rI0 g) (oI (fun _ _=>true) g'):=by
 intro H N N' M M' x y d e c Q hx hy h k
 obtain⟨i,j,rfl,rfl,hc,rfl⟩:=zUI h
 cases hx
 cases hy
 exact⟨_,_,rfl,rfl,k _ fun _ _ _=>hg ..⟩
noncomputable def cMul(i j:Int):Bool:=(decide (-18446744073709551616<i) && decide (i<18446744073709551616)) || (decide (-18446744073709551616<j) && decide (j<18446744073709551616))
noncomputable def cDiv(i j:Int):Bool:=decide (0<j) && decide (j<1073741824)
noncomputable def cPow(i j:Int):Bool:=decide (0<=j) && decide (j<=1000000) && decide (i.natAbs<18446744073709551616)
noncomputable abbrev oSub:=oI (fun _ _=>true) fun i j=> .int (i - j)
noncomputable abbrev oMul:=oI cMul fun i j=> .int (i*j)
noncomputable abbrev zO9:=oI cDiv fun i j=> .int (i/j)
noncomputable abbrev oMod:=oI (fun _ j=>decide (0<j)) fun i j=> .int (i % j)
noncomputable abbrev oPow:=oI cPow fun i j=> .int (i ^ j.toNat)
noncomputable abbrev oLt:=oI (fun _ _=>true) fun i j=> .bl (decide (i<j))
noncomputable abbrev oLe:=oI (fun _ _=>true) fun i j=> .bl (decide (i<=j))
noncomputable abbrev oGt:=oI (fun _ _=>true) fun i j=> .bl (decide (j<i))
noncomputable abbrev oGe:=oI (fun _ _=>true) fun i j=> .bl (decide (j<=i))
theorem zJ8:OpS K (rI0 fun i j=> .int (i - j)) oSub:=zKI fun i j _ _ _=> .int _
theorem yCM:OpS K (rI CMul fun i j=> .int (i*j)) oMul:=zT8 (fun i j h=>by
 have p:(2:Int) ^ 64=18446744073709551616:=by decide
 unfold CMul
 rw[p]
 simpa[cMul] using h) fun i j _ _ _=> .int _
theorem zMR:OpS K (rI CDiv fun i j=> .int (i/j)) zO9:=zT8 (fun i j h=>by show 0<j/\j<1073741824;simpa[cDiv] using h) fun i j _ _ _=> .int _
theorem zHH:OpS K (rI (fun _ j=>0<j) fun i j=> .int (i % j)) oMod:=zT8 (fun i j h=>by simpa using h) fun i j _ _ _=> .int _
theorem yCL:OpS K (rI CPow fun i j=> .int (i ^ j.toNat)) oPow:=zT8 (fun i j h=>by
 have p:(2:Nat) ^ 64=18446744073709551616:=by decide
 unfold CPow
 rw[p]
 simpa[cPow,and_assoc] using h) fun i j _ _ _=> .int _
theorem s_lt:OpS K (rI0 fun i j=> .bl (decide (i<j))) oLt:=zKI fun i j _ _ _=> .bl _
theorem s_le:OpS K (rI0 fun i j=> .bl (decide (i<=j))) oLe:=zKI fun i j _ _ _=> .bl _
theorem s_gt:OpS K (rI0 fun i j=> .bl (decide (j<i))) oGt:=zKI fun i j _ _ _=> .bl _
theorem s_ge:OpS K (rI0 fun i j=> .bl (decide (j<=i))) oGe:=zKI fun i j _ _ _=> .bl _
noncomputable def okD(d:Dat):Bool:=d.isD && Cz d.pd
noncomputable def eqD(d e:Dat):Bool:=Fk d.pd e.pd
noncomputable def oEq(d e:Dat):Option Dat:=if(okD d && okD e)=true then some (.bl (eqD d e)) else none
noncomputable def oNe(d e:Dat):Option Dat:=if(okD d && okD e)=true then some (.bl (!eqD d e)) else none
theorem s_eq:OpS K (rEqD K) oEq:=by
 intro H N N' M M' x y d e c Q hx hy h k
 unfold oEq at h
 split at h
 ·rename_i hh
  cases h
  simp only[okD,A3] at hh
  exact⟨d.pd,e.pd,hx.dp hh.1.1,hy.dp hh.2.1,hh.1.2,hh.2.2,k _ fun _ _ _=> .bl _⟩
 ·cases h
theorem s_ne:OpS K (rNeD K) oNe:=by
 intro H N N' M M' x y d e c Q hx hy h k
 unfold oNe at h
 split at h
 ·rename_i hh
  cases h
  simp only[okD,A3] at hh
  exact⟨d.pd,e.pd,hx.dp hh.1.1,hy.dp hh.2.1,hh.1.2,hh.2.2,k _ fun _ _ _=> .bl _⟩
 ·cases h
noncomputable def isN:Dat->Bool
 | .non=>true
 |_=>false
noncomputable def oIsN:Dat->Dat->Option Dat
 |d,.non=>some (.bl (isN d))
 |_,_=>none
noncomputable def zJE:Dat->Dat->Option Dat
 |d,.non=>some (.bl (!isN d))
 |_,_=>none
theorem zPS{N M:Addr->Prop}(h:Rep K N H M v d):decide (v=V.non)=isN d:=by
 cases h<;>simp[isN]
theorem zSN:OpS K (fun x y H Q=>y= .non/\Q (.bl (decide (x= .non))) H) oIsN:=by
  intro H N N' M M' x y d e c Q hx hy h k
  cases hy<;>first
    | (cases h
       refine⟨rfl,?_⟩
       rw[zPS hx]
       exact k _ fun _ _ _=> .bl _)
    |(simp[oIsN] at h)
theorem zPI:OpS K (fun x y H Q=>y= .non/\Q (.bl (!decide (x= .non))) H) zJE:=by
  intro H N N' M M' x y d e c Q hx hy h k
  cases hy<;>first
    | (cases h
       refine⟨rfl,?_⟩
       rw[zPS hx]
       exact k _ fun _ _ _=> .bl _)
    |(simp[zJE] at h)
noncomputable def seqD:Dat->Option (List Dat)
 | .tup ds=>some ds
 | .lst ds=>some ds
 |_=>none
theorem Rep.seq{N M:Addr->Prop}{ds:List Dat}(h:Rep K N H M v d)(e:seqD d=some ds): ∃a xs,v= .ref a/\(SqL K H a xs∨SqT K H a xs)/\RepA K N H xs ds:=by
 cases h<;>first
  |(cases e;rename_i q r;exact⟨_,_,rfl,.inr q,r⟩)
  |(cases e;rename_i q n r;exact⟨_,_,rfl,.inl (SqL.of q),r⟩)
  |(cases e;rename_i q r;exact⟨_,_,rfl,.inl q.sq,r⟩)
  |cases e
theorem zX4{N:Addr->Prop}{xs:List V}{ds:List Dat}{i:Int}(r:RepA K N H xs ds)(h:atI ds i=some d): ∃v,atI xs i=some v/\Rep K N H N v d:=by
 unfold atI at h⊢
 rw[r.length]
 cases hi:ixN ds.length i with
 |none=>rw[hi] at h;cases h
 |some j=>
  rw[hi] at h
  exact r.get h
end
section
variable{X:Cx}{K:Ad}{ml:List Nat}{e a b c:Expr}{es:List Expr}{pa ta ia pb tb ib pc tc ic pu bt bi ps bs:Bool}{fa fb fc:VF}{r r':R2}{o o':Dat->Dat->Option Dat}{B:Bs}{O:Nat->Option Addr}{H H1 H':Hp}{σ:St}{δ δ':Ev}{v:V}{d:Dat}{p:Addr}{pos:Pos}
theorem Sta.unadd(S:Sta K ml (B.add p) O H σ δ):Sta K ml B O H σ δ where
 len:=S.len
 va:=fun i d e=>let ⟨v,a,b⟩:=S.va i d e;⟨v,a,b.mono zHN zHN⟩
 ow:=fun i d e=>let ⟨a,b,c,w⟩:=S.ow i d e;⟨a,b,c,w.mono zHN⟩
 dom:=S.dom
 inj:=S.inj
 old:=fun i a h=>⟨fun z=>(S.old i a h).1 (.inl z),(S.old i a h).2⟩
 zin:=fun a h=>S.zin a (.inl h)
 frm:=S.frm
 par:=S.par
 pin:=S.pin
 kep:=fun p h=>(S.kep p h).mono zHN zHN
structure ResN(K:Ad)(ml:List Nat)(B:Bs)(O:Nat->Option Addr)(H:Hp)(σ:St)(pu:Bool)(H':Hp)(δ':Ev)(p:Addr)(d:Dat):Prop where
 sta:Sta K ml (B.add p) O H' σ δ'
 frm:Fr (OA O) H H'
 pur:pu=true->Same H H'
 own:Own K (Nn (B.add p) O) H' p d
 nz: ¬Nn B O p
 h0:B.H0 p=none
def TN(K:Ad)(ml:List Nat)(pu:Bool)(f:VF):TE:=fun σ H Q=> ∃B O δ d δ',Sta K ml B O H σ δ/\f δ=some (d,δ')/\ ∀p H',ResN K ml B O H σ pu H' δ' p d->Q (.ref p) H'
theorem zB1{f:VF}(h:PE X e (TN K ml pu f)):PE X e (TV K ml pu true true f):=h.imp fun σ H Q ⟨B,O,δ,d,δ',S,q,k⟩=>
 ⟨B,O,δ,d,δ',S,q,fun p H' R=>k _ H' ⟨R.sta.unadd,R.frm,R.pur,(R.own.mono zHN).rep R.nz⟩⟩
theorem mkN{xs:List V}{ds:List Dat}(S:Sta K ml B O H1 σ δ')(f:Fr (OA O) H H1)(s:pu=true->Same H H1)(hp:H1 p=none)(r:RepA K (Nn B O) H1 xs ds):ResN K ml B O H σ pu (upd H1 p (.lst xs)) δ' p (.lst ds):=
 ⟨S.laid hp,f.trans (zA5 hp).fr,fun z=>(s z).trans (zA5 hp),.lst zAH ((r.away hp _ _ zE8).same (zA5 hp)),S.new hp,S.fresh hp⟩
theorem mkD(S:Sta K ml B O H1 σ δ')(f:Fr (OA O) H H1)(s:pu=true->Same H H1)(hp:H1 p=none):ResN K ml B O H σ pu (upd H1 p (.dK [])) δ' p (.dct [] []):=
 ⟨S.laid hp,f.trans (zA5 hp).fr,fun z=>(s z).trans (zA5 hp),.dct (kvs:=[]) zAH .nil,S.new hp,S.fresh hp⟩
theorem zS3:PE X (.Dict [] [] pos) (TN K ml true (fC (.dct [] []))):=zT1.imp fun σ H Q q0=>by
 obtain⟨B,O,δ,d,δ',S,q,k⟩:=q0
 cases q
 exact fun p hp=>k p _ (mkD S (Fr.refl _ _) (fun _=>Same.refl _) hp)
abbrev VFs:=Ev->Option (List Dat×Ev)
structure ResA(K:Ad)(ml:List Nat)(B:Bs)(O:Nat->Option Addr)(H:Hp)(σ:St)(pu b:Bool)(H':Hp)(δ':Ev)(vs:List V)(ds:List Dat):Prop where
 sta:Sta K ml B O H' σ δ'
 frm:Fr (OA O) H H'
 pur:pu=true->Same H H'
 rep:RepA K (av B O b) H' vs ds
def TAV(K:Ad)(ml:List Nat)(pu b:Bool)(f:VFs):TA:=fun σ H Q=> ∃B O δ d δ',Sta K ml B O H σ δ/\f δ=some (d,δ')/\ ∀vs H',ResA K ml B O H σ pu b H' δ' vs d->Q vs H'
noncomputable def fNil:VFs:=fun δ=>some ([],δ)
noncomputable def zA4(fa:VF)(fs:VFs):VFs:=fun δ=>(fa δ).bind fun p=>(fs p.2).map fun q=>(p.1::q.1,q.2)
theorem zKT{fs:VFs}{ds:List Dat}(h:zA4 fa fs δ=some (ds,δ')): ∃x δ1 xs,fa δ=some (x,δ1)/\fs δ1=some (xs,δ')/\ds=x::xs:=by
 unfold zA4 at h
 cases h1:fa δ with
 | none => rw [h1] at h;cases h
 |some p=>
  rw[h1] at h
  cases h2:fs p.2 with
  |none=>simp[h2] at h
  |some q=>
   simp only[Aa,h2] at h
   cases h
   exact⟨p.1,p.2,q.1,rfl,h2,rfl⟩
theorem zAA:PA X [] (TAV K ml true true fNil):=zBT.imp fun σ H Q q0=>by
 obtain⟨B,O,δ,d,δ',S,q,k⟩:=q0
 cases q
 exact k [] H ⟨S,Fr.refl _ _,fun _=>Same.refl _,.nil⟩
theorem zA0{fs:VFs}(ha:PE X a (TV K ml pa ta ia fa))(hr:PA X es (TAV K ml ps bs fs))(hs:A2 (a::es) X.env=(false,eval a X.env)::A2 es X.env:=by rfl)(hl:(ps || (ta && ia))=true:=by rfl)(ht:ta=true:=by rfl):
  PA X (a::es) (TAV K ml (pa && ps) (ta && ia && bs) (zA4 fa fs)):=(zAO ha hr hs).imp fun σ H Q ⟨B,O,δ,d,δ2,S,q,k⟩=>by
 obtain⟨x,δ1,xs,h1,h2,rfl⟩:=zKT q
 refine⟨B,O,δ,x,δ1,S,h1,fun v1 H1 R1=>⟨B,O,δ1,xs,δ2,R1.sta,h2,fun vs H2 R2=>k _ H2 ⟨R2.sta,R1.frm.trans R2.frm,fun z=> ?_,?_⟩⟩⟩
 ·obtain⟨z1,z2⟩:=(A3 _ _).mp z
  exact(R1.pur z1).trans (R2.pur z2)
 ·have g : ∀ c,((ta && ia && bs) = true -> c = true) -> ∀ a,av B O (ta && ia && bs) a -> av B O c a := fun c h => zI8 h
  have g1:=g ta fun z=>by simp only[A3] at z;exact z.1.1
  have g2:=g ia fun z=>by simp only[A3] at z;exact z.1.2
  have g3:=g bs fun z=>by simp only[A3] at z;exact z.2
  refine .cons ?_ (R2.rep.mono g3)
  have h:Rep K (av B O ia) H2 (at_ B O ta) v1 x:=by
   cases ps with
   |true=>exact R1.rep.same (R2.pur rfl)
   |false=>
    have hs:(ta && ia)=true:=by simpa using hl
    obtain⟨h1,h2⟩:=(A3 _ _).mp hs
    subst h1 h2
    exact R1.rep.fr R2.frm (fun a z=> .inr z) fun a z=> .inr z
  subst ht
  exact h.mono g2 g1
theorem Sta.lone(S:Sta K ml B O H σ δ){i:Nat}{x:Dat}(hm:i∉ml)(h:fO i δ=some (x,δ')):δ'=δ/\ ∃v,σ[i]? =some (some v)/\Rep K (av B O false) H (av B O false) v x:=by
 unfold fO at h
 split at h
 ·rename_i d hd
  cases h
  obtain⟨v,e1,r⟩:=S.va i _ hd
  exact⟨rfl,v,e1,r.mono (fun a z=>z.1) fun a z=>z.1⟩
 ·rename_i d hd
  cases h
  obtain⟨a,e1,e2,w⟩:=S.ow i _ hd
  refine⟨rfl,.ref a,e2,(w.mono fun a z=>z.1).rep fun z=> ?_⟩
  rcases z.2 with z|⟨j,z⟩
  ·exact(S.old i a e1).1 z
  ·have hj:=S.par.1 j a z
   have:i=j:=S.inj i j a e1 ((S.par.2 j hj).trans z)
   exact hm (this▸hj)
 ·cases h
theorem zDT{i:Nat}{fs:VFs}(ha:PE X a (tVar i))(hr:PA X es (TAV K ml ps bs fs))(hs:A2 (a::es) X.env=(false,eval a X.env)::A2 es X.env:=by rfl)(hl:ps=true:=by rfl)(hm:i∉ml:=by decide):
  PA X (a::es) (TAV K ml ps false (zA4 (fO i) fs)):=(zAO ha hr hs).imp fun σ H Q ⟨B,O,δ,d,δ2,S,q,k⟩=>by
 obtain⟨x,δ1,xs,h1,h2,rfl⟩:=zKT q
 obtain⟨rfl,v,e1,r⟩:=S.lone hm h1
 exact⟨v,e1,B,O,δ1,xs,δ2,S,h2,fun vs H2 R2=>k _ H2 ⟨R2.sta,R2.frm,R2.pur,.cons (r.same (R2.pur hl)) (R2.rep.mono (zI8 (b:=false) fun z=>nomatch z))⟩⟩
noncomputable def fTup(fs:VFs):VF:=fun δ=>(fs δ).bind fun p=>if p.1.length<=16777216 then some (.tup p.1,p.2) else none
noncomputable def fLst(fs:VFs):VF:=fun δ=>(fs δ).bind fun p=>if p.1.length<=16777216 then some (.lst p.1,p.2) else none
theorem zNJ{fs:VFs}{g:List Dat->Dat}(h:((fs δ).bind fun p=>if p.1.length<=16777216 then some (g p.1,p.2) else none)=some (d,δ')): ∃ds,fs δ=some (ds,δ')/\ds.length<=16777216/\d=g ds:=by
 cases h1:fs δ with
 | none => rw [h1] at h;cases h
 |some p=>
  rw[h1] at h
  have h:(if p.1.length<=16777216 then some (g p.1,p.2) else none)=some (d,δ'):=h
  split at h
  ·cases h
   exact⟨p.1,rfl,by assumption,rfl⟩
  ·cases h
theorem zAN{x1}{fs:VFs}(h:PA X es (TAV K ml pu bs fs)):PE X (.Tuple es x1 pos) (TV K ml pu true bs (fTup fs)):=(zQC h).imp fun σ H Q q0=>by
 obtain⟨B,O,δ,d,δ',S,q,k⟩:=q0
 obtain⟨ds,h1,hl,rfl⟩:=zNJ (g:=Dat.tup) q
 refine⟨B,O,δ,ds,δ',S,h1,fun vs H1 R=>⟨by rw[R.rep.length,Bt];exact hl,fun p hp=>k _ _ ⟨R.sta.same (zA5 hp),R.frm.trans (zA5 hp).fr,fun z=>(R.pur z).trans (zA5 hp),.tup (SqT.of zAH) (R.rep.same (zA5 hp))⟩⟩⟩
theorem zBS{fs:VFs}(h:PA X es (TAV K ml pu true fs)):PE X (.List es pos) (TN K ml pu (fLst fs)):=(zZ1 h).imp fun σ H Q q0=>by
 obtain⟨B,O,δ,d,δ',S,q,k⟩:=q0
 obtain⟨ds,h1,hl,rfl⟩:=zNJ (g:=Dat.lst) q
 exact⟨B,O,δ,ds,δ',S,h1,fun vs H1 R=>⟨by rw[R.rep.length,Bt];exact hl,fun p hp=>k p _ (mkN R.sta R.frm R.pur hp R.rep)⟩⟩
abbrev VB:=Ev->Option (Bool×Ev)
structure ResB(K:Ad)(ml:List Nat)(B:Bs)(O:Nat->Option Addr)(H:Hp)(σ:St)(pu:Bool)(H':Hp)(δ':Ev):Prop where
 sta:Sta K ml B O H' σ δ'
 frm:Fr (OA O) H H'
 pur:pu=true->Same H H'
def TB(K:Ad)(ml:List Nat)(pu:Bool)(f:VB):TT:=fun σ H Q=> ∃B O δ k δ',Sta K ml B O H σ δ/\f δ=some (k,δ')/\ ∀H',ResB K ml B O H σ pu H' δ'->Q k H'
noncomputable def fB(f:VF):VB:=fun δ=>(f δ).bind fun p=>match p.1 with
 | .bl k=>some (k,p.2)
 |_=>none
theorem yB5{f:VF}{k:Bool}(h:fB f δ=some (k,δ')):f δ=some (.bl k,δ'):=by
 unfold fB at h
 cases h1:f δ with
 | none => rw [h1] at h;cases h
 |some p=>
  obtain⟨x,δ1⟩:=p
  rw[h1] at h
  cases x<;>first
   |(cases h;rfl)
   |cases h
theorem zLF{f:VF}{t:TE}(ht: ∀σ H Q,TV K ml pu bt bi f σ H Q->t σ H Q){Q:Bool->Hp->Prop}(h:TB K ml pu (fB f) σ H Q):t σ H fun x H'=> ∃k,x= .bl k/\Q k H':=by
 obtain⟨B,O,δ,k,δ',S,q,w⟩:=h
 refine ht σ H _ ⟨B,O,δ,.bl k,δ',S,yB5 q,fun v H' R=>⟨k,?_,w H' ⟨R.sta,R.frm,R.pur⟩⟩⟩
 cases R.rep
 rfl
theorem zAR{op:CmpOp}(ho:OpR X (C0 op) r)(hv:OpS K r o)(ha:PE X a (TV K ml pa ta ia fa))(hb:PE X b (TV K ml pb tb ib fb))(hm:Eo op b=false)(hs:(pb || (ta && ia))=true:=by rfl):PT X (.Compare a [op] [b] pos) (TB K ml (pa && pb) (fB (f2 o fa fb))):=
 (zVP ho ha hb hm).imp fun _ _ _ h=>zLF (fun _ _ _=>zOX hv hs) h
theorem zE0{f:VF}(h:PE X e (TV K ml pu bt bi f))(he: ∀aw,isTrue e X.env aw=(do let v<- aw;standAt e.pos;Iq [v] (truthy v)):=by intro _;rfl):PT X e (TB K ml pu (fB f)):=
 (zYM h he).imp fun _ _ _ h=>zLF (fun _ _ _ z=>z) h
noncomputable def bAnd(x y:VB):VB:=fun δ=>(x δ).bind fun p=>if p.1=true then y p.2 else some (false,p.2)
noncomputable def bOr(x y:VB):VB:=fun δ=>(x δ).bind fun p=>if p.1=true then some (true,p.2) else y p.2
noncomputable def bNot(x:VB):VB:=fun δ=>(x δ).map fun p=>(!p.1,p.2)
theorem ResB.refl(S:Sta K ml B O H σ δ):ResB K ml B O H σ pu H δ:=⟨S,Fr.refl _ _,fun _=>Same.refl _⟩
theorem zXG{x y:VB}{Q:Bool->Hp->Prop}(h:TB K ml (pa && pb) (bAnd x y) σ H Q):tAnd (TB K ml pa x) (TB K ml pb y) σ H Q:=by
 obtain⟨B,O,δ,k,δ',S,q,w⟩:=h
 unfold bAnd at q
 cases h1:x δ with
 | none => rw [h1] at q;cases q
 |some p=>
  obtain⟨kk,δ1⟩:=p
  rw[h1] at q
  refine⟨B,O,δ,kk,δ1,S,h1,fun H1 R1=> ?_⟩
  cases kk with
  |true=>
   have q:y δ1=some (k,δ'):=q
   exact iteT ⟨B,O,δ1,k,δ',R1.sta,q,fun H2 R2=>w H2 ⟨R2.sta,R1.frm.trans R2.frm,fun z=>by
    obtain⟨z1,z2⟩:=(A3 _ _).mp z
    exact(R1.pur z1).trans (R2.pur z2)⟩⟩
  |false=>
   have q:some (false,δ1)=some (k,δ'):=q
   cases q
   exact iteF (w H1 ⟨R1.sta,R1.frm,fun z=>R1.pur ((A3 _ _).mp z).1⟩)
theorem yC3{x y:VB}{Q:Bool->Hp->Prop}(h:TB K ml (pa && pb) (bOr x y) σ H Q):tOr (TB K ml pa x) (TB K ml pb y) σ H Q:=by
 obtain⟨B,O,δ,k,δ',S,q,w⟩:=h
 unfold bOr at q
 cases h1:x δ with
 | none => rw [h1] at q;cases q
 |some p=>
  obtain⟨kk,δ1⟩:=p
  rw[h1] at q
  refine⟨B,O,δ,kk,δ1,S,h1,fun H1 R1=> ?_⟩
  cases kk with
  |false=>
   have q:y δ1=some (k,δ'):=q
   exact iteF ⟨B,O,δ1,k,δ',R1.sta,q,fun H2 R2=>w H2 ⟨R2.sta,R1.frm.trans R2.frm,fun z=>by
    obtain⟨z1,z2⟩:=(A3 _ _).mp z
    exact(R1.pur z1).trans (R2.pur z2)⟩⟩
  |true=>
   have q:some (true,δ1)=some (k,δ'):=q
   cases q
   exact iteT (w H1 ⟨R1.sta,R1.frm,fun z=>R1.pur ((A3 _ _).mp z).1⟩)
theorem zE4{x:VB}(h:PT X a (TB K ml pu x)):PT X (.UnaryOp .Not a pos) (TB K ml pu (bNot x)):=(zYN h).imp fun σ H Q q0=>by
 obtain⟨B,O,δ,k,δ',S,q,w⟩:=q0
 unfold bNot at q
 cases h1:x δ with
 |none=>rw[h1] at q;cases q
 |some p=>
  rw[h1] at q
  cases q
  exact⟨B,O,δ,p.1,p.2,S,h1,w⟩
theorem zHE{x:VB}(h:PT X a (TB K ml pu x)):PW X (.BoolOp .And [a] pos) (TB K ml pu x):=zVM h
theorem zFA{x:VB}(h:PT X a (TB K ml pu x)):PW X (.BoolOp .Or [a] pos) (TB K ml pu x):=zYK h
theorem zJX{x y:VB}(ha:PT X a (TB K ml pa x))(hb:PW X (.BoolOp .And (b::es) pos) (TB K ml pb y)):PW X (.BoolOp .And (a::b::es) pos) (TB K ml (pa && pb) (bAnd x y)):=(zYL ha hb).imp fun _ _ _ h=>zXG h
theorem zI9{x y:VB}(ha:PT X a (TB K ml pa x))(hb:PW X (.BoolOp .Or (b::es) pos) (TB K ml pb y)):PW X (.BoolOp .Or (a::b::es) pos) (TB K ml (pa && pb) (bOr x y)):=(yD5 ha hb).imp fun _ _ _ h=>yC3 h
theorem vt_w{x:VB}(h:PW X e (TB K ml pu x)):PT X e (TB K ml pu x):=h.pt
noncomputable def fAnd(x y:VF):VF:=fun δ=>(x δ).bind fun p=>match p.1 with
 | .bl true=>y p.2
 | .bl false=>some (.bl false,p.2)
 |_=>none
theorem zHG{op}{f:VF}(h:PE X a (TV K ml pu bt bi f)):PE X (.BoolOp op [a] pos) (TV K ml pu bt bi f):=zYZ h
theorem zFD(ha:PE X a (TV K ml pa ta ia fa))(hb:PE X (.BoolOp .And (b::es) pos) (TV K ml pb tb ib fb)):PE X (.BoolOp .And (a::b::es) pos) (TV K ml (pa && pb) tb ib (fAnd fa fb)):=(zZ3 ha hb).imp fun σ H Q q0=>by
 obtain⟨B,O,δ,d,δ',S,q,k⟩:=q0
 unfold fAnd at q
 cases h1:fa δ with
 | none => rw [h1] at q;cases q
 |some p=>
  obtain⟨x,δ1⟩:=p
  rw[h1] at q
  refine⟨B,O,δ,x,δ1,S,h1,fun v1 H1 R1=> ?_⟩
  cases x with
  |bl kk=>
   have e1:v1= .bl kk:=by cases R1.rep;rfl
   refine⟨kk,e1,?_⟩
   cases kk with
   |true=>
    exact iteT ⟨B,O,δ1,d,δ',R1.sta,q,fun v2 H2 R2=>k v2 H2 ⟨R2.sta,R1.frm.trans R2.frm,fun z=>by
     obtain⟨z1,z2⟩:=(A3 _ _).mp z
     exact(R1.pur z1).trans (R2.pur z2),R2.rep⟩⟩
   |false=>
    cases q
    exact iteF (k _ H1 ⟨R1.sta,R1.frm,fun z=>R1.pur ((A3 _ _).mp z).1,.bl _⟩)
  |_=>cases q
noncomputable def fIf(t:VB)(x y:VF):VF:=fun δ=>(t δ).bind fun p=>if p.1=true then x p.2 else y p.2
theorem zEP{t:VB}(ht:PT X c (TB K ml pc t))(ha:PE X a (TV K ml pa ta ia fa))(hb:PE X b (TV K ml pb tb ib fb)):PE X (.IfExp c a b pos) (TV K ml (pc && pa && pb) (ta && tb) (ia && ib) (fIf t fa fb)):=(zSZ ht ha hb).imp fun σ H Q q0=>by
 obtain⟨B,O,δ,d,δ',S,q,k⟩:=q0
 unfold fIf at q
 cases h1:t δ with
 | none => rw [h1] at q;cases q
 |some p=>
  obtain⟨kk,δ1⟩:=p
  rw[h1] at q
  refine⟨B,O,δ,kk,δ1,S,h1,fun H1 R1=> ?_⟩
  have g1: ∀c,((ta && tb)=true->c=true)-> ∀a,at_ B O (ta && tb) a->at_ B O c a:=fun c h=>zX3 h
  have g2: ∀c,((ia && ib)=true->c=true)-> ∀a,av B O (ia && ib) a->av B O c a:=fun c h=>zI8 h
  cases kk with
  |true=>
   exact iteT ⟨B,O,δ1,d,δ',R1.sta,q,fun v2 H2 R2=>k v2 H2 ⟨R2.sta,R1.frm.trans R2.frm,fun z=>by
    simp only[A3] at z
    exact(R1.pur z.1.1).trans (R2.pur z.1.2),R2.rep.mono (g2 _ fun z=>((A3 _ _).mp z).1) (g1 _ fun z=>((A3 _ _).mp z).1)⟩⟩
  |false=>
   exact iteF ⟨B,O,δ1,d,δ',R1.sta,q,fun v2 H2 R2=>k v2 H2 ⟨R2.sta,R1.frm.trans R2.frm,fun z=>by
    simp only[A3] at z
    exact(R1.pur z.1.1).trans (R2.pur z.2),R2.rep.mono (g2 _ fun z=>((A3 _ _).mp z).2) (g1 _ fun z=>((A3 _ _).mp z).2)⟩⟩
noncomputable def f3(o o':Dat->Dat->Option Dat)(fa fb fc:VF):VF:=fun δ=>(fa δ).bind fun p=>(fb p.2).bind fun q=>(o p.1 q.1).bind fun z=>match z with
 | .bl true=>(fc q.2).bind fun s=>(o' q.1 s.1).map fun u=>(u,s.2)
 | .bl false=>some (.bl false,q.2)
 |_=>none
theorem zMH(ho:OpS K r o)(ho':OpS K r' o')(hs:(pb || (ta && ia))=true)(hs':(pc || (tb && ib))=true){Q:VK}(h:TV K ml (pa && pb && pc) true true (f3 o o' fa fb fc) σ H Q):zP5 r r' (TV K ml pa ta ia fa) (TV K ml pb tb ib fb) (TV K ml pc tc ic fc) σ H Q:=by
 obtain⟨B,O,δ,d,δ3,S,q,k⟩:=h
 unfold f3 at q
 cases h1:fa δ with
 | none => rw [h1] at q;cases q
 |some p=>
  obtain⟨x,δ1⟩:=p
  rw[h1] at q
  cases h2:fb δ1 with
  | none => simp [h2] at q
  |some p2=>
   obtain⟨y,δ2⟩:=p2
   simp only[Aa,h2] at q
   refine⟨B,O,δ,x,δ1,S,h1,fun v1 H1 R1=>⟨B,O,δ1,y,δ2,R1.sta,h2,fun v2 H2 R2=> ?_⟩⟩
   cases h3:o x y with
   | none => rw [h3] at q;cases q
   |some z=>
    rw[h3] at q
    refine ho H2 _ _ _ _ v1 v2 x y z _ (R2.live hs R1.rep) R2.rep h3 fun v hv=> ?_
    have hv := hv (fun _ => none) (fun _ => True) fun _ => True
    cases z with
    |bl kk=>
     have e1:v= .bl kk:=by cases hv;rfl
     refine⟨kk,e1,?_⟩
     cases kk with
     |false=>
      cases q
      exact iteF (k _ H2 ⟨R2.sta,R1.frm.trans R2.frm,fun z=>by
       simp only[A3] at z
       exact(R1.pur z.1.1).trans (R2.pur z.1.2),.bl _⟩)
     |true=>
      have q:((fc δ2).bind fun s=>(o' y s.1).map fun u=>(u,s.2))=some (d,δ3):=q
      cases h4:fc δ2 with
      | none => rw [h4] at q;cases q
      |some p4=>
       obtain⟨z4,δ4⟩:=p4
       rw[h4] at q
       have q:((o' y z4).map fun u=>(u,δ4))=some (d,δ3):=q
       cases h5:o' y z4 with
       | none => rw [h5] at q;cases q
       |some u=>
        rw[h5] at q
        cases q
        refine iteT ⟨B,O,δ2,z4,_,R2.sta,h4,fun v4 H4 R4=> ?_⟩
        exact ho' H4 _ _ _ _ v2 v4 y z4 d Q (R4.live hs' R2.rep) R4.rep h5 fun v hv=>k v H4 ⟨R4.sta,(R1.frm.trans R2.frm).trans R4.frm,fun z=>by
         simp only[A3] at z
         exact((R1.pur z.1.1).trans (R2.pur z.1.2)).trans (R4.pur z.2),hv _ _ _⟩
    |_=>cases q
theorem zS8{op op':CmpOp}(ho:OpR X (C0 op) r)(ho':OpR X (C0 op') r')(hv:OpS K r o)(hv':OpS K r' o')(ha:PE X a (TV K ml pa ta ia fa))(hb:PE X b (TV K ml pb tb ib fb))(hc:PE X c (TV K ml pc tc ic fc))
  (hm:Kl [op,op'] [b,c]=false:=by with_unfolding_all rfl) (hs:(pb || (ta && ia))=true:=by rfl) (hs':(pc || (tb && ib))=true:=by rfl):PE X (.Compare a [op,op'] [b,c] pos) (TV K ml (pa && pb && pc) true true (f3 o o' fa fb fc)):=
 (zT4 ho ho' ha hb hc hm).imp fun _ _ _ h=>zMH hv hv' hs hs' h
theorem zMC{op op':CmpOp}(ho:OpR X (C0 op) r)(ho':OpR X (C0 op') r')(hv:OpS K r o)(hv':OpS K r' o')(ha:PE X a (TV K ml pa ta ia fa))(hb:PE X b (TV K ml pb tb ib fb))(hc:PE X c (TV K ml pc tc ic fc))
  (hm:Kl [op,op'] [b,c]=false:=by with_unfolding_all rfl) (hs:(pb || (ta && ia))=true:=by rfl) (hs':(pc || (tb && ib))=true:=by rfl):PT X (.Compare a [op,op'] [b,c] pos) (TB K ml (pa && pb && pc) (fB (f3 o o' fa fb fc))):=
 (zSU ho ho' ha hb hc hm).imp fun _ _ _ h=>zLF (fun _ _ _=>zMH hv hv' hs hs') h
end
section
variable{X:Cx}{K:Ad}{ml:List Nat}{e a b c:Expr}{es:List Expr}{pa ta ia pb tb ib pc tc ic pu bt bi ps bs:Bool}{fa fb fc:VF}{B:Bs}{O:Nat->Option Addr}{H H1 H':Hp}{σ:St}{δ δ':Ev}{v:V}{d:Dat}{p:Addr}{pos:Pos}
noncomputable def f1(o:Dat->Option Dat)(fa:VF):VF:=fun δ=>(fa δ).bind fun p=>(o p.1).map fun c=>(c,p.2)
theorem zKV{o:Dat->Option Dat}(h:f1 o fa δ=some (d,δ')): ∃x,fa δ=some (x,δ')/\o x=some d:=by
 unfold f1 at h
 cases h1:fa δ with
 | none => rw [h1] at h;cases h
 |some p=>
  rw[h1] at h
  have h:((o p.1).map fun c=>(c,p.2))=some (d,δ'):=h
  cases h3:o p.1 with
  |none=>rw[h3] at h;cases h
  |some c=>
   rw[h3] at h
   cases h
   exact⟨p.1,rfl,h3⟩
abbrev RC:=List V->Hp->VK->Prop
def CalS(K:Ad)(r:RC)(o:Dat->Option Dat):Prop:= ∀(H:Hp) (N M:Addr->Prop) (x:V) (d c:Dat) (Q:VK),Rep K N H M x d->o d=some c->(∀v,(∀H' N M,Rep K N H' M v c)->Q v H)->r [x] H Q
def CalC(K:Ad)(r:RC)(o:Dat->Option Dat):Prop:= ∀(H:Hp) (N M:Addr->Prop) (x:V) (d c:Dat) (Q:VK),Rep K N H M x d->o d=some c→
 (∀v H',Same H H'->(∀M,(∀a,M a-> ∃o,H a=some o)->Rep K N H' M v c)->Q v H')->r [x] H Q
def CalN(K:Ad)(r:RC)(o:Dat->Option Dat):Prop:= ∀(H:Hp) (N M:Addr->Prop) (x:V) (d c:Dat) (Q:VK),Rep K N H M x d->o d=some c→
 (∀p xs ds,H p=none->RepA K N H xs ds->c= .lst ds->Q (.ref p) (upd H p (.lst xs)))->r [x] H Q
def zOM(K:Ad)(r:RC)(o:Dat->Dat->Option Dat):Prop:= ∀(H:Hp) (N N' M M':Addr->Prop) (x y:V) (d e c:Dat) (Q:VK),Rep K N H M x d->Rep K N' H M' y e->o d e=some c->(∀v,(∀H' N M,Rep K N H' M v c)->Q v H)->r [x,y] H Q
theorem zP0{r:RC}{o:Dat->Option Dat}(ho:CalS K r o){Q:VK}(h:TV K ml pa true true (f1 o fa) σ H Q):tCB r (zO0 (TV K ml pa ta ia fa) tNil) σ H Q:=by
 obtain⟨B,O,δ,d,δ',S,q,k⟩:=h
 obtain⟨x,h1,h2⟩:=zKV q
 exact⟨B,O,δ,x,δ',S,h1,fun v1 H1 R1=>ho H1 _ _ v1 x d Q R1.rep h2 fun v hv=>k v H1 ⟨R1.sta,R1.frm,R1.pur,hv _ _ _⟩⟩
theorem zP1{r:RC}{o:Dat->Option Dat}(ho:CalC K r o){Q:VK}(h:TV K ml pa true ia (f1 o fa) σ H Q):tCB r (zO0 (TV K ml pa ta ia fa) tNil) σ H Q:=by
 obtain⟨B,O,δ,d,δ',S,q,k⟩:=h
 obtain⟨x,h1,h2⟩:=zKV q
 exact⟨B,O,δ,x,δ',S,h1,fun v1 H1 R1=>ho H1 _ _ v1 x d Q R1.rep h2 fun v H2 s2 hv=>k v H2 ⟨R1.sta.same s2,R1.frm.trans s2.fr,fun z=>(R1.pur z).trans s2,hv _ fun a z=>R1.sta.nin z⟩⟩
theorem zK0{r:RC}{o:Dat->Option Dat}(ho:CalN K r o){Q:VK}(h:TN K ml pa (f1 o fa) σ H Q):tCB r (zO0 (TV K ml pa ta true fa) tNil) σ H Q:=by
 obtain⟨B,O,δ,d,δ',S,q,k⟩:=h
 obtain⟨x,h1,h2⟩:=zKV q
 refine⟨B,O,δ,x,δ',S,h1,fun v1 H1 R1=>ho H1 _ _ v1 x d Q R1.rep h2 fun p xs ds hp hr he=> ?_⟩
 subst he
 exact k p _ (mkN R1.sta R1.frm R1.pur hp hr)
theorem zOZ{r:RC}{o:Dat->Dat->Option Dat}(ho:zOM K r o)(hs:(pb || (ta && ia))=true){Q:VK}(h:TV K ml (pa && pb) true true (f2 o fa fb) σ H Q):tCB r (zO0 (TV K ml pa ta ia fa) (zO0 (TV K ml pb tb ib fb) tNil)) σ H Q:=by
 obtain⟨B,O,δ,d,δ2,S,q,k⟩:=h
 obtain⟨x,δ1,y,h1,h2,h3⟩:=zIS q
 refine⟨B,O,δ,x,δ1,S,h1,fun v1 H1 R1=>⟨B,O,δ1,y,δ2,R1.sta,h2,fun v2 H2 R2=> ?_⟩⟩
 exact ho H2 _ _ _ _ v1 v2 x y d Q (R2.live hs R1.rep) R2.rep h3 fun v hv=>k v H2 ⟨R2.sta,R1.frm.trans R2.frm,fun z=>by
  obtain⟨z1,z2⟩:=(A3 _ _).mp z
  exact(R1.pur z1).trans (R2.pur z2),hv _ _ _⟩
section
variable{x:Str}{p':Pos}{id T:String}{r:RC}
theorem zV8{o:Dat->Option Dat}(hc:zBW X (.builtin id) r)(ho:CalS K r o)(hg:Gl X x)(hm:X.mg x=none)(hv:As x=some (.builtin id))(ha:PE X a (TV K ml pa ta ia fa))(hn:x≠ "__name__":=by decide) (hdb:(x==("__debug__":Str))=false:=by decide)
  (he:A2 (a::[]) X.env=(false,eval a X.env)::A2 [] X.env:=by rfl):PE X (.Call (.Name x p') [a] [] pos) (TV K ml pa true true (f1 o fa)):=
 (zH8 hc hg hm hv (zAO ha zBT he) hn hdb he).imp fun _ _ _ h=>zP0 ho h
theorem zNX{o:Dat->Dat->Option Dat}(hc:zBW X (.builtin id) r)(ho:zOM K r o)(hg:Gl X x)(hm:X.mg x=none)(hv:As x=some (.builtin id))(ha:PE X a (TV K ml pa ta ia fa))(hb:PE X b (TV K ml pb tb ib fb))(hn:x≠ "__name__":=by decide) (hdb:(x==("__debug__":Str))=false:=by decide)
  (he:A2 (a::[b]) X.env=(false,eval a X.env)::A2 [b] X.env:=by rfl) (he2:A2 (b::[]) X.env=(false,eval b X.env)::A2 [] X.env:=by rfl) (hpl:(Dc pos (A2 [b] X.env)).any (·.1)=false:=by rfl) (hs:(pb || (ta && ia))=true:=by rfl):
  PE X (.Call (.Name x p') [a,b] [] pos) (TV K ml (pa && pb) true true (f2 o fa fb)):=
 (zH8 hc hg hm hv (zAO ha (zAO hb zBT he2) he) hn hdb he hpl).imp fun _ _ _ h=>zOZ ho hs h
theorem zOV{o:Dat->Option Dat}(hc:zBW X (.type T) r)(ho:CalC K r o)(hg:Gl X x)(hm:X.mg x=none)(hv:As x=some (.type T))(ha:PE X a (TV K ml pa ta ia fa))(hn:x≠ "__name__":=by decide) (hdb:(x==("__debug__":Str))=false:=by decide)
  (he:A2 (a::[]) X.env=(false,eval a X.env)::A2 [] X.env:=by rfl):PE X (.Call (.Name x p') [a] [] pos) (TV K ml pa true ia (f1 o fa)):=
 (zDA hc hg hm hv (zAO ha zBT he) hn hdb he).imp fun _ _ _ h=>zP1 ho h
theorem zOT{o:Dat->Option Dat}(hc:zBW X (.type T) r)(ho:CalN K r o)(hg:Gl X x)(hm:X.mg x=none)(hv:As x=some (.type T))(ha:PE X a (TV K ml pa ta true fa))(hn:x≠ "__name__":=by decide) (hdb:(x==("__debug__":Str))=false:=by decide)
  (he:A2 (a::[]) X.env=(false,eval a X.env)::A2 [] X.env:=by rfl):PE X (.Call (.Name x p') [a] [] pos) (TN K ml pa (f1 o fa)):=
 (zDA hc hg hm hv (zAO ha zBT he) hn hdb he).imp fun _ _ _ h=>zK0 ho h
theorem zX6{o:Dat->Option Dat}(hc:zBW X (.builtin id) r)(ho:CalN K r o)(hg:Gl X x)(hm:X.mg x=none)(hv:As x=some (.builtin id))(ha:PE X a (TV K ml pa ta true fa))(hn:x≠ "__name__":=by decide) (hdb:(x==("__debug__":Str))=false:=by decide)
  (he:A2 (a::[]) X.env=(false,eval a X.env)::A2 [] X.env:=by rfl):PE X (.Call (.Name x p') [a] [] pos) (TN K ml pa (f1 o fa)):=
 (zH8 hc hg hm hv (zAO ha zBT he) hn hdb he).imp fun _ _ _ h=>zK0 ho h
end
noncomputable def oLen:Dat->Option Dat
 | .tup ds=>some (.int ds.length)
 | .lst ds=>some (.int ds.length)
 | .str z=>if z.length<=16777216 then some (.int z.length) else none
 |_=>none
def rLen(K:Ad):RC:=fun xs H Q=>(∃p ys,xs=[.ref p]/\(SqL K H p ys∨SqT K H p ys)/\Q (.int ys.length) H)∨ ∃z,xs=[.str z]/\z.length<=sizeLine/\Q (.int z.length) H
theorem yEJ(h:X.K=K):zBW X (.builtin "len") (rLen K):=by subst h;exact zL6.or zL5
theorem yCN:CalS K (rLen K) oLen:=by
  intro H N M x d c Q hx h k
  cases d<;>first
    | (rename_i ds
       obtain⟨a,xs,rfl,sq,r⟩:=hx.seq rfl
       cases h
       refine .inl ⟨a,xs,rfl,sq,?_⟩
       rw[r.length]
       exact k _ fun _ _ _=> .int _)
    | (cases hx
       simp only[oLen] at h
       split at h
       · cases h
         exact .inr ⟨_,rfl,by rw[Bt];assumption,k _ fun _ _ _=> .int _⟩
       · cases h)
    |cases h
noncomputable def zKJ(d:Dat):Option Dat:=(seqD d).map Dat.lst
noncomputable def zGS(d:Dat):Option Dat:=(seqD d).map Dat.tup
def zMW(K:Ad):RC:=fun xs H Q=> ∃p ys,xs=[.ref p]/\(SqL K H p ys∨SqT K H p ys)/\ ∀l,H l=none->Q (.ref l) (upd H l (.lst ys))
def zPX(K:Ad):RC:=fun xs H Q=> ∃p ys,xs=[.ref p]/\((SqL K H p ys/\ ∀l,H l=none->Q (.ref l) (upd H l (.tup ys)))∨(SqT K H p ys/\Q (.ref p) H))
theorem zIO(h:X.K=K):zBW X (.type "list") (zMW K):=yEI h
theorem zHS(h:X.K=K):zBW X (.type "tuple") (zPX K):=yAR h
theorem zMM{d:Dat}{g:List Dat->Dat}{c:Dat}(h:(seqD d).map g=some c): ∃ds,seqD d=some ds/\c=g ds:=by
 cases h1:seqD d with
 |none=>rw[h1] at h;cases h
 |some ds=>rw[h1] at h;cases h;exact⟨ds,rfl,rfl⟩
theorem zDF:CalN K (zMW K) zKJ:=by
 intro H N M x d c Q hx h k
 obtain⟨ds,h1,rfl⟩:=zMM h
 obtain⟨a,xs,rfl,sq,r⟩:=hx.seq h1
 exact⟨a,xs,rfl,sq,fun l hl=>k l xs ds hl r rfl⟩
theorem zI7:CalC K (zPX K) zGS:=by
 intro H N M x d c Q hx h k
 obtain⟨ds,h1,rfl⟩:=zMM h
 obtain⟨a,xs,rfl,sq,r⟩:=hx.seq h1
 rcases sq with sq|sq
 ·exact⟨a,xs,rfl,.inl ⟨sq,fun l hl=>k _ _ (zA5 hl) fun M hM=> .tup (SqT.of zAH) (r.same (zA5 hl))⟩⟩
 ·exact⟨a,xs,rfl,.inr ⟨sq,k _ _ (Same.refl _) fun M hM=> .tup sq r⟩⟩
noncomputable def o2I(g:Int->Int->Int):Dat->Dat->Option Dat
 | .int i,.int j=>some (.int (g i j))
 |_,_=>none
theorem zU4{g:Int->Int->Int}:zOM K (fun xs H Q=> ∃i j,xs=[.int i,.int j]/\Q (.int (g i j)) H) (o2I g):=by
 intro H N N' M M' x y d e c Q hx hy h k
 unfold o2I at h
 split at h
 ·cases h
  cases hx
  cases hy
  exact⟨_,_,rfl,k _ fun _ _ _=> .int _⟩
 ·cases h
noncomputable abbrev oMax:=o2I fun i j=>if j>i then j else i
noncomputable abbrev oMin:=o2I fun i j=>if j<i then j else i
theorem zY2:zOM K (fun xs H Q=> ∃i j,xs=[.int i,.int j]/\Q (.int (if j>i then j else i)) H) oMax:=zU4
theorem zVG:zOM K (fun xs H Q=> ∃i j,xs=[.int i,.int j]/\Q (.int (if j<i then j else i)) H) oMin:=zU4
noncomputable def tyD:Dat->Option String
 | .non=>some "NoneType"
 | .bl _=>some "bool"
 | .int _=>some "int"
 | .str _=>some "str"
 | .tup _=>some "tuple"
 | .lst _=>some "list"
 |_=>none
noncomputable def isiT(t n:String):Option Bool:=if((Gi t)==(Gi n))=true then some true else if W.kitMeta n=true then(PySem.fastBuiltinMro t).map (·.contains (.type n)) else none
theorem zWQ{t n:String}{k:Bool}(h:isiT t n=some k):W.kitOne K (.type t) (.type n)=some k:=h
noncomputable def oIsi:Dat->Dat->Option Dat
 |d,.ty n=>(tyD d).bind fun t=>(isiT t n).map Dat.bl
 |_,_=>none
def rIsi(K:Ad):RC:=fun xs H Q=> ∃x n d N M t k,xs=[x,.ty n]/\Rep K N H M x d/\tyD d=some t/\isiT t n=some k/\Q (.bl k) H
theorem zRO:zBW X (.builtin "isinstance") (rIsi X.K):=by
 intro a6 s σ H xs us Q I r h
 obtain⟨x,n,d,N,M,t,k,rfl,hx,ht,hk,q⟩:=h
 obtain⟨u,c,rfl,rx,rc⟩:=zSC r
 cases (show c=Gi n from rc)
 have e:=zWQ (K:=X.K) hk
 have fin: ∀tk,EP X a6 σ Q (.bool k) {s with toks:=tk}:=fun tk=>⟨.bl k,H,I.tok tk,rfl,q⟩
 cases hx with
 |non=>cases ht;exact zFO I rx (.non) e fin
 |bl y=>cases ht;exact zFO I rx (.bl y) e fin
 |int i=>cases ht;exact zFO I rx (.int i) e fin
 |str y=>cases ht;exact zFO I rx (.str y) e fin
 |ty n=>cases ht
 |fn _=>cases ht
 |dct _ _ _=>cases ht
 |ktb _ _=>cases ht
 |exn _ _ _=>cases ht
 |tup q _=>
  cases ht
  cases rx
  obtain⟨its,_,⟨o,h1,h2,_⟩,_⟩:=I.tuple q
  exact Dr W.kitx_tuple I.kIn ⟨o,h1,h2⟩ e (fun z=>nomatch z) fin
 |lst q _ _=>
  cases ht
  cases rx
  obtain⟨its,_,⟨o,n,h1,h2,_⟩,_⟩:=I.list (SqL.of q)
  exact Dr Ir I.kIn ⟨o,h1,h2⟩ e (fun z=>nomatch z) fin
 |fzl q _=>
  cases ht
  cases rx
  obtain⟨its,_,⟨o,n,h1,h2,_⟩,_⟩:=I.list q.sq
  exact Dr Ir I.kIn ⟨o,h1,h2⟩ e (fun z=>nomatch z) fin
theorem kIsi(h:X.K=K):zBW X (.builtin "isinstance") (rIsi K):=by subst h;exact zRO
theorem yCO:zOM K (rIsi K) oIsi:=by
  intro H N N' M M' x y d e c Q hx hy h k
  cases hy<;>first
    | (simp only [oIsi] at h
       cases h1:tyD d with
       | none => rw [h1] at h;cases h
       |some t=>
         rw[h1] at h
         rename_i n
         have h:(isiT t n).map Dat.bl=some c:=h
         cases h2:isiT t n with
         | none => rw [h2] at h;cases h
         |some kk=>
           rw[h2] at h
           cases h
           exact⟨x,n,d,N,M,t,kk,rfl,hx,h1,h2,k _ fun _ _ _=> .bl _⟩)
    |cases h
noncomputable def oNeg:Dat->Option Dat
 | .int i=>some (.int (-i))
 |_=>none
theorem zIA(ha:PE X a (TV K ml pa ta ia fa)):PE X (.UnaryOp .USub a pos) (TV K ml pa true true (f1 oNeg fa)):=(yDD zXA ha).imp fun σ H Q q0=>by
 obtain⟨B,O,δ,d,δ',S,q,k⟩:=q0
 obtain⟨x,h1,h2⟩:=zKV q
 refine⟨B,O,δ,x,δ',S,h1,fun v1 H1 R1=> ?_⟩
 cases x with
 |int i=>
  cases h2
  have e1:v1= .int i:=by cases R1.rep;rfl
  exact⟨i,e1,k _ H1 ⟨R1.sta,R1.frm,R1.pur,.int _⟩⟩
 |_=>cases h2
abbrev VP:=Ev->Option (Option Int×Ev)
def TPO(K:Ad)(ml:List Nat)(pu:Bool)(f:VP):TO:=fun σ H Q=> ∃B O δ k δ',Sta K ml B O H σ δ/\f δ=some (k,δ')/\ ∀H',ResB K ml B O H σ pu H' δ'->Q k H'
noncomputable def pNo:VP:=fun δ=>some (none,δ)
noncomputable def pSo(f:VF):VP:=fun δ=>(f δ).bind fun p=>match p.1 with
 | .int i=>some (some i,p.2)
 |_=>none
theorem PO.imp{e:Option Expr}{t u:TO}(h:PO X e t)(k: ∀σ H Q,u σ H Q->t σ H Q):PO X e u:=fun a6 s σ H Q I w=>h a6 s σ H Q I (k σ H Q w)
theorem zJ2:PO X none (TPO K ml true pNo):=zVV.imp fun σ H Q q0=>by
 obtain⟨B,O,δ,d,δ',S,q,k⟩:=q0
 cases q
 exact k H (ResB.refl S)
theorem zJ1(h:PE X a (TV K ml pa ta ia fa)):PO X (some a) (TPO K ml pa (pSo fa)):=(zVU h).imp fun σ H Q q0=>by
 obtain⟨B,O,δ,d,δ',S,q,k⟩:=q0
 unfold pSo at q
 cases h1:fa δ with
 | none => rw [h1] at q;cases q
 |some p=>
  obtain⟨x,δ1⟩:=p
  rw[h1] at q
  refine⟨B,O,δ,x,δ1,S,h1,fun v1 H1 R1=> ?_⟩
  cases x with
  |int i=>
   have e1:v1= .int i:=by cases R1.rep;rfl
   cases q
   exact⟨i,e1,k H1 ⟨R1.sta,R1.frm,R1.pur⟩⟩
  |_=>cases q
noncomputable def cutD(ds:List Dat)(lo hi:Option Int):List Dat:=(ds.drop (HT.sIx ds.length 0 lo)).take (HT.sIx ds.length ds.length hi - HT.sIx ds.length 0 lo)
theorem zJO{N:Addr->Prop}{xs:List V}{ds:List Dat}(r:RepA K N H xs ds)(lo hi:Option Int):RepA K N H (cutV xs lo hi) (cutD ds lo hi):=by
 unfold cutV cutD
 rw[r.length]
 exact(r.drop _).take _
noncomputable def oSl(d:Dat)(lo hi:Option Int):Option Dat:=match d with
 | .lst ds=>some (.lst (cutD ds lo hi))
 | .tup ds=>some (.tup (cutD ds lo hi))
 |_=>none
noncomputable def fSl(fa:VF)(fl fh:VP):VF:=fun δ=>(fa δ).bind fun p=>(fl p.2).bind fun l=>(fh l.2).bind fun u=>(oSl p.1 l.1 u.1).map fun c=>(c,u.2)
theorem zP4{prog:Aw}{w:World}{A:C3}{E:Value->A7->Prop}{s:A7}{t sl:Addr}{items:Array Value}{vl vu:Value}{lo hi:Option Int}{Q:Value->A7->Prop}(ht:IsTup s.heap t items)(hs:s.heap.IsSliceOf sl vl vu .none)(pl:IsPart vl lo)
  (pu:IsPart vu hi) (h1:HT.sIx items.size 0 lo=0) (h2:HT.sIx items.size items.size hi=items.size) (h:Q (.ref t) s):wpAny (model prog w) A (Gv (.ref t) (.ref sl)) Q E s:=by
 obtain⟨os,hos,hcs,hds⟩:=id hs
 have hT:s.TypeIs (.ref sl) "slice":=⟨os,hos,hcs⟩
 unfold Gv
 try with_reducible refine Be ?_
 first|refine A0 (A9 ?_)|skip
 refine A0 (Gm ht.typeIs (by decide) ?_)
 refine A0 (C8 (name:=Av "__getitem__") ht.typeIs Cw
  (Cv Cw ht.typeIs PyProof.Rows.entry_tuple_getitem ?_ (PyProof.Rows.args_tuple_getitem _ _)))
 show wpAny _ _ (G8 (.ref t)>>=_) _ _ s
 refine A0 (PyProof.Rows.tupleItemsOf_ ht ?_)
 refine A0 (Gb hT ?_)
 rw[if_pos (by decide)]
 refine A0 (HT.zE2 hs pl pu ?_)
 rw[h1,h2]
 show wpAny _ _ (if((((0:Nat):Int)==0 && (1:Int)==1 && (items.size - 0)==items.size)=true) then _ else _) _ _ s
 rw[if_pos (by simp)]
 refine A0 (m:=L3 _) (A0 (Gb ht.typeIs (A9 ?_)))
 rw[if_pos (by decide)]
 exact A0 (F3 (A9 ⟨_,rfl,A9 h⟩))
def rSlW(K:Ad):V->Option Int->Option Int->Hp->VK->Prop:=fun x lo hi H Q=> ∃a xs,x= .ref a/\SqT K H a xs/\(HT.sIx xs.length 0 lo=0/\HT.sIx xs.length xs.length hi=xs.length)/\Q (.ref a) H
theorem zVD:SlR X (rSlW X.K):=by
 intro a6 s σ H x v vl vu lo hi sl Q I rx hs pl pu h
 obtain⟨a,xs,rfl,hx,hw,q⟩:=h
 cases rx
 obtain⟨its,r,ht,hz⟩:=I.tuple hx
 have a9:its.toArray.size=xs.length:=by rw[Af];exact r.length.symm
 refine⟨"tuple",_,PyProof.Rows.slot_tuple_getitem.lookup,ht.typeIs,?_⟩
 exact zP4 ht hs pl pu (by rw[a9];exact hw.1) (by rw[a9];exact hw.2) ⟨.ref a,H,I,rfl,q⟩
def rSl(K:Ad):V->Option Int->Option Int->Hp->VK->Prop:=fun x lo hi H Q=>(rSlT K x lo hi H Q∨rSlL K x lo hi H Q)∨rSlW K x lo hi H Q
theorem kSl(h:X.K=K):SlR X (rSl K):=by subst h;exact(zXN.or zVE).or zVD
theorem zWW{fl fh:VP}(h:fSl fa fl fh δ=some (d,δ')): ∃x δ1 l δ2 u,fa δ=some (x,δ1)/\fl δ1=some (l,δ2)/\fh δ2=some (u,δ')/\oSl x l u=some d:=by
 unfold fSl at h
 cases h1:fa δ with
 | none => rw [h1] at h;cases h
 |some p=>
  rw[h1] at h
  cases h2:fl p.2 with
  | none => simp [h2] at h
  |some q=>
   simp only[Aa,h2] at h
   cases h3:fh q.2 with
   | none => simp [h3] at h
   |some s=>
    simp only[Aa,h3] at h
    cases h4:oSl p.1 q.1 s.1 with
    |none=>rw[h4] at h;cases h
    |some c=>
     rw[h4] at h
     cases h
     exact⟨p.1,p.2,q.1,q.2,s.1,rfl,h2,h3,h4⟩
theorem zJ3{lo hi:Option Expr}{p2:Pos}{fl fh:VP}(hK:X.K=K)(ha:PE X a (TV K ml pa ta ia fa))(hl:PO X lo (TPO K ml pb fl))(hh:PO X hi (TPO K ml pc fh))(hs:(pb && pc || (ta && ia))=true:=by rfl):
  PE X (.Subscript a (.Slice lo hi none p2) pos) (TV K ml (pa && pb && pc) true ia (fSl fa fl fh)) := (zSY (kSl hK) ha hl hh).imp fun σ H Q ⟨B,O,δ,d,δ3,S,q,k⟩ => by
 obtain⟨x,δ1,l,δ2,u,h1,h2,h3,h4⟩:=zWW q
 refine⟨B,O,δ,x,δ1,S,h1,fun v1 H1 R1=>⟨B,O,δ1,l,δ2,R1.sta,h2,fun H2 R2=>⟨B,O,δ2,u,δ3,R2.sta,h3,fun H3 R3=> ?_⟩⟩⟩
 have hx:Rep K (av B O ia) H3 (at_ B O ta) v1 x:=by
  rcases(Ew _ _).mp hs with z|z
  ·obtain⟨z1,z2⟩:=(A3 _ _).mp z
   exact(R1.rep.same (R2.pur z1)).same (R3.pur z2)
  ·obtain⟨z1,z2⟩:=(A3 _ _).mp z
   subst z1 z2
   exact(R1.rep.fr R2.frm (fun a z=> .inr z) fun a z=> .inr z).fr R3.frm (fun a z=> .inr z) fun a z=> .inr z
 have dm:(pa && pb && pc)=true->Same H H3:=fun z=>by
  simp only[A3] at z
  exact((R1.pur z.1.1).trans (R2.pur z.1.2)).trans (R3.pur z.2)
 have hfr:=(R1.frm.trans R2.frm).trans R3.frm
 cases x with
 |lst ds=>
  cases h4
  obtain⟨a,xs,rfl,sq,r⟩:=hx.seq rfl
  rcases sq with sq|sq
  ·exact .inl (.inr ⟨a,xs,rfl,sq,fun p hp => k _ _ ⟨R3.sta.same (zA5 hp),hfr.trans (zA5 hp).fr,fun z => (dm z).trans (zA5 hp),.lst zAH (R3.sta.new hp) ((zJO r l u).same (zA5 hp))⟩⟩)
  ·cases hx with
   | lst q n r' => exact .inl (.inr ⟨a,_,rfl,SqL.of q,fun p hp => k _ _ ⟨R3.sta.same (zA5 hp),hfr.trans (zA5 hp).fr,fun z => (dm z).trans (zA5 hp),.lst zAH (R3.sta.new hp) ((zJO r' l u).same (zA5 hp))⟩⟩)
   | fzl q r' => exact .inl (.inr ⟨a,_,rfl,q.sq,fun p hp => k _ _ ⟨R3.sta.same (zA5 hp),hfr.trans (zA5 hp).fr,fun z => (dm z).trans (zA5 hp),.lst zAH (R3.sta.new hp) ((zJO r' l u).same (zA5 hp))⟩⟩)
 |tup ds=>
  cases h4
  cases hx with
  |tup q r'=>
   by_cases hw:HT.sIx ds.length 0 l=0/\HT.sIx ds.length ds.length u=ds.length
   ·refine .inr ⟨_,_,rfl,q,by rw [r'.length];exact hw,k _ _ ⟨R3.sta,hfr,dm,?_⟩⟩
    have e:cutD ds l u=ds:=by
     unfold cutD
     rw[hw.1,hw.2]
     simp
    rw[e]
    exact .tup q r'
   ·exact .inl (.inl ⟨_,_,rfl,q,by rw[r'.length];exact hw,fun p hp=>k _ _ ⟨R3.sta.same (zA5 hp),hfr.trans (zA5 hp).fr,fun z=>(dm z).trans (zA5 hp),.tup (SqT.of zAH) ((zJO r' l u).same (zA5 hp))⟩⟩)
 |_=>cases h4
end
inductive Ou where
 |nx (δ:Ev)|rt (d:Dat) (δ:Ev)|bk (δ:Ev)|ct (δ:Ev)
abbrev VS:=Ev->Option Ou
def Post(K:Ad)(ml:List Nat)(B:Bs)(D:Ends):Ou->Prop
 | .nx δ'=> ∀σ' H' O',Sta K ml B O' H' σ' δ'->D.nx σ' H'
 | .rt d δ'=> ∀v σ' H' O',Sta K ml B O' H' σ' δ'->Rep K (rz B) H' (rz B) v d->D.rt v H'
 | .bk δ'=> ∀σ' H' O',Sta K ml B O' H' σ' δ'->D.bk σ' H'
 | .ct δ'=> ∀σ' H' O',Sta K ml B O' H' σ' δ'->D.ct σ' H'
def TSt(K:Ad)(ml:List Nat)(g:VS):TS:=fun D σ H=> ∃B O δ o,Sta K ml B O H σ δ/\g δ=some o/\Post K ml B D o
section
variable{X:Cx}{K:Ad}{ml:List Nat}{e a b c:Expr}{es:List Expr}{pa ta ia pb tb ib pc tc ic pu bt bi ps bs:Bool}{fa fb fc f:VF}{B B':Bs}{O:Nat->Option Addr}{H H1 H':Hp}{σ:St}{δ δ':Ev}{v:V}{d:Dat}{p:Addr}{pos:Pos}{st:Stmt}{rest:List Stmt}{g g':VS}
noncomputable def sNil:VS:=fun δ=>some (.nx δ)
noncomputable def sSeq(g g':VS):VS:=fun δ=>(g δ).bind fun o=>match o with
 | .nx δ'=>g' δ'
 |o=>some o
theorem zAE:PSs X [] (TSt K ml sNil):=zQ1.imp fun D σ H q0=>by
 obtain⟨B,O,δ,o,S,q,k⟩:=q0
 cases q
 exact k σ H O S
theorem zA1(h1:PS X st (TSt K ml g))(h2:PSs X rest (TSt K ml g')):PSs X (st::rest) (TSt K ml (sSeq g g')):=(zMY h1 h2).imp fun D σ H q0=>by
 obtain⟨B,O,δ,o,S,q,k⟩:=q0
 unfold sSeq at q
 cases h1:g δ with
 |none=>rw[h1] at q;cases q
 |some z=>
  rw[h1] at q
  refine⟨B,O,δ,z,S,h1,?_⟩
  cases z with
  |nx δ1=>exact fun σ' H' O' S'=>⟨B,O',δ1,o,S',q,k⟩
  |rt d δ1=>cases q;exact k
  |bk δ1=>cases q;exact k
  |ct δ1=>cases q;exact k
theorem zA3(h1:PS X st (TSt K ml g)):PSs X [st] (TSt K ml g):=(zMY h1 zQ1).imp fun D σ H ⟨B,O,δ,o,S,q,k⟩=>⟨B,O,δ,o,S,q,by cases o<;>exact k⟩
noncomputable def sRet(f:VF):VS:=fun δ=>(f δ).map fun p=> .rt p.1 p.2
theorem zAB(h:PE X e (TV K ml pu bt bi f))(ht:bt=true:=by rfl):PS X (.Return (some e) pos) (TSt K ml (sRet f)):=(zUE h).imp fun D σ H q0=>by
 obtain⟨B,O,δ,o,S,q,k⟩:=q0
 unfold sRet at q
 cases h1:f δ with
 |none=>rw[h1] at q;cases q
 |some p=>
  rw[h1] at q
  cases q
  subst ht
  exact⟨B,O,δ,p.1,p.2,S,h1,fun v H' R=>k v σ H' O R.sta (R.rep.mono R.sta.rza R.sta.rzn)⟩
theorem zV0{i:Nat}(h:PE X e (tVar i))(hm:i∉ml:=by decide):PS X (.Return (some e) pos) (TSt K ml (sRet (fO i))):=(zUE h).imp fun D σ H q0=>by
 obtain⟨B,O,δ,o,S,q,k⟩:=q0
 unfold sRet at q
 cases h1:fO i δ with
 |none=>rw[h1] at q;cases q
 |some p=>
  obtain⟨x,δ1⟩:=p
  rw[h1] at q
  cases q
  obtain⟨rfl,v,e1,r⟩:=S.lone hm h1
  exact⟨v,e1,k v σ H O S (r.mono S.rza S.rza)⟩
noncomputable def zPL(f:VF):VS:=fun δ=>(f δ).map fun p=> .nx p.2
theorem zOP(h:PE X e (TV K ml pu bt bi f))(hs:El e none pos.line X.env=pure false:=by rfl):PS X (.Expr e pos) (TSt K ml (zPL f)):=(zQ2 h hs).imp fun D σ H q0=>by
 obtain⟨B,O,δ,o,S,q,k⟩:=q0
 unfold zPL at q
 cases h1:f δ with
 |none=>rw[h1] at q;cases q
 |some p=>
  rw[h1] at q
  cases q
  exact⟨B,O,δ,p.1,p.2,S,h1,fun v H' R=>k σ H' O R.sta⟩
noncomputable def sIf(t:VB)(g g':VS):VS:=fun δ=>(t δ).bind fun p=>if p.1=true then g p.2 else g' p.2
theorem zAZ{x y:List Stmt}{t:VB}(ht:PT X c (TB K ml pc t))(ha:PSs X x (TSt K ml g))(hb:PSs X y (TSt K ml g')):PS X (.If c x y pos) (TSt K ml (sIf t g g')):=(yD6 ht ha hb).imp fun D σ H q0=>by
 obtain⟨B,O,δ,o,S,q,k⟩:=q0
 unfold sIf at q
 cases h1:t δ with
 |none=>rw[h1] at q;cases q
 |some p=>
  obtain⟨kk,δ1⟩:=p
  rw[h1] at q
  refine⟨B,O,δ,kk,δ1,S,h1,fun H1 R1=> ?_⟩
  cases kk with
  |true=>exact iteT ⟨B,O,δ1,o,R1.sta,q,k⟩
  |false=>exact iteF ⟨B,O,δ1,o,R1.sta,q,k⟩
abbrev VX:=Ev->Option (Sl×Ev)
inductive St1(K:Ad)(B:Bs)(O:Nat->Option Addr)(H:Hp):Bs->V->Sl->Prop
 |va {v:V} {d:Dat}:St1 K B O H {B with kp:=[(v,d)]++B.kp} v (.va d)
 |ol {p:Addr} {xs:List V} {ds:List Dat}:H p=some (.lst xs)->xs.length=ds.length-> ¬Nn B O p->B.H0 p=none->St1 K B O H {B.add p with kp:=xs.zip ds++B.kp} (.ref p) (.ow (.lst ds))
 |od {p:Addr} {kvs:List (Key×V)} {ds:List Dat}:H p=some (.dK kvs)->kvs.length=ds.length-> ¬Nn B O p->B.H0 p=none->St1 K B O H {B.add p with kp:=(kvs.map C2).zip ds++B.kp} (.ref p) (.ow (.dct (kvs.map Bh) ds))
theorem St1.fr{s:Sl}(h:St1 K B O H B' v s)(f:Fr (OA O) H H'):St1 K B O H' B' v s:=by
 cases h with
 |va=>exact .va
 |ol q l n z=>exact .ol (f _ _ q fun w=>absurd (.inr w) n) l n z
 |od q l n z=>exact .od (f _ _ q fun w=>absurd (.inr w) n) l n z
def TX(K:Ad)(ml:List Nat)(f:VX):TE:=fun σ H Q=> ∃B O δ s δ',Sta K ml B O H σ δ/\f δ=some (s,δ')/\ ∀v H' B',Sta K ml B' O H' σ δ'->St1 K B O H' B' v s->Fr (OA O) H H'->Q v H'
noncomputable def xV(f:VF):VX:=fun δ=>(f δ).map fun p=>(.va p.1,p.2)
noncomputable def xO(f:VF):VX:=fun δ=>(f δ).map fun p=>(.ow p.1,p.2)
theorem zCG(h:PE X e (TV K ml pu true true f)):PE X e (TX K ml (xV f)):=h.imp fun σ H Q q0=>by
 obtain⟨B,O,δ,o,δ',S,q,k⟩:=q0
 unfold xV at q
 cases h1:f δ with
 | none => rw [h1] at q;cases q
 |some p=>
  rw[h1] at q
  cases q
  exact⟨B,O,δ,p.1,p.2,S,h1,fun v H' R=>k v H' _ (R.sta.keepV (ps:=[(v,p.1)]) fun z hz=>by
   rw[Ah.mp hz]
   exact R.rep) .va R.frm⟩
theorem zFX{N:Addr->Prop}: ∀{xs:List V} {ds:List Dat},RepA K N H xs ds-> ∀z∈xs.zip ds,Rep K N H N z.1 z.2
 |_,_,.nil,z,hz=>nomatch hz
 |_,_,.cons h t,z,hz=>by
  rcases A8.mp hz with e|e
  ·rw[e];exact h
  ·exact zFX t z e
theorem zG1{N:Addr->Prop}: ∀{xs:List V} {ds:List Dat},xs.length=ds.length->(∀z∈xs.zip ds,Rep K N H N z.1 z.2)->RepA K N H xs ds
 |[],[],_,_=> .nil
 |x::xs,d::ds,hl,h=> .cons (h (x,d) (Ak ..)) (zG1 (by simpa using hl) fun z hz=>h z (Ag _ hz))
theorem zF9(h:PE X e (TN K ml pu f)):PE X e (TX K ml (xO f)):=h.imp fun σ H Q q0=>by
 obtain⟨B,O,δ,o,δ',S,q,k⟩:=q0
 unfold xO at q
 cases h1:f δ with
 |none=>rw[h1] at q;cases q
 |some p=>
  obtain⟨d,δ1⟩:=p
  rw[h1] at q
  cases q
  refine⟨B,O,δ,d,δ1,S,h1,fun p H' R=> ?_⟩
  have w:=R.own
  cases w with
  |lst q r=>exact k _ H' _ (R.sta.keepV (zFX r)) (.ol q r.length R.nz R.h0) R.frm
  |dct q r=>exact k _ H' _ (R.sta.keepV (zFX r)) (.od q (by simpa using r.length) R.nz R.h0) R.frm
theorem St1.bind{O':Nat->Option Addr}{s:Sl}{i:Nat}(h:St1 K B O H' B' v s)(S:Sta K ml B' O' H' σ δ)(hm:i∉ml)(hl:i<δ.length): ∃O'',Sta K ml B O'' H' (σ.set i (some v)) (δ.set i s):=by
 cases h with
 |va=>
  refine⟨_,Sta.unkeep (ps:=_) (S.setVa hm (S.kep _ (Bb _ (Ah.mpr rfl))))⟩
 |ol q l n z=>
  refine⟨_,Sta.setOw (Sta.unkeep (B:=B.add _) S) hm hl (fun w=>n (.inl w)) z (.lst q (zG1 l fun z hz=>S.kep z (Bb _ hz)))⟩
 |od q l n z=>
  refine⟨_,Sta.setOw (Sta.unkeep (B:=B.add _) S) hm hl (fun w=>n (.inl w)) z (.dct q (zG1 (by simpa using l) fun z hz=>S.kep z (Bb _ hz)))⟩
noncomputable def sSet(i:Nat)(x:VX):VS:=fun δ=>(x δ).bind fun p=>if i<p.2.length then some (.nx (p.2.set i p.1)) else none
theorem zB7{i:Nat}{y:Str}{x:VX}{ap:Pos}(hN:X.N.Nodup)(he:PE X e (TX K ml x))(hi:X.N[i]? =some y:=by rfl)(hx:Loc X.env.scope y:=by first|exact .inl rfl|exact .inr rfl)(hm:i∉ml:=by decide)(hs:El e (some (.Name y ap)) pos.line X.env=pure false:=by rfl)
  (hf : X.fn y = true ∨ X.env.scope.names.lookup y = some .local := by first | exact .inl rfl | exact .inr rfl | assumption) : PS X (.Assign [.Name y ap] e pos) (TSt K ml (sSet i x)) := (zYO hN hi hx he hs hf).imp fun D σ H ⟨B,O,δ,o,S,q,k⟩ => by
 unfold sSet at q
 cases h1:x δ with
 | none => rw [h1] at q;cases q
 |some p=>
  obtain⟨s,δ1⟩:=p
  rw[h1] at q
  have q:(if i<δ1.length then some (Ou.nx (δ1.set i s)) else none)=some o:=q
  split at q
  ·rename_i hl
   cases q
   refine⟨B,O,δ,s,δ1,S,h1,fun v H' B' S' h' f'=> ?_⟩
   obtain⟨O'',S''⟩:=h'.bind S' hm hl
   exact k _ _ _ S''
  ·cases q
noncomputable def zLJ(i j:Nat)(x y:VX):VS:=fun δ=>(x δ).bind fun p=>(y p.2).bind fun q=>if i<q.2.length/\j<q.2.length then some (.nx ((q.2.set j q.1).set i p.1)) else none
theorem zV2{i j:Nat}{y z:Str}{fx fy:VX}{px py pt:Pos}{kt k2 pt2}(hc:X.calm=true)(hN:X.N.Nodup)(hi:X.N[i]? =some y)(hj:X.N[j]? =some z)(hij:i≠j)
  (hx:X.env.scope.names.lookup y=some .local) (hy:X.env.scope.names.lookup z=some .local) (ha:PE X a (TX K ml fx)) (hb:PE X b (TX K ml fy))
  (hw : D5 [.Tuple [.Name y px,.Name z py] kt pt] (.Tuple [a,b] k2 pt2) X.env = pure (some [y,z])) (hmi : i ∉ ml := by decide) (hmj : j ∉ ml := by decide)
  (hs : D4 [.Tuple [.Name y px,.Name z py] kt pt] (.Tuple [a,b] k2 pt2) pos.line X.env = pure false := by rfl)
  (he : A2 (a :: [b]) X.env = (false,eval a X.env) :: A2 [b] X.env := by rfl) (he2 : A2 (b :: []) X.env = (false,eval b X.env) :: A2 [] X.env := by rfl) :
  PS X (.Assign [.Tuple [.Name y px,.Name z py] kt pt] (.Tuple [a,b] k2 pt2) pos) (TSt K ml (zLJ i j fx fy)):=(zYP hc hN hi hj hij hx hy (zAO ha (zAO hb zBT he2) he) hw hs).imp fun D σ H ⟨B,O,δ,o,S,q,k⟩=>by
 unfold zLJ at q
 cases h1:fx δ with
 | none => rw [h1] at q;cases q
 |some p=>
  obtain⟨s,δ1⟩:=p
  rw[h1] at q
  cases h2:fy δ1 with
  | none => simp [h2] at q
  |some p2=>
   obtain⟨s2,δ2⟩:=p2
   simp only[Aa,h2] at q
   split at q
   ·rename_i hl
    cases q
    refine⟨B,O,δ,s,δ1,S,h1,fun v H1 B1 S1 w1 f1=>⟨B1,O,δ1,s2,δ2,S1,h2,fun v2 H2 B2 S2 w2 f2=>⟨v,v2,rfl,?_⟩⟩⟩
    obtain⟨O3,S3⟩:=w2.bind S2 hmj hl.2
    obtain⟨O4,S4⟩:=(w1.fr f2).bind S3 hmi (by rw[B9];exact hl.1)
    rw[Cm _ _ (C9 hij)] at S4
    exact k _ _ _ S4
   ·cases q
abbrev VG:=Dat->Ev->Option Ev
def TGV(K:Ad)(ml:List Nat)(h:VG):TG:=fun v σ H Q=> ∃B O δ d δ',Sta K ml B O H σ δ/\Rep K (Nn B O) H (Nn B O) v d/\h d δ=some δ'/\ ∀σ' O',Sta K ml B O' H σ' δ'->(∀i∈ml,σ'[i]? =σ[i]?)->Q σ' H
theorem PG.imp{t u:TG}(h:PG X e t)(k: ∀v σ H Q,u v σ H Q->t v σ H Q):PG X e u:=fun a6 s σ H v w Q I r z=>h a6 s σ H v w Q I r (k v σ H Q z)
theorem PGs.imp{t u:TGs}(h:PGs X es t)(k: ∀v σ H Q,u v σ H Q->t v σ H Q):PGs X es u:=fun a6 s σ H v w Q I r z=>h a6 s σ H v w Q I r (k v σ H Q z)
theorem PG.or{t u:TG}(h:PG X e t)(h':PG X e u):PG X e (fun v σ H Q=>t v σ H Q∨u v σ H Q):=fun a6 s σ H v w Q I r z=>by
 rcases z with z|z
 ·exact h a6 s σ H v w Q I r z
 ·exact h' a6 s σ H v w Q I r z
noncomputable def gN(i:Nat):VG:=fun d δ=>some (δ.set i (.va d))
theorem zAG{i:Nat}{x:Str}(hN:X.N.Nodup)(hi:X.N[i]? =some x:=by rfl)(hx:Loc X.env.scope x:=by first|exact .inl rfl|exact .inr rfl)(hm:i∉ml:=by decide)(hf:X.fn x=true∨X.env.scope.names.lookup x=some .local:=by first|exact .inl rfl|exact .inr rfl|assumption):PG X (.Name x pos) (TGV K ml (gN i)):=
 (zG2 hN hi hx hf).imp fun v σ H Q q0 => by
  obtain⟨B,O,δ,d,δ',S,r,q,k⟩:=q0
  cases q
  exact k _ _ (S.setVa hm r) fun j hj=>B6 fun(z:i=j)=>hm (z▸hj)
abbrev VGs:=List Dat->Ev->Option Ev
def TGVs(K:Ad)(ml:List Nat)(h:VGs):TGs:=fun vs σ H Q=> ∃B O δ ds δ',Sta K ml B O H σ δ/\RepA K (Nn B O) H vs ds/\h ds δ=some δ'/\ ∀σ' O',Sta K ml B O' H σ' δ'->(∀i∈ml,σ'[i]? =σ[i]?)->Q σ' H
noncomputable def zDO:VGs:=fun ds δ=>match ds with
 |[]=>some δ
 |_=>none
noncomputable def zAT(g:VG)(gs:VGs):VGs:=fun ds δ=>match ds with
 |d::r=>(g d δ).bind fun δ1=>gs r δ1
 |[]=>none
theorem zC1:PGs X [] (TGVs K ml zDO):=zLL.imp fun vs σ H Q q0=>by
 obtain⟨B,O,δ,ds,δ',S,r,q,k⟩:=q0
 cases r with
 |nil=>cases q;exact⟨rfl,k _ _ S fun _ _=>rfl⟩
 |cons _ _=>cases q
theorem zAJ{g:VG}{gs:VGs}(h1:PG X e (TGV K ml g))(h2:PGs X es (TGVs K ml gs))(hs:(assignEach (e::es) X.env).map (·.2)=assign e X.env::(assignEach es X.env).map (·.2):=by rfl):PGs X (e::es) (TGVs K ml (zAT g gs)):=
 (zEI h1 h2 hs).imp fun vs σ H Q q0 => by
  obtain⟨B,O,δ,ds,δ',S,r,q,k⟩:=q0
  cases r with
  | nil => cases q
  | @cons v vs d ds h t=>
   have q:((g d δ).bind fun δ1=>gs ds δ1)=some δ':=q
   cases h1:g d δ with
   |none=>rw[h1] at q;cases q
   |some δ1=>
    rw[h1] at q
    have S0:=S.keepV (zFX t)
    exact⟨v,vs,rfl,_,O,δ,d,δ1,S0,h,h1,fun σ1 O1 S1 m1=>⟨B,O1,δ1,ds,δ',S1.unkeep,zG1 t.length fun z hz=>S1.kep z (Bb _ hz),q,fun σ2 O2 S2 m2=>k σ2 O2 S2 fun i hi=>(m2 i hi).trans (m1 i hi)⟩⟩
noncomputable def gTp(n:Nat)(gs:VGs):VG:=fun d δ=>(seqD d).bind fun ds=>if ds.length=n then gs ds δ else none
theorem zD0{gs:VGs}{k n:Nat}(hK:X.K=K)(hc:X.calm=true)(h:PGs X es (TGVs K ml gs))(hn:(assignEach es X.env).length=n:=by rfl)(hst:(assignEach es X.env).findIdx? (·.1)=none:=by rfl):PG X (.Tuple es k pos) (TGV K ml (gTp n gs)):=
 ((zWM (K := K) hK hc h hn hst).or (yEH (K := K) hK hc h hn hst)).imp fun v σ H Q q0 => by
  obtain⟨B,O,δ,d,δ',S,r,q,k⟩:=q0
  unfold gTp at q
  cases h1:seqD d with
  | none => rw [h1] at q;cases q
  |some ds=>
   rw[h1] at q
   have q:(if ds.length=n then gs ds δ else none)=some δ':=q
   split at q
   ·rename_i hl
    obtain⟨a,xs,rfl,sq,ra⟩:=r.seq h1
    have fin:TGVs K ml gs xs σ H Q:=⟨B,O,δ,ds,δ',S,ra,q,k⟩
    rcases sq with sq|sq
    ·exact .inr ⟨a,xs,rfl,sq,ra.length.trans hl,fin⟩
    ·exact .inl ⟨a,xs,rfl,sq,ra.length.trans hl,fin⟩
   ·cases q
noncomputable def sAsg(f:VF)(g:VG):VS:=fun δ=>(f δ).bind fun p=>(g p.1 p.2).map Ou.nx
theorem zGM{tg:Expr}{gg:VG}(he:PE X e (TV K ml pu true true f))(hg:PG X tg (TGV K ml gg))(hs:D4 [tg] e pos.line X.env=pure false:=by rfl)(hw:D5 [tg] e X.env=pure none:=by rfl)
  (h1 : (assignEach [tg] X.env).map (·.2) = [assign tg X.env] := by rfl) : PS X (.Assign [tg] e pos) (TSt K ml (sAsg f gg)) := (zKF he hg hs hw h1).imp fun D σ H ⟨B,O,δ,o,S,q,k⟩ => by
 unfold sAsg at q
 cases h1:f δ with
 | none => rw [h1] at q;cases q
 |some p=>
  obtain⟨d,δ1⟩:=p
  rw[h1] at q
  have q:(gg d δ1).map Ou.nx=some o:=q
  cases h2:gg d δ1 with
  |none=>rw[h2] at q;cases q
  |some δ2=>
   rw[h2] at q
   cases q
   exact⟨B,O,δ,d,δ1,S,h1,fun v H' R=>⟨B,O,δ1,d,δ2,R.sta,R.rep,h2,fun σ' O' S' _=>k σ' H' O' S'⟩⟩
def MuV(K:Ad)(r:V->List V->Hp->VK->Prop)(m:List Dat->List Dat->Option (List Dat)):Prop:= ∀(H:Hp) (N:Addr->Prop) (l:Addr) (xs vs:List V) (ds es ds':List Dat) (Q:VK),
 H l=some (.lst xs)->N l->RepA K N H xs ds->RepA K N H vs es->m ds es=some ds'->(∀v xs',RepA K N H xs' ds'->Q v (upd H l (.lst xs')))->r (.ref l) vs H Q
noncomputable def ownL(δ:Ev)(i:Nat):Option (List Dat):=match δ[i]? with
 |some (.ow (.lst ds))=>some ds
 |_=>none
noncomputable def sMut(i:Nat)(m:List Dat->List Dat->Option (List Dat))(fs:VFs):VS:=fun δ=>(ownL δ i).bind fun _=>(fs δ).bind fun p=>(ownL p.2 i).bind fun ds=>(m ds p.1).map fun ds'=> .nx (p.2.set i (.ow (.lst ds')))
theorem zFI{i:Nat}{ds:List Dat}(h:ownL δ i=some ds):δ[i]? =some (.ow (.lst ds)):=by
 unfold ownL at h
 split at h
 ·cases h;assumption
 ·cases h
theorem zHJ{N:Addr->Prop}{l:Addr}{o:HO}{xs:List V}{ds ys:List Dat}{zs:List V}(ho:H l=some (.lst zs))(hN:N l)(h:RepA K N H xs ds):RepA K N (upd H l o) xs ds:=
 h.fr (P:=fun b=>b=l) (fun b u q n=>by
  by_cases hb:b=l
  ·subst hb
   rw[ho] at q
   cases q
   exact absurd (n rfl) fun z=>z
  ·rw[zAV hb]
   exact q) fun a z=>z▸hN
theorem zCZ{i:Nat}{x:Str}{name:Str}{aj a8 da:Pos}{id:String}{r:V->List V->Hp->VK->Prop}{m:List Dat->List Dat->Option (List Dat)}{fs:VFs}(hK:X.K=K)(slot:Slot "list" name id) (hty:typeOf (.builtin id)=pure (.type "method_descriptor")) (hm:MtR X id r) (hmu:MuV K r m)
  (ho:PE X (.Name x da) (tVar i)) (ha:PA X (e::es) (TAV K ml pu true fs))
  (b9 : Es (.Name x da) name X.env (eval (.Name x da) X.env) = eval (.Name x da) X.env := by rfl)
  (cq : ((Dc a8 (A2 (e :: es) X.env)).all (fun x => !x.1) && (J7 a8 (Fu [] X.env)).all (fun x => x.1.isSome)
   && decide ((e :: es).length + ([] : List Fv).length + (if ([] : List Fv).isEmpty then 0 else 1) < 30)) = true := by rfl)
  (b8 : (aj.endLine == a8.line) = true := by rfl) (hs : A2 (e :: es) X.env = (false,eval e X.env) :: A2 es X.env := by rfl) (au : (Dc a8 (A2 es X.env)).any (·.1) = false := by rfl)
  (hsw : El (.Call (.Attribute (.Name x da) name aj) (e :: es) [] a8) none pos.line X.env = pure false := by rfl) :
  PS X (.Expr (.Call (.Attribute (.Name x da) name aj) (e::es) [] a8) pos) (TSt K ml (sMut i m fs)):=
 (zQ2 (kBm (K := K) hK Gy slot hty hm ho ha b9 cq b8 hs au) hsw).imp fun D σ H q0 => by
  obtain⟨B,O,δ,o,S,q,k⟩:=q0
  unfold sMut at q
  cases h0:ownL δ i with
  | none => rw [h0] at q;cases q
  |some ds0=>
   rw[h0] at q
   have q : ((fs δ).bind fun p => (ownL p.2 i).bind fun ds => (m ds p.1).map fun ds' => Ou.nx (p.2.set i (.ow (.lst ds')))) = some o := q
   cases h1:fs δ with
   | none => rw [h1] at q;cases q
   |some p=>
    obtain⟨es',δ1⟩:=p
    rw[h1] at q
    have q:((ownL δ1 i).bind fun ds=>(m ds es').map fun ds'=>Ou.nx (δ1.set i (.ow (.lst ds'))))=some o:=q
    cases h2:ownL δ1 i with
    | none => rw [h2] at q;cases q
    |some ds=>
     rw[h2] at q
     have q:((m ds es').map fun ds'=>Ou.nx (δ1.set i (.ow (.lst ds'))))=some o:=q
     cases h3:m ds es' with
     | none => rw [h3] at q;cases q
     |some ds'=>
      rw[h3] at q
      cases q
      obtain⟨l,e1,e2,w⟩:=S.ow i _ (zFI h0)
      cases w with
      |lst hl0 _=>
       refine⟨.ref l,e2,.inl ⟨rfl,_,SqL.of hl0⟩,B,O,δ,es',δ1,S,h1,fun vs H1 R=> ?_⟩
       obtain⟨l',e3,_,w1⟩:=R.sta.ow i _ (zFI h2)
       rw[e1] at e3
       cases e3
       cases w1 with
       |lst hl1 r1=>
        refine hmu H1 (Nn B O) l _ vs ds es' ds' _ hl1 (.inr ⟨i,e1⟩) r1 R.rep h3 fun v xs' r2=> ?_
        exact k σ _ O (R.sta.wrote e1 (fun z=>z) (.lst zAH (zHJ (ys:=[]) hl1 (.inr ⟨i,e1⟩) r2)))
noncomputable def mApp:List Dat->List Dat->Option (List Dat)
 |ds,[d]=>if ds.length<16777216 then some (ds++[d]) else none
 |_,_=>none
theorem zDB:MuV K zPZ mApp:=by
 intro H N l xs vs ds es ds' Q hl hN rx re h k
 cases re with
 | nil => cases h
 | @cons v vs d es hd t=>
  cases t with
  | cons _ _ => cases h
  |nil=>
   simp only[mApp] at h
   split at h
   ·rename_i hz
    cases h
    exact⟨l,xs,v,rfl,rfl,hl,by rw[rx.length,Bt];exact hz,k _ _ (rx.snoc hd)⟩
   ·cases h
end
section
variable{X:Cx}{K:Ad}{ml:List Nat}{e a b c:Expr}{es:List Expr}{pa ta ia pb tb ib pc tc ic pu bt bi ps bs:Bool}{fa fb fc f:VF}{B B':Bs}{O:Nat->Option Addr}{H H1 H':Hp}{σ:St}{δ δ':Ev}{v:V}{d:Dat}{p:Addr}{pos:Pos}{st:Stmt}{rest:List Stmt}{g g':VS}
noncomputable def zDZ(nxt:VS):Ou->Option Ou
 | .nx δ=>nxt δ
 | .ct δ=>nxt δ
 | .bk δ=>some (.nx δ)
 | .rt d δ=>some (.rt d δ)
noncomputable def zBM(t:VB)(g:VS):Nat->VS
 |0=>fun _=>none
 |n+1=>fun δ=>(t δ).bind fun p=>if p.1=true then(g p.2).bind (zDZ (zBM t g n)) else some (.nx p.2)
theorem zEW{t:VB}: ∀{n:Nat} {δ:Ev} {o:Ou},zBM t g n δ=some o->zBM t g (n+1) δ=some o
 | 0,_,_,h => by cases h
 | n + 1,δ,o,h => by
  dsimp only[zBM] at h
  show((t δ).bind fun p=>if p.1=true then(g p.2).bind (zDZ (zBM t g (n+1))) else some (.nx p.2))=some o
  cases h1:t δ with
  | none => rw [h1] at h;cases h
  |some p=>
   rw[h1] at h
   obtain⟨kk,δ1⟩:=p
   cases kk with
   | false => exact h
   |true=>
    have h:(g δ1).bind (zDZ (zBM t g n))=some o:=h
    show(g δ1).bind (zDZ (zBM t g (n+1)))=some o
    cases h2:g δ1 with
    |none=>rw[h2] at h;cases h
    |some z=>
     rw[h2] at h
     cases z with
     |nx δ2=>exact zEW (n:=n) h
     |ct δ2=>exact zEW (n:=n) h
     |bk δ2=>exact h
     |rt d δ2=>exact h
theorem zFY{t:VB}{n:Nat}{o:Ou}(h:zBM t g n δ=some o): ∀k,zBM t g (n+k) δ=some o
 |0=>h
 |k+1=>zEW (zFY h k)
theorem zNW{t:VB}{n m:Nat}{o o':Ou}(h:zBM t g n δ=some o)(h':zBM t g m δ=some o'):o=o':=by
 have e1:=zFY h m
 have e2:=zFY h' n
 rw[Nat.add_comm] at e2
 rw[e1] at e2
 exact Ba e2
open Classical in
noncomputable def zHI(t:VB)(g:VS):VS:=fun δ=>if h: ∃o n,zBM t g n δ=some o then some (Classical.choose h) else none
theorem zKA{t:VB}{n:Nat}{o:Ou}(h:zBM t g n δ=some o):zHI t g δ=some o:=by
 have hx: ∃o n,zBM t g n δ=some o:=⟨o,n,h⟩
 unfold zHI
 rw[dif_pos hx]
 obtain⟨m,hm⟩:=Ia hx
 rw[zNW hm h]
theorem zO2{t:VB}{o:Ou}(h:zHI t g δ=some o): ∃n,zBM t g n δ=some o:=by
 unfold zHI at h
 split at h
 ·rename_i hx
  cases h
  exact Ia hx
 ·cases h
theorem zMD{body:List Stmt}{t:VB}(hp:Kj (model X.prog X.w) X.A X.env X.xe)(hc:PT X c (TB K ml pc t))(hb:PSs X body (TSt K ml g)):PS X (.While c body [] pos) (TSt K ml (zHI t g)):=(zSV hp hc hb).imp fun D σ H q0=>by
 obtain⟨B,O,δ,o,S,q,k⟩:=q0
 obtain⟨n,hn⟩:=zO2 q
 refine⟨fun m σ H=> ∃O δ,Sta K ml B O H σ δ/\zBM t g m δ=some o,⟨n,O,δ,S,hn⟩,?_⟩
 rintro m σ H ⟨O,δ,S,hm⟩
 cases m with
 | zero => cases hm
 |succ m=>
  dsimp only[zBM] at hm
  cases h1:t δ with
  | none => rw [h1] at hm;cases hm
  |some p=>
   obtain⟨kk,δ1⟩:=p
   rw[h1] at hm
   refine⟨B,O,δ,kk,δ1,S,h1,fun H1 R1=> ?_⟩
   cases kk with
   |false=>
    have hm:some (Ou.nx δ1)=some o:=hm
    cases hm
    exact iteF (k σ H1 O R1.sta)
   |true=>
    have hm:(g δ1).bind (zDZ (zBM t g m))=some o:=hm
    cases h2:g δ1 with
    |none=>rw[h2] at hm;cases hm
    |some z=>
     rw[h2] at hm
     refine iteT ⟨fun σ' H'=> ∃O δ,Sta K ml B O H' σ' δ/\zBM t g m δ=some o,fun σ' H' w=>⟨m,Nat.lt_succ_self _,w⟩,B,O,δ1,z,R1.sta,h2,?_⟩
     cases z with
     |nx δ2=>exact fun σ' H' O' S'=>⟨O',δ2,S',hm⟩
     |ct δ2=>exact fun σ' H' O' S'=>⟨O',δ2,S',hm⟩
     |bk δ2=>cases hm;exact fun σ' H' O' S'=>k σ' H' O' S'
     |rt d δ2=>cases hm;exact fun v σ' H' O' S' r=>k v σ' H' O' S' r
def Walk(K:Ad)(J:It)(kps:List (V×Dat))(ds:List Dat):Prop:= ∀(N:Addr->Prop) (H:Hp),(∀p∈kps,Rep K N H N p.1 p.2)→
 (∀(i:Nat) (d:Dat),ds[i]? =some d->J.go i H/\ ∀x H',J.yld i H x H'->Same H H'/\Rep K N H' N x d)/\J.stop ds.length H
abbrev VI:=Ev->Option (List Dat×Ev)
def TIV(K:Ad)(ml:List Nat)(pu:Bool)(f:VI):TI:=fun σ H R=> ∃B O δ ds δ',Sta K ml B O H σ δ/\f δ=some (ds,δ')∧
 ∀J kps H',Sta K ml {B with kp:=kps++B.kp} O H' σ δ'->Fr (OA O) H H'->(pu=true->Same H H')->Walk K J kps ds->R J H'
theorem PI.imp{tg:Expr}{t u:TI}(h:PI X tg e t)(k: ∀σ H R,u σ H R->t σ H R):PI X tg e u:=fun a6 s σ H R I w=>h a6 s σ H R I (k σ H R w)
theorem PI.or{tg:Expr}{t u:TI}(h:PI X tg e t)(h':PI X tg e u):PI X tg e (fun σ H R=>t σ H R∨u σ H R):=fun a6 s σ H R I z=>by
 rcases z with z|z
 ·exact h a6 s σ H R I z
 ·exact h' a6 s σ H R I z
noncomputable def iSeq(f:VF):VI:=fun δ=>(f δ).bind fun p=>(seqD p.1).map fun ds=>(ds,p.2)
theorem zS0{a:Addr}{ds:List Dat}:Walk K (Itl K a) [(.ref a,.lst ds)] ds:=by
 intro N H h
 have r:=h _ (Ah.mpr rfl)
 have fin: ∀xs,SqL K H a xs->RepA K N H xs ds->(∀(i:Nat) (d:Dat),ds[i]? =some d->(Itl K a).go i H/\ ∀x H',(Itl K a).yld i H x H'->Same H H'/\Rep K N H' N x d)/\(Itl K a).stop ds.length H:=fun xs sq r=>by
  refine⟨fun i d e=> ?_,xs,sq,by rw[r.length];exact Ae _⟩
  obtain⟨x,e1,r1⟩:=r.get e
  refine⟨⟨xs,x,sq,e1⟩,fun y H' hy=> ?_⟩
  obtain⟨e2,e3⟩:=hy
  subst e2
  have:=e3 xs sq
  rw[e1] at this
  cases this
  exact⟨Same.refl _,r1⟩
 cases r with
 |lst q n r=>exact fin _ (SqL.of q) r
 |fzl q r=>exact fin _ q.sq r
theorem zRY{a:Addr}{ds:List Dat}:Walk K (Itt K a) [(.ref a,.tup ds)] ds:=by
 intro N H h
 have r:=h _ (Ah.mpr rfl)
 cases r with
 |tup sq r=>
  refine⟨fun i d e=> ?_,_,sq,by rw[r.length];exact Ae _⟩
  obtain⟨x,e1,r1⟩:=r.get e
  refine⟨⟨_,x,sq,e1⟩,fun y H' hy=> ?_⟩
  obtain⟨e2,e3⟩:=hy
  subst e2
  have:=e3 _ sq
  rw[e1] at this
  cases this
  exact⟨Same.refl _,r1⟩
theorem zFB{tg:Expr}(hK:X.K=K)(h:PE X e (TV K ml pu true true f)):PI X tg e (TIV K ml pu (iSeq f)):=((zUM (K:=K) hK h).or (yAL (K:=K) hK h)).imp fun σ H R q0=>by
 obtain⟨B,O,δ,ds,δ',S,q,k⟩:=q0
 unfold iSeq at q
 cases h1:f δ with
 | none => rw [h1] at q;cases q
 |some p=>
  obtain⟨x,δ1⟩:=p
  rw[h1] at q
  cases x with
  |lst ds'=>
   cases q
   refine .inl ⟨B,O,δ,_,δ1,S,h1,fun v H1 R1=> ?_⟩
   obtain⟨a,xs,rfl,sq,r⟩:=R1.rep.seq rfl
   refine⟨a,rfl,?_,k _ [(.ref a,.lst ds)] H1 (R1.sta.keepV fun p hp=>by rw[Ah.mp hp];exact R1.rep) R1.frm R1.pur zS0⟩
   have r:=R1.rep
   cases r with
   |lst q _ _=>exact⟨_,SqL.of q⟩
   |fzl q _=>exact⟨_,q.sq⟩
  |tup ds'=>
   cases q
   refine .inr ⟨B,O,δ,_,δ1,S,h1,fun v H1 R1=> ?_⟩
   obtain⟨a,xs,rfl,sq,r⟩:=R1.rep.seq rfl
   refine⟨a,rfl,?_,k _ [(.ref a,.tup ds)] H1 (R1.sta.keepV fun p hp=>by rw[Ah.mp hp];exact R1.rep) R1.frm R1.pur zRY⟩
   have r:=R1.rep
   cases r with
   |tup q _=>exact⟨_,q⟩
  |_=>cases q
noncomputable def rngD(lo:Int)(n:Nat):List Dat:=(At n).map fun k:Nat=> .int (lo+k)
noncomputable def iR1(f:VF):VI:=fun δ=>(f δ).bind fun p=>match p.1 with
 | .int j=>if -4611686018427387904<=j/\j<4611686018427387904 then some (rngD 0 j.toNat,p.2) else none
 |_=>none
noncomputable def iR2(f g:VF):VI:=fun δ=>(f δ).bind fun p=>(g p.2).bind fun q=>match p.1,q.1 with
 | .int i,.int j=>if(-4611686018427387904<=i/\i<4611686018427387904)/\ -4611686018427387904<=j/\j<4611686018427387904 then some (rngD i (j - i).toNat,q.2) else none
 |_,_=>none
theorem zSO{lo:Int}{n i:Nat}{d:Dat}(h:(rngD lo n)[i]? =some d):i<n/\d= .int (lo+i):=by
 unfold rngD at h
 rw[C7] at h
 cases h1:(At n)[i]? with
 |none=>rw[h1] at h;cases h
 |some k=>
  rw[h1] at h
  cases h
  have:=A5.mp h1
  obtain⟨hl,e⟩:=this
  rw[F7] at hl
  rw[List.getElem_range] at e
  subst e
  exact⟨hl,rfl⟩
theorem zMB{lo:Int}{n:Nat}:Walk K (Itr lo n) [] (rngD lo n):=by
 intro N H _
 refine⟨fun i d e=> ?_,by simp[Itr,rngD]⟩
 obtain⟨hl,rfl⟩:=zSO e
 refine⟨hl,fun x H' hy=> ?_⟩
 obtain⟨rfl,rfl⟩:=hy
 exact⟨Same.refl _,.int _⟩
theorem zFC{tg:Expr}{p':Pos}(hg:Gl X "range") (hm:X.mg "range"=none) (h:PE X a (TV K ml pa ta ia fa)) (hs:A2 [a] X.env=[(false,eval a X.env)]:=by rfl) (hs1:A2 (a::[]) X.env=(false,eval a X.env)::A2 [] X.env:=by rfl):
  PI X tg (.Call (.Name "range" p') [a] [] pos) (TIV K ml pa (iR1 fa)):=(zQA hg hm (zAO h zBT hs1) hs).imp fun σ H R ⟨B,O,δ,ds,δ',S,q,k⟩=>by
 unfold iR1 at q
 cases h1:fa δ with
 | none => rw [h1] at q;cases q
 |some p=>
  obtain⟨x,δ1⟩:=p
  rw[h1] at q
  cases x with
  |int j=>
   have q:(if -4611686018427387904<=j/\j<4611686018427387904 then some (rngD 0 j.toNat,δ1) else none)=some (ds,δ'):=q
   split at q
   ·rename_i hj
    cases q
    have p62:(2:Int) ^ 62=4611686018427387904:=by decide
    refine⟨B,O,δ,_,_,S,h1,fun v H1 R1=>⟨j,?_,by rw[p62];exact hj.1,by rw[p62];exact hj.2,k _ [] H1 (R1.sta.keepV fun _ z=>nomatch z) R1.frm R1.pur zMB⟩⟩
    have r:=R1.rep
    cases r
    rfl
   ·cases q
  |_=>cases q
theorem zOU{tg:Expr}{p':Pos}(hg:Gl X "range") (hm:X.mg "range"=none) (h:PE X a (TV K ml pa ta ia fa)) (h':PE X b (TV K ml pb tb ib fb)) (hs:A2 [a,b] X.env=[(false,eval a X.env),(false,eval b X.env)]:=by rfl) (hs2:A2 [b] X.env=[(false,eval b X.env)]:=by rfl)
  (he : A2 (a :: [b]) X.env = (false,eval a X.env) :: A2 [b] X.env := by rfl) (he2 : A2 (b :: []) X.env = (false,eval b X.env) :: A2 [] X.env := by rfl) :
  PI X tg (.Call (.Name "range" p') [a,b] [] pos) (TIV K ml (pa && pb) (iR2 fa fb)) := (zQ9 hg hm (zAO h (zAO h' zBT he2) he) hs hs2).imp fun σ H R ⟨B,O,δ,ds,δ',S,q,k⟩ => by
 unfold iR2 at q
 cases h1:fa δ with
 | none => rw [h1] at q;cases q
 |some p=>
  obtain⟨x,δ1⟩:=p
  rw[h1] at q
  cases h2:fb δ1 with
  | none => simp [h2] at q
  |some p2=>
   obtain⟨y,δ2⟩:=p2
   simp only[Aa,h2] at q
   cases x with
   |int i=>
    cases y with
    |int j=>
     have q:(if(-4611686018427387904<=i/\i<4611686018427387904)/\ -4611686018427387904<=j/\j<4611686018427387904 then some (rngD i (j - i).toNat,δ2) else none)=some (ds,δ'):=q
     split at q
     ·rename_i hj
      cases q
      have p62:(2:Int) ^ 62=4611686018427387904:=by decide
      refine⟨B,O,δ,_,_,S,h1,fun v H1 R1=>⟨B,O,δ1,_,_,R1.sta,h2,fun v2 H2 R2=>⟨i,j,?_,by rw[p62];exact⟨hj.1.1,hj.1.2,hj.2.1,hj.2.2⟩,k _ [] H2 (R2.sta.keepV fun _ z=>nomatch z) (R1.frm.trans R2.frm) (fun z=>by
       obtain⟨z1,z2⟩:=(A3 _ _).mp z
       exact(R1.pur z1).trans (R2.pur z2)) zMB⟩⟩⟩
      have r1:=R1.rep
      have r2:=R2.rep
      cases r1
      cases r2
      rfl
     ·cases q
    |_=>cases q
   |_=>cases q
noncomputable def forV(gg:VG)(s:VS):List Dat->VS
 |[]=>fun δ=>some (.nx δ)
 |d::r=>fun δ=>(gg d δ).bind fun δ1=>(s δ1).bind (zDZ (forV gg s r))
noncomputable def sFor(fi:VI)(gg:VG)(s:VS):VS:=fun δ=>(fi δ).bind fun p=>forV gg s p.1 p.2
theorem zGL{tg iter:Expr}{body:List Stmt}{fi:VI}{gg:VG}(hp:Kj (model X.prog X.w) X.A X.env X.xe)(hc:X.calm=true)(hi:PI X tg iter (TIV K ml pu fi))(hg:PG X tg (TGV K ml gg))(hb:PSs X body (TSt K ml g))
  (hs : ∀ x,foldedSetIterable iter X.env x = pure x := by intro _;rfl) : PS X (.For tg iter body [] pos) (TSt K ml (sFor fi gg g)) := (zYQ hp hc hi hg hb hs).imp fun D σ H ⟨B,O,δ,o,S,q,k⟩ => by
 unfold sFor at q
 cases h1:fi δ with
 | none => rw [h1] at q;cases q
 |some p=>
  obtain⟨ds,δ1⟩:=p
  rw[h1] at q
  have q:forV gg g ds δ1=some o:=q
  refine⟨B,O,δ,ds,δ1,S,h1,fun J kps H1 S1 _ _ wk=> ?_⟩
  refine⟨fun i m σ H=>m=ds.length - i/\i<=ds.length/\ ∃O δ,Sta K ml {B with kp:=kps++B.kp} O H σ δ/\forV gg g (ds.drop i) δ=some o,⟨ds.length,rfl,Cc _,O,δ1,S1,q⟩,?_⟩
  rintro i m σ H ⟨rfl,hi,O,δ,S,hf⟩
  have w:=wk (Nn B O) H fun p hp=>S.kep p (Bb _ hp)
  by_cases hlt:i<ds.length
  ·obtain ⟨go,yl⟩ := w.1 i ds[i] (by simp [hlt])
   rw[Cy hlt] at hf
   refine .inr ⟨go,fun σ' H'=> ∃O δ,Sta K ml {B with kp:=kps++B.kp} O H' σ' δ/\forV gg g (ds.drop (i+1)) δ=some o,fun σ' H' w'=>⟨ds.length - (i+1),by omega,rfl,hlt,w'⟩,fun x H' hy=> ?_⟩
   obtain⟨sm,rx⟩:=yl x H' hy
   have hf:((gg ds[i] δ).bind fun δ1=>(g δ1).bind (zDZ (forV gg g (ds.drop (i+1)))))=some o:=hf
   cases h2:gg ds[i] δ with
   | none => rw [h2] at hf;cases hf
   |some δ2=>
    rw[h2] at hf
    have hf:(g δ2).bind (zDZ (forV gg g (ds.drop (i+1))))=some o:=hf
    refine⟨_,O,δ,ds[i],δ2,S.same sm,rx,h2,fun σ2 O2 S2 _=> ?_⟩
    cases h3:g δ2 with
    |none=>rw[h3] at hf;cases hf
    |some z=>
     rw[h3] at hf
     refine⟨_,O2,δ2,z,S2,h3,?_⟩
     cases z with
     |nx δ3=>exact fun σ' H' O' S'=>⟨O',δ3,S',hf⟩
     |ct δ3=>exact fun σ' H' O' S'=>⟨O',δ3,S',hf⟩
     |bk δ3=>cases hf;exact fun σ' H' O' S'=>k σ' H' O' S'.unkeep
     |rt d δ3=>cases hf;exact fun v σ' H' O' S' r=>k v σ' H' O' S'.unkeep r
  ·have e : i = ds.length := by omega
   subst e
   rw[Dv] at hf
   cases hf
   exact .inl ⟨w.2,k σ H O S.unkeep⟩
end
section
variable{X:Cx}{K:Ad}{ml:List Nat}{e a b c:Expr}{es:List Expr}{pa ta ia pb tb ib pc tc ic pu bt bi ps bs:Bool}{fa fb fc f:VF}{B B':Bs}{O:Nat->Option Addr}{H H1 H':Hp}{σ:St}{δ δ':Ev}{v:V}{d:Dat}{p:Addr}{pos:Pos}{st:Stmt}{rest:List Stmt}{g g':VS}
theorem Sta.call{P:Addr->Prop}(S:Sta K ml B O H σ δ)(hl:δ'.length=δ.length)(h: ∀i:Nat,(δ'[i]? =δ[i]? /\ ∀a,O i=some a-> ¬P a)∨ ∃a d',O i=some a/\δ'[i]? =some (Sl.ow d')/\Own K (Nn B O) H' a d')
  (f:Fr P H H') (hP: ∀a,P a->OA O a):Sta K ml B O H' σ δ' where
 len:=by rw[hl,S.len]
 va := fun i d e => by
  rcases h i with⟨e1,_⟩|⟨a,d',_,e1,_⟩
  ·rw[e1] at e
   obtain⟨v,e2,r⟩:=S.va i d e
   exact⟨v,e2,r.fr f (fun a z=> .inr (hP a z)) fun a z=> .inr (hP a z)⟩
  ·rw[e1] at e
   cases e
 ow := fun i d e => by
  rcases h i with⟨e1,n⟩|⟨a,d',e2,e1,w⟩
  ·rw[e1] at e
   obtain⟨a,e2,e3,w⟩:=S.ow i d e
   exact⟨a,e2,e3,w.fr f (fun a z=> .inr (hP a z)) (n a e2)⟩
  ·rw[e1] at e
   cases e
   obtain⟨d0,q0⟩:=S.dom i a e2
   obtain⟨a',e3,e4,_⟩:=S.ow i d0 q0
   rw[e2] at e3
   cases e3
   exact⟨a,e2,e4,w⟩
 dom:=fun i a e=>by
  rcases h i with⟨e1,n⟩|⟨a,d',e2,e1,w⟩
  ·obtain⟨d0,q0⟩:=S.dom i a e
   exact⟨d0,e1.trans q0⟩
  ·exact⟨d',e1⟩
 inj:=S.inj
 old:=S.old
 zin:=fun a h'=>by
  obtain⟨o,q⟩:=S.zin a h'
  exact⟨o,f a o q fun z=>by
   obtain⟨i,e⟩:=hP a z
   exact absurd h' (S.old i a e).1⟩
 frm:=fun b o q n=>by
  have h1:=S.frm b o q n
  refine f b o h1 fun z=> ?_
  obtain⟨i,e⟩:=hP b z
  rcases(S.old i b e).2 with w|w
  ·exact n w
  ·rw[q] at w;cases w
 par:=S.par
 pin:=fun a h'=>by
  obtain⟨o,q⟩:=S.pin a h'
  by_cases z:P a
  ·obtain⟨i,e⟩:=hP a z
   rcases h i with⟨_,n⟩|⟨a',d',e2,e1,w⟩
   ·exact absurd z (n a e)
   ·rw[e] at e2
    cases e2
    obtain⟨o,q,_⟩:=w.soft
    exact⟨o,q⟩
  ·exact⟨o,f a o q fun y=>absurd y z⟩
 kep:=fun p hp=>(S.kep p hp).fr f (fun a z=> .inr (hP a z)) fun a z=> .inr (hP a z)
abbrev VFun:=List Dat->Option (Dat×List Dat)
def argP(ml:List Nat)(vs:List V):Addr->Prop:=fun a=> ∃i∈ml,vs[i]? =some (.ref a)
def Zp(Z:Addr->Prop)(ml:List Nat)(vs:List V):Addr->Prop:=fun a=>Z a∨argP ml vs a
structure yBN(K:Ad)(ml:List Nat)(Z:Addr->Prop)(H:Hp)(vs:List V)(ds:List Dat):Prop where
 len:vs.length=ds.length
 mem: ∀i∈ml,i<ds.length
 va: ∀(i:Nat) (d:Dat),i∉ml->ds[i]? =some d-> ∃v,vs[i]? =some v/\Rep K (Zp Z ml vs) H (Zp Z ml vs) v d
 ow: ∀(i:Nat) (d:Dat),i∈ml->ds[i]? =some d-> ∃a,vs[i]? =some (.ref a)/\Own K (Zp Z ml vs) H a d/\¬Z a
 inj: ∀(i j:Nat) (a:Addr),i∈ml->j∈ml->vs[i]? =some (.ref a)->vs[j]? =some (.ref a)->i=j
 zin: ∀a,Z a-> ∃o,H a=some o
def spV(K:Ad)(ml:List Nat)(n:Nat)(F:VFun):Sp:=fun vs H Q _=> ∃(Z:Addr->Prop) (ds:List Dat) (r:Dat) (os:List Dat),ds.length=n/\yBN K ml Z H vs ds/\F ds=some (r,os)∧
 ∀v H',Fr (argP ml vs) H H'->(∀(k i:Nat) (a:Addr) (o:Dat),ml[k]? =some i->vs[i]? =some (.ref a)->os[k]? =some o->Own K (Zp Z ml vs) H' a o)->Rep K (Zp Z ml vs) H' (Zp Z ml vs) v r->Q v H'
noncomputable def envD(ml:List Nat)(n:Nat)(ds:List Dat):Ev:=ds.mapIdx (fun i d=>if i∈ml then Sl.ow d else Sl.va d)++B4 (n - ds.length) Sl.no
noncomputable def outs(ml:List Nat)(δ:Ev):Option (List Dat):=ml.mapM fun(i:Nat)=>match(δ[i]? :Option Sl) with
 |some (Sl.ow d)=>some d
 |_=>none
noncomputable def runV(n:Nat)(ml:List Nat)(g:VS):VFun:=fun ds=>(g (envD ml n ds)).bind fun o=>match o with
 | .rt d δ=>(outs ml δ).map fun os=>(d,os)
 | .nx δ=>(outs ml δ).map fun os=>(.non,os)
 |_=>none
theorem zN3: ∀{ml:List Nat} {δ:Ev} {os:List Dat},outs ml δ=some os-> ∀(k i:Nat) (o:Dat),ml[k]? =some i->os[k]? =some o->δ[i]? =some (.ow o)
 | [],_,_,h,k,i,o,e1,e2 => by simp at e1
 | j :: ml,δ,os,h,k,i,o,e1,e2 => by
  unfold outs at h
  rw[L5] at h
  split at h
  ·rename_i d hd
   cases h2:(ml.mapM fun(i:Nat)=>match(δ[i]? :Option Sl) with
    |some (Sl.ow d)=>some d
    |_=>none:Option (List Dat)) with
   | none => rw [h2] at h;cases h
   |some os2=>
    rw[h2] at h
    cases h
    cases k with
    |zero=>
     cases e1
     cases e2
     exact hd
    |succ k=>exact zN3 (ml:=ml) h2 k i o (by simpa using e1) (by simpa using e2)
  ·cases h
theorem zP8{N:List Str}{Z:Addr->Prop}{vs:List V}{ds:List Dat}(A:yBN K ml Z H vs ds)(hn:ds.length<=N.length):
  ∃mu:Nat->Option Addr,(∀i a,mu i=some a↔i∈ml/\vs[i]? =some (.ref a))/\Sta K ml ⟨Z,argP ml vs,H,mu,[]⟩ mu H (zFZ N vs) (envD ml N.length ds):=by
 classical
 let mu : Nat -> Option Addr := fun i => if i ∈ ml then (match vs[i]? with
  | some (.ref a) => some a
  | _ => none) else none
 have hmu: ∀i a,mu i=some a↔i∈ml/\vs[i]? =some (.ref a):=fun i a=>by
  show(if i∈ml then(match vs[i]? with
   | some (.ref a) => some a
   | _ => none) else none) = some a ↔ _
  by_cases hi:i∈ml
  ·rw[if_pos hi]
   constructor
   ·intro h
    split at h
    ·rename_i b hb
     cases h
     exact⟨hi,hb⟩
    ·cases h
   ·rintro ⟨_,h⟩
    rw[h]
  ·rw[if_neg hi]
   exact⟨(fun h=>nomatch h),fun h=>absurd h.1 hi⟩
 have hN: ∀a,Nn ⟨Z,argP ml vs,H,mu,[]⟩ mu a->Zp Z ml vs a:=fun a h=>by
  rcases h with h|⟨i,h⟩
  ·exact .inl h
  ·exact .inr ⟨i,(hmu i a).mp h⟩
 have db: ∀(i:Nat) (s:Sl),(envD ml N.length ds)[i]? =some s->(∃d,ds[i]? =some d/\s=if i∈ml then .ow d else .va d)∨s= .no:=fun i s h=>by
  unfold envD at h
  by_cases hi:i<ds.length
  ·rw [A6 (by simpa using hi),Ih] at h
   cases q:ds[i]? with
   |none=>rw[q] at h;cases h
   |some d=>rw[q] at h;cases h;exact .inl ⟨d,rfl,rfl⟩
  ·rw [Ar (by simpa using hi),Cr] at h
   split at h
   ·cases h;exact .inr rfl
   ·cases h
 have hst: ∀(i:Nat) (v:V),vs[i]? =some v->(zFZ N vs)[i]? =some (some v):=fun i v h=>by
  unfold zFZ
  have hi:i<vs.length:=(A5.mp h).1
  rw[A6 (by simpa using hi),C7,h]
  rfl
 refine⟨mu,hmu,?_,fun i d q=> ?_,fun i d q=> ?_,fun i a q=> ?_,fun i j a q1 q2=> ?_,fun i a q=> ?_,A.zin,Fr.refl _ _,⟨fun i a q=>((hmu i a).mp q).1,fun i _=>rfl⟩,fun a q=> ?_,fun p hp=>nomatch hp⟩
 ·unfold zFZ envD
  have:=A.len
  simp
  omega
 ·rcases db i _ q with⟨e,h1,h2⟩|h
  ·by_cases hi:i∈ml
   ·rw[if_pos hi] at h2;cases h2
   ·rw[if_neg hi] at h2
    cases h2
    obtain⟨v,e1,r⟩:=A.va i d hi h1
    exact⟨v,hst i v e1,r.mono hN hN⟩
  ·cases h
 ·rcases db i _ q with⟨e,h1,h2⟩|h
  ·by_cases hi:i∈ml
   ·rw[if_pos hi] at h2
    cases h2
    obtain⟨a,e1,w,_⟩:=A.ow i d hi h1
    exact⟨a,(hmu i a).mpr ⟨hi,e1⟩,hst i _ e1,w.mono hN⟩
   ·rw[if_neg hi] at h2;cases h2
  ·cases h
 ·obtain⟨hi,e1⟩:=(hmu i a).mp q
  have hl:=A.mem i hi
  refine⟨ds[i],?_⟩
  unfold envD
  rw[A6 (by simpa using hl),Ih]
  simp[hl,hi]
 ·exact A.inj i j a ((hmu i a).mp q1).1 ((hmu j a).mp q2).1 ((hmu i a).mp q1).2 ((hmu j a).mp q2).2
 ·obtain⟨hi,e1⟩:=(hmu i a).mp q
  refine⟨fun z=> ?_,.inl ⟨i,hi,e1⟩⟩
  obtain⟨a',e2,_,n⟩:=A.ow i (ds[i]'(A.mem i hi)) hi (by simp[A.mem i hi])
  rw[e1] at e2
  cases e2
  exact n z
 ·obtain⟨i,hi,e1⟩:=q
  obtain⟨a',e2,w,n⟩:=A.ow i (ds[i]'(A.mem i hi)) hi (by simp[A.mem i hi])
  rw[e1] at e2
  cases e2
  obtain⟨o,q,_⟩:=w.soft
  exact⟨o,q⟩
theorem yBG{N ps:List Str}{vs:List V}{Q:VK}{E:XK}(hps:ps.length<=N.length)(h:spV K ml ps.length (runV N.length ml g) vs H Q E):TSt K ml g {nx:=fun _ H'=>Q .non H',rt:=Q} (zFZ N vs) H:=by
 obtain⟨Z,ds,r,os,hn,AV,hF,k⟩:=h
 obtain⟨mu,hmu,S0⟩:=zP8 (N:=N) AV (by rw[hn];exact hps)
 unfold runV at hF
 cases h1:g (envD ml N.length ds) with
 | none => rw [h1] at hF;cases hF
 |some o=>
  rw[h1] at hF
  refine⟨_,mu,_,o,S0,h1,?_⟩
  have fin: ∀(δ':Ev) (v:V) (σ':St) (H':Hp) (O':Nat->Option Addr),outs ml δ'=some os->Sta K ml ⟨Z,argP ml vs,H,mu,[]⟩ O' H' σ' δ'->Rep K (rz ⟨Z,argP ml vs,H,mu,[]⟩) H' (rz ⟨Z,argP ml vs,H,mu,[]⟩) v r->Q v H':=fun δ' v σ' H' O' ho S' hr'=>by
   have hz: ∀a,Zp Z ml vs a->rz ⟨Z,argP ml vs,H,mu,[]⟩ a:=fun a h=>by
    rcases h with h|⟨i,hi,e⟩
    ·exact .inl h
    ·exact .inr ⟨i,(hmu i a).mpr ⟨hi,e⟩⟩
   refine k v H' S'.frm (fun kk i a o e1 e2 e3=> ?_) (hr'.mono hz hz)
   have hd:=zN3 ho kk i o e1 e3
   obtain⟨a',e4,_,w⟩:=S'.ow i o hd
   have hi:i∈ml:=Cu e1
   have:=(S'.par.2 i hi).trans ((hmu i a).mpr ⟨hi,e2⟩)
   rw[this] at e4
   cases e4
   refine w.mono fun b hb=> ?_
   rcases hb with hb|⟨j,hj,e5⟩
   ·exact .inl hb
   ·exact .inr ⟨j,(S'.par.2 j hj).trans ((hmu j b).mpr ⟨hj,e5⟩)⟩
  cases o with
  |rt d δ'=>
   have hF:(outs ml δ').map (fun os=>(d,os))=some (r,os):=hF
   cases h2:outs ml δ' with
   |none=>rw[h2] at hF;cases hF
   |some os'=>
    rw[h2] at hF
    cases hF
    exact fun v σ' H' O' S' hr'=>fin δ' v σ' H' O' h2 S' hr'
  |nx δ'=>
   have hF:(outs ml δ').map (fun os=>(Dat.non,os))=some (r,os):=hF
   cases h2:outs ml δ' with
   |none=>rw[h2] at hF;cases hF
   |some os'=>
    rw[h2] at hF
    cases hF
    exact fun σ' H' O' S'=>fin δ' .non σ' H' O' h2 S' .non
  |bk δ'=>cases hF
  |ct δ'=>cases hF
theorem Fun.okV{P:Aw}{w:World}{mg:Str->Option Value}{base:Heap}{x qual:Str}{st:Stmt}{f:Addr}{fd:D9}{N ps:List Str}{k:Nat}(F:Fun K x qual st f fd)(S:zAF N ps (zA6 st))(hps:ps.length<=N.length)
  (az: ∀(cdv:Value) (A:C3) (outer:List Env) (s:A7) (H:Hp) (E:XK),Room k (A.deeper (Gk qual (zA6 st) s.heap.objs.size f cdv))→
   PSs (cxOf CX0 P w K mg base N qual (zA6 st) f cdv A outer s H E).nox (zBP st) (TSt K ml g)):FnOk P w K mg base CX0 (k+1) f fd ps (spV K ml ps.length (runV N.length ml g)):=by
 refine F.ok S (fun vs H Q E h=> ?_) (fun cdv A outer s H vs Q E hr h=>⟨_,az cdv A outer s H E hr,yBG hps h⟩)
 obtain⟨Z,ds,r,os,hn,AV,_⟩:=h
 rw[AV.len,hn]
inductive AV where
 |d (d:Dat)|o (j:Nat)
inductive RepG(K:Ad)(N:Addr->Prop)(H:Hp)(σ:St):List V->List AV->Prop
 |nil:RepG K N H σ [] []
 |d {v:V} {vs:List V} {d:Dat} {as:List AV}:Rep K N H N v d->RepG K N H σ vs as->RepG K N H σ (v::vs) (.d d::as)
 |o {v:V} {vs:List V} {j:Nat} {as:List AV}:σ[j]? =some (some v)->RepG K N H σ vs as->RepG K N H σ (v::vs) (.o j::as)
abbrev VFg:=Ev->Option (List AV×Ev)
structure ResG(K:Ad)(ml:List Nat)(B:Bs)(O:Nat->Option Addr)(H:Hp)(σ:St)(pu:Bool)(H':Hp)(δ':Ev)(vs:List V)(as:List AV):Prop where
 sta:Sta K ml B O H' σ δ'
 frm:Fr (OA O) H H'
 pur:pu=true->Same H H'
 rep:RepG K (Nn B O) H' σ vs as
def TAG(K:Ad)(ml:List Nat)(pu:Bool)(f:VFg):TA:=fun σ H Q=> ∃B O δ as δ',Sta K ml B O H σ δ/\f δ=some (as,δ')/\ ∀vs H',ResG K ml B O H σ pu H' δ' vs as->Q vs H'
noncomputable def aNil:VFg:=fun δ=>some ([],δ)
noncomputable def aE(f:VF)(fs:VFg):VFg:=fun δ=>(f δ).bind fun p=>(fs p.2).map fun q=>(.d p.1::q.1,q.2)
noncomputable def slot(δ:Ev)(j:Nat):Option Dat:=match δ[j]? with
 |some (.va d)=>some d
 |some (.ow d)=>some d
 |_=>none
noncomputable def aO(j:Nat)(fs:VFg):VFg:=fun δ=>(slot δ j).bind fun _=>(fs δ).map fun q=>(.o j::q.1,q.2)
theorem zA9:PA X [] (TAG K ml true aNil):=zBT.imp fun σ H Q q0=>by
 obtain⟨B,O,δ,d,δ',S,q,k⟩:=q0
 cases q
 exact k [] H ⟨S,Fr.refl _ _,fun _=>Same.refl _,.nil⟩
theorem zA8{fs:VFg}(ha:PE X a (TV K ml pa true true fa))(hr:PA X es (TAG K ml ps fs))(hs:A2 (a::es) X.env=(false,eval a X.env)::A2 es X.env:=by rfl):PA X (a::es) (TAG K ml (pa && ps) (aE fa fs)):=(zAO ha hr hs).imp fun σ H Q q0=>by
 obtain⟨B,O,δ,as,δ2,S,q,k⟩:=q0
 unfold aE at q
 cases h1:fa δ with
 | none => rw [h1] at q;cases q
 |some p=>
  obtain⟨x,δ1⟩:=p
  rw[h1] at q
  have q:((fs δ1).map fun q=>(AV.d x::q.1,q.2))=some (as,δ2):=q
  cases h2:fs δ1 with
  |none=>rw[h2] at q;cases q
  |some p2=>
   rw[h2] at q
   cases q
   refine⟨B,O,δ,x,δ1,S,h1,fun v1 H1 R1=>⟨B,O,δ1,_,_,R1.sta,h2,fun vs H2 R2=>k _ H2 ⟨R2.sta,R1.frm.trans R2.frm,fun z=> ?_,.d (R1.rep.fr R2.frm (fun a z=> .inr z) fun a z=> .inr z) R2.rep⟩⟩⟩
   obtain⟨z1,z2⟩:=(A3 _ _).mp z
   exact(R1.pur z1).trans (R2.pur z2)
theorem zK5{j:Nat}{d:Dat}(h:slot δ j=some d):δ[j]? =some (.va d)∨δ[j]? =some (.ow d):=by
 unfold slot at h
 split at h
 ·cases h;exact .inl (by assumption)
 ·cases h;exact .inr (by assumption)
 ·cases h
theorem Sta.slot(S:Sta K ml B O H σ δ){j:Nat}{d:Dat}(h:slot δ j=some d): ∃v,σ[j]? =some (some v):=by
 rcases zK5 h with h|h
 ·obtain⟨v,e,_⟩:=S.va j d h
  exact⟨v,e⟩
 ·obtain⟨a,_,e,_⟩:=S.ow j d h
  exact⟨_,e⟩
theorem zBE{fs:VFg}{j:Nat}(ha:PE X a (tVar j))(hr:PA X es (TAG K ml ps fs))(hs:A2 (a::es) X.env=(false,eval a X.env)::A2 es X.env:=by rfl):PA X (a::es) (TAG K ml ps (aO j fs)):=(zAO ha hr hs).imp fun σ H Q q0=>by
 obtain⟨B,O,δ,as,δ2,S,q,k⟩:=q0
 unfold aO at q
 cases h1:slot δ j with
 | none => rw [h1] at q;cases q
 |some d=>
  rw[h1] at q
  have q:((fs δ).map fun q=>(AV.o j::q.1,q.2))=some (as,δ2):=q
  cases h2:fs δ with
  |none=>rw[h2] at q;cases q
  |some p2=>
   rw[h2] at q
   cases q
   obtain⟨v,e⟩:=S.slot h1
   exact⟨v,e,B,O,δ,_,_,S,h2,fun vs H2 R2=>k _ H2 ⟨R2.sta,R2.frm,R2.pur,.o e R2.rep⟩⟩
theorem RepG.length: ∀{N:Addr->Prop} {vs:List V} {as:List AV},RepG K N H σ vs as->vs.length=as.length
 |_,_,_,.nil=>rfl
 |_,_,_,.d _ t=>congrArg (· +1) (RepG.length t)
 |_,_,_,.o _ t=>congrArg (· +1) (RepG.length t)
theorem RepG.getD: ∀{N:Addr->Prop} {vs:List V} {as:List AV} {i:Nat} {d:Dat},RepG K N H σ vs as->as[i]? =some (.d d)-> ∃v,vs[i]? =some v/\Rep K N H N v d
 |_,_,_,_,_,.nil,e=>by simp at e
 |_,_,_,0,_,.d h _,e=>by simp at e;subst e;exact⟨_,rfl,h⟩
 |_,_,_,0,_,.o h _,e=>by simp at e
 |_,_,_,i+1,_,.d _ t,e=>by
  obtain⟨u,h1,h2⟩:=RepG.getD (i:=i) t (by simpa using e)
  exact⟨u,by simpa using h1,h2⟩
 |_,_,_,i+1,_,.o _ t,e=>by
  obtain⟨u,h1,h2⟩:=RepG.getD (i:=i) t (by simpa using e)
  exact⟨u,by simpa using h1,h2⟩
theorem RepG.getO: ∀{N:Addr->Prop} {vs:List V} {as:List AV} {i j:Nat},RepG K N H σ vs as->as[i]? =some (.o j)-> ∃v,vs[i]? =some v/\σ[j]? =some (some v)
 |_,_,_,_,_,.nil,e=>by simp at e
 |_,_,_,0,_,.d h _,e=>by simp at e
 |_,_,_,0,_,.o h _,e=>by simp at e;subst e;exact⟨_,rfl,h⟩
 |_,_,_,i+1,_,.d _ t,e=>by
  obtain⟨u,h1,h2⟩:=RepG.getO (i:=i) t (by simpa using e)
  exact⟨u,by simpa using h1,h2⟩
 |_,_,_,i+1,_,.o _ t,e=>by
  obtain⟨u,h1,h2⟩:=RepG.getO (i:=i) t (by simpa using e)
  exact⟨u,by simpa using h1,h2⟩
noncomputable def argD(δ:Ev):AV->Option Dat
 | .d d=>some d
 | .o j=>slot δ j
noncomputable def zF7(δ:Ev):List AV->Option (List Dat)
 |[]=>some []
 |a::as=>(argD δ a).bind fun d=>(zF7 δ as).map fun ds=>d::ds
theorem zLE: ∀{as:List AV} {ds:List Dat},zF7 δ as=some ds->as.length=ds.length/\ ∀(i:Nat) (d:Dat),ds[i]? =some d-> ∃a,as[i]? =some a/\argD δ a=some d
 | [],ds,h => by cases h;exact ⟨rfl,fun i d e => by simp at e⟩
 | a :: as,ds,h => by
  unfold zF7 at h
  cases h1:argD δ a with
  | none => rw [h1] at h;cases h
  |some d=>
   rw[h1] at h
   cases h2:zF7 δ as with
   | none => simp [h2] at h
   |some ds'=>
    simp only[Aa,h2] at h
    cases h
    obtain⟨l,g⟩:=zLE h2
    refine⟨by simp[l],fun i e he=> ?_⟩
    cases i with
    |zero=>cases he;exact⟨a,rfl,h1⟩
    |succ i=>
     obtain⟨b,e1,e2⟩:=g i e (by simpa using he)
     exact⟨b,by simpa using e1,e2⟩
noncomputable def jsOf:List AV->List Nat
 |[]=>[]
 | .d _::as=>jsOf as
 | .o j::as=>j::jsOf as
theorem zIP: ∀{as:List AV} {i j:Nat},as[i]? =some (.o j)->j∈jsOf as
 |[],_,_,e=>by simp at e
 | .d _::as,0,j,e=>by simp at e
 | .o k::as,0,j,e=>by simp at e;subst e;exact Ak
 | .d _::as,i+1,j,e=>zIP (as:=as) (i:=i) (by simpa using e)
 | .o k::as,i+1,j,e=>Ag _ (zIP (as:=as) (i:=i) (by simpa using e))
theorem zTI: ∀{as:List AV} {j:Nat},j∈jsOf as-> ∃i:Nat,as[i]? =some (AV.o j)
 | [],_,h => nomatch h
 | .d _ :: as,j,h => by
  obtain⟨i,e⟩:=zTI (as:=as) h
  exact⟨i+1,by simpa using e⟩
 | .o k :: as,j,h => by
  rcases A8.mp h with e|e
  ·exact ⟨0,by rw [e];rfl⟩
  ·obtain⟨i,e⟩:=zTI (as:=as) e
   exact⟨i+1,by simpa using e⟩
theorem zNF: ∀{as:List AV} {i k j:Nat},(jsOf as).Nodup->as[i]? =some (.o j)->as[k]? =some (.o j)->i=k
 |[],_,_,_,_,e,_=>by simp at e
 | .d _::as,0,_,j,_,e,_=>by simp at e
 | .d _::as,_+1,0,j,_,_,e=>by simp at e
 | .d _::as,i+1,k+1,j,n,e1,e2=>congrArg (· +1) (zNF (as:=as) n (by simpa using e1) (by simpa using e2))
 | .o x::as,0,0,j,_,_,_=>rfl
 | .o x::as,0,k+1,j,n,e1,e2=>by
  simp at e1
  subst e1
  have h:as[k]? =some (.o x):=by simpa using e2
  exact absurd (zIP h) (Bv.mp n).1
 | .o x::as,i+1,0,j,n,e1,e2=>by
  simp at e2
  subst e2
  have h:as[i]? =some (.o x):=by simpa using e1
  exact absurd (zIP h) (Bv.mp n).1
 | .o x::as,i+1,k+1,j,n,e1,e2=>congrArg (· +1) (zNF (as:=as) (Bv.mp n).2 (by simpa using e1) (by simpa using e2))
noncomputable def zTD(δ:Ev)(as:List AV)(i:Nat):Bool:=match as[i]? with
 |some (.o j)=>match δ[j]? with
  |some (.ow _)=>true
  |_=>false
 |_=>false
noncomputable def zF8(mF:List Nat):List AV->Nat->Bool
 |[],_=>true
 | .d _::as,i=>zF8 mF as (i+1)
 | .o _::as,i=>decide (i∈mF) && zF8 mF as (i+1)
theorem zFW{mF:List Nat}: ∀{as:List AV} {k i j:Nat},zF8 mF as k=true->as[i]? =some (.o j)->k+i∈mF
 |[],_,_,_,_,e=>by simp at e
 | .d _::as,k,0,j,h,e=>by simp at e
 | .o _::as,k,0,j,h,e=>by
  simp only[zF8,A3,decide_eq_true_eq] at h
  exact h.1
 | .d _::as,k,i+1,j,h,e=>by
  have:=zFW (as:=as) (k:=k+1) (i:=i) (j:=j) h (by simpa using e)
  rwa[show k+(i+1)=k+1+i by omega]
 | .o _::as,k,i+1,j,h,e=>by
  simp only[zF8,A3] at h
  have:=zFW (as:=as) (k:=k+1) (i:=i) (j:=j) h.2 (by simpa using e)
  rwa[show k+(i+1)=k+1+i by omega]
noncomputable def zFN:Dat->Bool
 | .lst ds=>zH4 ds
 | .dct _ ds=>zH4 ds
 |_=>false
theorem Own.kids{N N':Addr->Prop}{a:Addr}(w:Own K N H a d)(h:zFN d=true):Own K N' H a d:=by
 cases w with
 |lst q r=>exact .lst q (r.hard h)
 |dct q r=>exact .dct q (r.hard h)
noncomputable def putO(as:List AV):List Nat->List Dat->Ev->Ev
 |i::is,o::os,δ=>match as[i]? with
  |some (.o j)=>putO as is os (δ.set j (.ow o))
  |_=>putO as is os δ
 |_,_,δ=>δ
theorem zH7{as:List AV}: ∀{is:List Nat} {os:List Dat} {δ:Ev},(putO as is os δ).length=δ.length
 |[],_,_=>rfl
 |_::_,[],_=>rfl
 |i::is,o::os,δ=>by
  unfold putO
  split
  ·rw[zH7,B9]
  ·rw[zH7]
theorem zJC{as:List AV}: ∀{is:List Nat} {os:List Dat} {δ:Ev} (j:Nat),is.length=os.length->j<δ.length→
  (∃(k i:Nat) (o:Dat),is[k]? =some i/\os[k]? =some o/\as[i]? =some (AV.o j)/\(putO as is os δ)[j]? =some (Sl.ow o))∨((∀i∈is,as[i]? ≠some (AV.o j))/\(putO as is os δ)[j]? =δ[j]?)
 | [],[],δ,j,_,_ => .inr ⟨(fun i h => nomatch h),rfl⟩
 | i :: is,o :: os,δ,j,hl,hj => by
  unfold putO
  split
  ·rename_i j0 e0
   rcases zJC (is:=is) (os:=os) (δ:=δ.set j0 (.ow o)) j (by simpa using hl) (by rw[B9];exact hj) with⟨k,i',o',h1,h2,h3,h4⟩|⟨h1,h2⟩
   ·exact .inl ⟨k + 1,i',o',by simpa using h1,by simpa using h2,h3,h4⟩
   ·by_cases hjj:j=j0
    ·subst hjj
     rw[Bz hj] at h2
     exact .inl ⟨0,i,o,rfl,rfl,e0,h2⟩
    ·rw[B6 (C9 hjj)] at h2
     refine .inr ⟨fun i' hi'=> ?_,h2⟩
     rcases A8.mp hi' with z|z
     ·rw[z,e0]
      intro w
      cases w
      exact hjj rfl
     ·exact h1 i' z
  ·rename_i hn
   rcases zJC (is:=is) (os:=os) (δ:=δ) j (by simpa using hl) hj with⟨k,i',o',h1,h2,h3,h4⟩|⟨h1,h2⟩
   ·exact .inl ⟨k + 1,i',o',by simpa using h1,by simpa using h2,h3,h4⟩
   ·refine .inr ⟨fun i' hi' => ?_,h2⟩
    rcases A8.mp hi' with z|z
    ·rw[z]
     exact fun w=>hn j w
    ·exact h1 i' z
noncomputable def zFU(mF:List Nat)(as:List AV)(δ:Ev):Bool:=mF.all (zTD δ as) && decide (jsOf as).Nodup
noncomputable def zET(mF:List Nat)(as:List AV)(r:Dat)(os:List Dat):Bool:=(zF8 mF as 0 || r.hard) && (zF8 mF as 0 || os.all zFN) && decide (mF.length=os.length)
noncomputable def zAI(n:Nat)(mF:List Nat)(F:VFun)(fs:VFg):VF:=fun δ=>(fs δ).bind fun p=>(zF7 p.2 p.1).bind fun ds=>if ds.length=n/\zFU mF p.1 p.2=true then(F ds).bind fun q=>if zET mF p.1 q.1 q.2=true then some (q.1,putO p.1 mF q.2 p.2) else none else none
theorem zJ5{n:Nat}{mF:List Nat}{F:VFun}{fs:VFg}{Q:VK}(h:TV K ml (ps && mF.isEmpty) true true (zAI n mF F fs) σ H Q):zVB (spV K mF n F) [] E0 (TAG K ml ps fs) σ H Q:=by
 obtain⟨B,O,δ,d,δ2,S,q,k⟩:=h
 unfold zAI at q
 cases h1:fs δ with
 | none => rw [h1] at q;cases q
 |some p=>
  obtain⟨as,δ1⟩:=p
  rw[h1] at q
  have q : ((zF7 δ1 as).bind fun ds => if ds.length = n /\ zFU mF as δ1 = true then (F ds).bind fun q => if zET mF as q.1 q.2 = true then some (q.1,putO as mF q.2 δ1) else none else none) = some (d,δ2) := q
  cases h2:zF7 δ1 as with
  | none => rw [h2] at q;cases q
  |some ds=>
   rw[h2] at q
   have q : (if ds.length = n /\ zFU mF as δ1 = true then (F ds).bind fun q => if zET mF as q.1 q.2 = true then some (q.1,putO as mF q.2 δ1) else none else none) = some (d,δ2) := q
   split at q
   ·rename_i hc
    cases h3:F ds with
    | none => rw [h3] at q;cases q
    |some z=>
     obtain⟨r,os⟩:=z
     rw[h3] at q
     have q:(if zET mF as r os=true then some (r,putO as mF os δ1) else none)=some (d,δ2):=q
     split at q
     ·rename_i hb
      cases q
      obtain⟨hn,hc⟩:=hc
      simp only[zFU,A3,decide_eq_true_eq,Fd] at hc
      simp only[zET,A3,decide_eq_true_eq] at hb
      obtain⟨hmu,hnd⟩:=hc
      obtain⟨⟨my,nw⟩,a9⟩:=hb
      refine⟨B,O,δ,as,δ1,S,h1,fun vs H1 R=> ?_⟩
      show spV K mF n F (vs++[]) H1 Q E0
      rw[Cq]
      obtain⟨hal,hag⟩:=zLE h2
      have hm: ∀i∈mF,∃j a x,as[i]? =some (.o j)/\δ1[j]? =some (.ow x)/\O j=some a/\vs[i]? =some (.ref a)/\Own K (Nn B O) H1 a x:=fun i hi=>by
       have:=hmu i hi
       unfold zTD at this
       split at this
       ·rename_i j ej
        split at this
        ·rename_i x ex
         obtain⟨a,e1,e2,w⟩:=R.sta.ow j x ex
         obtain⟨v,e3,e4⟩:=R.rep.getO ej
         rw[e2] at e4
         cases e4
         exact⟨j,a,x,ej,ex,e1,e3,w⟩
        ·cases this
       ·cases this
      have hP: ∀a,argP mF vs a-> ∃i j,i∈mF/\as[i]? =some (.o j)/\O j=some a:=fun a q0=>by
       obtain⟨i,hi,e⟩:=q0
       obtain⟨j,a',x,e1,_,e2,e3,_⟩:=hm i hi
       rw[e] at e3
       cases e3
       exact⟨i,j,hi,e1,e2⟩
      have hPO: ∀a,argP mF vs a->OA O a:=fun a h=>by
       obtain⟨i,j,_,_,e⟩:=hP a h
       exact⟨j,e⟩
      have hZp: ∀a,Zp (fun a=>Nn B O a/\ ∀j∈jsOf as,O j≠some a) mF vs a->Nn B O a:=fun a h=>by
       rcases h with h|h
       ·exact h.1
       ·exact .inr (hPO a h)
      refine⟨fun a=>Nn B O a/\ ∀j∈jsOf as,O j≠some a,ds,_,os,hn,⟨by rw[<- hal,R.rep.length],fun i hi=> ?_,fun i x hi e=> ?_,fun i x hi e=> ?_,fun i j a hi hj e1 e2=> ?_,fun a h=>R.sta.nin h.1⟩,h3,fun v H2 f2 w2 r2=> ?_⟩
      ·obtain⟨j,a,x,e1,_⟩:=hm i hi
       rw[<- hal]
       exact(A5.mp e1).1
      ·obtain⟨a,e1,e2⟩:=hag i x e
       cases a with
       |d y=>
        cases e2
        obtain⟨v,e3,r⟩:=R.rep.getD e1
        exact⟨v,e3,r.mono hZp hZp⟩
       |o j=>
        obtain⟨v,e3,e4⟩:=R.rep.getO e1
        refine⟨v,e3,?_⟩
        rcases zK5 e2 with e5|e5
        ·obtain⟨v',e6,r⟩:=R.sta.va j x e5
         rw[e4] at e6
         cases e6
         exact r.mono hZp hZp
        ·obtain⟨a,e7,e6,w⟩:=R.sta.ow j x e5
         rw[e4] at e6
         cases e6
         refine(w.mono hZp).rep fun z=> ?_
         rcases z with z|z
         ·exact z.2 j (zIP e1) e7
         ·obtain⟨i',j',hi',e8,e9⟩:=hP a z
          have:j=j':=R.sta.inj j j' a e7 e9
          subst this
          have:=zNF hnd e1 e8
          subst this
          exact hi hi'
      ·obtain⟨a,e1,e2⟩:=hag i x e
       obtain⟨j,b,y,e3,e4,e5,e6,w⟩:=hm i hi
       rw[e3] at e1
       cases e1
       have e7 : slot δ1 j = some y := by unfold slot;rw [e4]
       have e2:slot δ1 j=some x:=e2
       rw[e7] at e2
       cases e2
       exact⟨b,e6,w.mono hZp,fun z=>z.2 j (zIP e3) e5⟩
      ·obtain⟨j1,b1,_,e3,_,e4,e5,_⟩:=hm i hi
       obtain⟨j2,b2,_,e6,_,e7,e8,_⟩:=hm j hj
       rw[e1] at e5
       cases e5
       rw[e2] at e8
       cases e8
       have:j1=j2:=R.sta.inj j1 j2 a e4 e7
       subst this
       exact zNF hnd e3 e6
      ·have S2:Sta K ml B O H2 σ (putO as mF os δ1):=by
        refine R.sta.call zH7 (fun j=> ?_) f2 hPO
        by_cases hj:j<δ1.length
        ·rcases zJC (as:=as) (is:=mF) (os:=os) (δ:=δ1) j a9 hj with⟨kk,i,o,e1,e2,e3,e4⟩|⟨e1,e2⟩
         ·obtain⟨j',a,x,e5,_,e6,e7,_⟩:=hm i (Cu e1)
          rw[e3] at e5
          cases e5
          have w:=w2 kk i a o e1 e7 e2
          refine .inr ⟨a,o,e6,e4,?_⟩
          rcases(Ew _ _).mp nw with z|z
          ·refine w.mono fun b hb => ?_
           by_cases hjs: ∃j'∈jsOf as,O j'=some b
           ·obtain⟨j',hj',e8⟩:=hjs
            obtain⟨i',e9⟩:=zTI hj'
            have hi':=zFW z e9
            rw[Gc] at hi'
            obtain⟨j'',a'',_,e10,_,e11,e12,_⟩:=hm i' hi'
            rw[e9] at e10
            cases e10
            rw[e8] at e11
            cases e11
            exact .inr ⟨i',hi',e12⟩
           ·exact .inl ⟨hb,fun j' hj' e=>hjs ⟨j',hj',e⟩⟩
          ·exact w.kids (Fd.mp z o (Cu e2))
         ·refine .inl ⟨e2,fun a ea hPa => ?_⟩
          obtain⟨i,j',hi,e3,e4⟩:=hP a hPa
          have:j=j':=R.sta.inj j j' a ea e4
          subst this
          exact e1 i hi e3
        ·refine .inl ⟨?_,fun a ea => ?_⟩
         ·rw [Bp (by rw [zH7];omega),Bp (by omega)]
         ·obtain⟨x,ex⟩:=R.sta.dom j a ea
          exact absurd (A5.mp ex).1 hj
       refine k v H2 ⟨S2,R.frm.trans (f2.mono hPO),fun z=> ?_,?_⟩
       ·obtain⟨z1,z2⟩:=(A3 _ _).mp z
        refine(R.pur z1).trans fun b o e=>f2 b o e fun w=> ?_
        obtain⟨i,hi,_⟩:=w
        rw[K5.mp z2] at hi
        cases hi
       ·rcases(Ew _ _).mp my with z|z
        ·have hN : ∀ a,Nn B O a -> Zp (fun a => Nn B O a /\ ∀ j ∈ jsOf as,O j ≠ some a) mF vs a := fun b hb => by
          by_cases hjs: ∃j'∈jsOf as,O j'=some b
          ·obtain⟨j',hj',e8⟩:=hjs
           obtain⟨i',e9⟩:=zTI hj'
           have hi':=zFW z e9
           rw[Gc] at hi'
           obtain⟨j'',a'',_,e10,_,e11,e12,_⟩:=hm i' hi'
           rw[e9] at e10
           cases e10
           rw[e8] at e11
           cases e11
           exact .inr ⟨i',hi',e12⟩
          ·exact .inl ⟨hb,fun j' hj' e=>hjs ⟨j',hj',e⟩⟩
         exact r2.mono hN hN
        ·exact r2.hard z
     ·cases q
   ·cases q
theorem zV7{x:Str}{kk j n:Nat}{qs:List Str}{mF:List Nat}{F:VFun}{ff:Addr}{p':Pos}{fs:VFg}(hK:X.K=K)(D:Def X.prog X.w K X.mg X.base x kk qs (spV K mF n F) ff)(hr:Room j X.A)(hk:kk<=j)(hg:Gl X x)(ha:PA X (e::es) (TAG K ml ps fs))(hdb:(x==("__debug__":Str))=false:=by decide)
  (he:A2 (e::es) X.env=(false,eval e X.env)::A2 es X.env:=by rfl) (hpl:(Dc pos (A2 es X.env)).any (·.1)=false:=by rfl):
  PE X (.Call (.Name x p') (e::es) [] pos) (TV K ml (ps && mF.isEmpty) true true (zAI n mF F fs)):=by
 subst hK
 exact(zN1 D hr hk hg ha hdb he hpl).imp fun _ _ _ h=>zJ5 h
end
section
variable{X:Cx}{K:Ad}{ml:List Nat}{e a b c:Expr}{es:List Expr}{pi pt pe pu bt bi ps bs:Bool}{f:VF}{B B':Bs}{O:Nat->Option Addr}{H H0 H1 H':Hp}{σ:St}{δ δ':Ev}{v:V}{d:Dat}{p:Addr}{pos:Pos}{ix:List Nat}{nl:Nat}
noncomputable def zBG(ix:List Nat)(δ:Ev):Ev:=ix.map fun i=>(δ[i]?).getD .no
noncomputable def nos(nl:Nat):Ev:=B4 nl Sl.no
noncomputable def zC2(n nl:Nat)(gg:VG)(tb:VB)(fe:VF):List Dat->List Dat->Ev->Option (List Dat×Ev)
 |[],acc,δ=>some (acc,δ)
 |d::r,acc,δ=>(gg d (δ++nos nl)).bind fun δ1=>(tb δ1).bind fun p=>if p.1=true then(fe p.2).bind fun q=>if acc.length<16777216 then zC2 n nl gg tb fe r (acc++[q.1]) (q.2.take n) else none else zC2 n nl gg tb fe r acc (p.2.take n)
noncomputable def zDE:List Nat->Ev->Ev->Ev
 |i::is,s::ss,δ=>match s with
  | .ow d=>zDE is ss (δ.set i (.ow d))
  |_=>zDE is ss δ
 |_,_,δ=>δ
noncomputable def zCV(ix:List Nat)(nl:Nat)(fi:VI)(gg:VG)(tb:VB)(fe:VF):VF:=fun δ=>(fi δ).bind fun p=>(zC2 ix.length nl gg tb fe p.1 [] (zBG ix p.2)).map fun q=>(.lst q.1,zDE ix q.2 p.2)
noncomputable def bYes:VB:=fun δ=>some (true,δ)
theorem zEF: ∀{ix:List Nat} {ss δ:Ev},(zDE ix ss δ).length=δ.length
 |[],_,_=>rfl
 |_::_,[],_=>rfl
 |i::is,s::ss,δ=>by
  cases s<;>simp only[zDE]<;>rw[zEF]<;>try rw[B9]
theorem zEG: ∀{ix:List Nat} {ss δ:Ev} (i:Nat),i<δ.length->ix.length=ss.length→
  (∃(j:Nat) (d:Dat),ix[j]? =some i/\ss[j]? =some (Sl.ow d)/\(zDE ix ss δ)[i]? =some (Sl.ow d))∨((∀(j:Nat) (d:Dat),ix[j]? =some i->ss[j]? ≠some (Sl.ow d))/\(zDE ix ss δ)[i]? =δ[i]?)
 | [],ss,δ,i,hi,hl => .inr ⟨(fun j d h => by simp at h),rfl⟩
 | k :: is,[],δ,i,hi,hl => by cases hl
 | k :: is,s :: ss,δ,i,hi,hl => by
  have hl2:is.length=ss.length:=by simpa using hl
  cases s with
  |ow d=>
   simp only[zDE]
   rcases zEG (ix:=is) (ss:=ss) (δ:=δ.set k (.ow d)) i (by rw[B9];exact hi) hl2 with⟨j,d',h1,h2,h3⟩|⟨h1,h2⟩
   ·exact .inl ⟨j + 1,d',by simpa using h1,by simpa using h2,h3⟩
   ·by_cases hk:i=k
    ·subst hk
     rw[Bz hi] at h2
     exact .inl ⟨0,d,rfl,rfl,h2⟩
    ·rw[B6 (C9 hk)] at h2
     refine .inr ⟨fun j d' e=> ?_,h2⟩
     cases j with
     |zero=>cases e;exact absurd rfl hk
     |succ j=>simpa using h1 j d' (by simpa using e)
  |va d=>
   simp only[zDE]
   rcases zEG (ix:=is) (ss:=ss) (δ:=δ) i hi hl2 with⟨j,d',h1,h2,h3⟩|⟨h1,h2⟩
   ·exact .inl ⟨j + 1,d',by simpa using h1,by simpa using h2,h3⟩
   ·refine .inr ⟨fun j d' e => ?_,h2⟩
    cases j with
    |zero=>simp
    |succ j=>simpa using h1 j d' (by simpa using e)
  |no=>
   simp only[zDE]
   rcases zEG (ix:=is) (ss:=ss) (δ:=δ) i hi hl2 with⟨j,d',h1,h2,h3⟩|⟨h1,h2⟩
   ·exact .inl ⟨j + 1,d',by simpa using h1,by simpa using h2,h3⟩
   ·refine .inr ⟨fun j d' e => ?_,h2⟩
    cases j with
    |zero=>simp
    |succ j=>simpa using h1 j d' (by simpa using e)
noncomputable def Oc(ix:List Nat)(O:Nat->Option Addr):Nat->Option Addr:=fun j=>(ix[j]?).bind O
noncomputable def Bc(ix:List Nat)(B:Bs)(O:Nat->Option Addr)(H0:Hp)(D:Addr)(kp:List (V×Dat)):Bs:=
 ⟨fun a=>(B.Z a∨a=D)∨ ∃i,O i=some a/\i∉ix,OA (Oc ix O),H0,Oc ix O,kp⟩
theorem zLP{D:Addr}{kp:List (V×Dat)}: ∀a,Nn (Bc ix B O H0 D kp) (Oc ix O) a->Nn B O a∨a=D:=fun a h=>by
 rcases h with((h|h)|⟨i,h,_⟩)|⟨j,h⟩
 ·exact .inl (.inl h)
 ·exact .inr h
 ·exact .inl (.inr ⟨i,h⟩)
 ·unfold Oc at h
  cases q:ix[j]? with
  |none=>rw[q] at h;cases h
  |some i=>rw[q] at h;exact .inl (.inr ⟨i,h⟩)
theorem zIK{D:Addr}{kp:List (V×Dat)}: ∀a,Nn (B.add D) O a->Nn (Bc ix B O H0 D kp) (Oc ix O) a:=fun a h=>by
 rcases h with h|⟨i,h⟩
 ·exact .inl (.inl h)
 ·by_cases hi:i∈ix
  ·obtain⟨j,hj⟩:=Ib.mp hi
   exact .inr ⟨j,by unfold Oc;rw[hj];exact h⟩
  ·exact .inl (.inr ⟨i,h,hi⟩)
theorem Sta.withKp{kp:List (V×Dat)}(S:Sta K ml B O H σ δ)(h: ∀p∈kp,Rep K (Nn B O) H (Nn B O) p.1 p.2):Sta K ml {B with kp:=kp} O H σ δ:=
 ⟨S.len,S.va,S.ow,S.dom,S.inj,S.old,S.zin,S.frm,S.par,S.pin,h⟩
theorem Sta.writeZ{D:Addr}{o:HO}{acc:List V}(S:Sta K ml B O H σ δ)(hD:B.Z D)(hl:H D=some (.lst acc))(h0:B.H0 D=none):Sta K ml B O (upd H D o) σ δ:=by
 have hf:Fr (fun b=>b=D) H (upd H D o):=fun b u q n=>by
  by_cases hb:b=D
  ·subst hb
   rw[hl] at q
   cases q
   exact absurd (n rfl) fun z=>z
  ·rw[zAV hb]
   exact q
 have hN: ∀b,b=D->Nn B O b:=fun b z=> .inl (z▸hD)
 have hin: ∀b,(∃u,H b=some u)-> ∃u,upd H D o b=some u:=fun b q0=>by
  obtain⟨u,q⟩:=q0
  by_cases hb:b=D
  ·exact⟨o,by rw[hb];exact zAH⟩
  ·exact⟨u,by rw[zAV hb];exact q⟩
 refine⟨S.len,fun i d q=> ?_,fun i d q=> ?_,S.dom,S.inj,S.old,fun b h=>hin b (S.zin b h),fun b u q n=> ?_,S.par,fun b h=>hin b (S.pin b h),fun p hp=>(S.kep p hp).fr hf hN hN⟩
 ·obtain⟨v,e,r⟩:=S.va i d q
  exact⟨v,e,r.fr hf hN hN⟩
 ·obtain⟨a,e,e2,w⟩:=S.ow i d q
  exact⟨a,e,e2,w.fr hf hN fun z=>(S.old i a e).1 (z▸hD)⟩
 ·have hb : b ≠ D := fun z => by rw [z,h0] at q;cases q
  rw[zAV hb]
  exact S.frm b u q n
theorem zL2{j:Nat}{s:Sl}(h:(zBG ix δ++nos nl)[j]? =some s):(∃i,ix[j]? =some i/\s=(δ[i]?).getD .no)∨s= .no:=by
 unfold zBG nos at h
 by_cases hj:j<ix.length
 ·rw [A6 (by simpa using hj),C7] at h
  cases q:ix[j]? with
  |none=>rw[q] at h;cases h
  |some i=>rw[q] at h;cases h;exact .inl ⟨i,rfl,rfl⟩
 ·rw [Ar (by simpa using hj),Cr] at h
  split at h
  ·cases h;exact .inr rfl
  ·cases h
theorem zNS{i j:Nat}{v:V}(hi:ix[j]? =some i)(h:σ[i]? =some (some v)):(caps ix σ++B4 nl none)[j]? =some (some v):=by
 have hj:j<ix.length:=(A5.mp hi).1
 unfold caps
 rw[A6 (by simpa using hj),C7,hi]
 show some ((σ[i]?).join)=_
 rw[h]
 rfl
theorem Sta.inner{D:Addr}(S:Sta K ml B O H0 σ δ)(hD:H0 D=none)(hnd:ix.Nodup){kps:List (V×Dat)}(hk: ∀p∈kps,Rep K (Nn B O) H0 (Nn B O) p.1 p.2):
  Sta K (At ix.length) (Bc ix B O H0 D kps) (Oc ix O) (upd H0 D (.lst [])) (caps ix σ++B4 nl none) (zBG ix δ++nos nl) where
 len:=by simp[caps,zBG,nos]
 va := fun j d e => by
  rcases zL2 e with⟨i,hi,q⟩|q
  ·have q:δ[i]? =some (.va d):=by
    cases w:δ[i]? with
    |none=>rw[w] at q;cases q
    |some s=>rw[w] at q;rw[show s= .va d from q.symm]
   obtain⟨v,e1,r⟩:=S.va i d q
   exact⟨v,zNS hi e1,(r.away hD _ _ zLP zLP).same (zA5 hD)⟩
  ·cases q
 ow := fun j d e => by
  rcases zL2 e with⟨i,hi,q⟩|q
  ·have q:δ[i]? =some (.ow d):=by
    cases w:δ[i]? with
    |none=>rw[w] at q;cases q
    |some s=>rw[w] at q;rw[show s= .ow d from q.symm]
   obtain⟨a,e1,e2,w⟩:=S.ow i d q
   refine⟨a,by unfold Oc;rw[hi];exact e1,zNS hi e2,?_⟩
   cases w with
   |lst q' r=>exact .lst (zA5 hD _ _ q') ((r.away hD _ _ zLP).same (zA5 hD))
   |dct q' r=>exact .dct (zA5 hD _ _ q') ((r.away hD _ _ zLP).same (zA5 hD))
  ·cases q
 dom:=fun j a e=>by
  unfold Oc at e
  cases hi:ix[j]? with
  | none => rw [hi] at e;cases e
  |some i=>
   rw[hi] at e
   obtain⟨d,q⟩:=S.dom i a e
   refine⟨d,?_⟩
   have hj:j<ix.length:=(A5.mp hi).1
   unfold zBG
   rw[A6 (by simpa using hj),C7,hi]
   show some ((δ[i]?).getD .no)=_
   rw[q]
   rfl
 inj:=fun j k a e1 e2=>by
  unfold Oc at e1 e2
  cases hi:ix[j]? with
  | none => rw [hi] at e1;cases e1
  |some i=>
   cases hk:ix[k]? with
   |none=>rw[hk] at e2;cases e2
   |some i'=>
    rw[hi] at e1
    rw[hk] at e2
    have:i=i':=S.inj i i' a e1 e2
    subst this
    obtain⟨l1,q1⟩:=A5.mp hi
    obtain⟨l2,q2⟩:=A5.mp hk
    exact(K1 hnd).mp (q1.trans q2.symm)
 old:=fun j a e=>by
  have e':=e
  unfold Oc at e'
  cases hi:ix[j]? with
  | none => rw [hi] at e';cases e'
  |some i=>
   rw[hi] at e'
   refine⟨fun z=> ?_,.inl ⟨j,e⟩⟩
   rcases z with(z|z)|⟨i',z,n⟩
   ·exact(S.old i a e').1 z
   ·obtain⟨o,q⟩:=S.nin (.inr ⟨i,e'⟩)
    rw[z,hD] at q
    cases q
   ·have:i=i':=S.inj i i' a e' z
    subst this
    exact n (Cu hi)
 zin:=fun a h=>by
  rcases h with(h|h)|⟨i,h,_⟩
  ·obtain⟨o,q⟩:=S.zin a h
   exact⟨o,zA5 hD _ _ q⟩
  ·exact ⟨_,by rw [h];exact zAH⟩
  ·obtain⟨o,q⟩:=S.nin (.inr ⟨i,h⟩)
   exact⟨o,zA5 hD _ _ q⟩
 frm:=(zA5 hD).fr
 par:=⟨fun j a e=>by
  have e:(ix[j]?).bind O=some a:=e
  cases hi:ix[j]? with
  |none=>rw[hi] at e;cases e
  |some i=>exact Bx.mpr (A5.mp hi).1,fun j _=>rfl⟩
 pin:=fun a q0=>by
  obtain⟨j,e⟩:=q0
  unfold Oc at e
  cases hi:ix[j]? with
  |none=>rw[hi] at e;cases e
  |some i=>
   rw[hi] at e
   obtain⟨o,q⟩:=S.nin (.inr ⟨i,e⟩)
   exact⟨o,zA5 hD _ _ q⟩
 kep:=fun p hp=>((hk p hp).away hD _ _ zLP zLP).same (zA5 hD)
theorem Sta.turn{O':Nat->Option Addr}{σ':St}{n:Nat}{m:St}(S:Sta K (At n) B O' H σ' δ)(hmu: ∀j,n<=j->B.mu j=none)(hm:m.length=n)(hσ:σ'.take n=m)(hn:n<=δ.length):Sta K (At n) B B.mu H (m++B4 nl none) (δ.take n++nos nl):=by
 have hO: ∀j,j<n->O' j=B.mu j:=fun j hj=>S.par.2 j (Bx.mpr hj)
 have hle: ∀j a,B.mu j=some a->O' j=some a:=fun j a e=>by rw[hO j (Bx.mp (S.par.1 j a e))];exact e
 have hN: ∀a,Nn B B.mu a->Nn B O' a:=fun a h=>by
  rcases h with h|⟨j,h⟩
  ·exact .inl h
  ·exact .inr ⟨j,hle j a h⟩
 have hg: ∀(j:Nat) (s:Sl),(δ.take n++nos nl)[j]? =some s->(j<n/\δ[j]? =some s)∨s= .no:=fun j s h=>by
  have hl:(δ.take n).length=n:=by rw[Bf];omega
  by_cases hj:j<n
  ·rw [A6 (by rw [hl];exact hj),C1 hj] at h
   exact .inl ⟨hj,h⟩
  ·unfold nos at h
   rw[Ar (by rw[hl];omega),Cr] at h
   split at h
   ·cases h;exact .inr rfl
   ·cases h
 have hs: ∀(j:Nat) (v:V),j<n->σ'[j]? =some (some v)->(m++B4 nl none)[j]? =some (some v):=fun j v hj e=>by
  rw[A6 (by rw[hm];exact hj),<- hσ,C1 hj]
  exact e
 refine⟨?_,fun j d e=> ?_,fun j d e=> ?_,fun j a e=> ?_,fun j k a e1 e2=>S.inj j k a (hle j a e1) (hle k a e2),fun j a e=>S.old j a (hle j a e),S.zin,S.frm,⟨S.par.1,fun j _=>rfl⟩,S.pin,fun p hp=>(S.kep p hp).mono hN hN⟩
 ·simp[hm,nos,Bf]
  omega
 ·rcases hg j _ e with⟨hj,e⟩|e
  ·obtain⟨v,e1,r⟩:=S.va j d e
   exact⟨v,hs j v hj e1,r.mono hN hN⟩
  ·cases e
 ·rcases hg j _ e with⟨hj,e⟩|e
  ·obtain⟨a,e1,e2,w⟩:=S.ow j d e
   exact⟨a,(hO j hj)▸e1,hs j _ hj e2,w.mono hN⟩
  ·cases e
 ·have hj:=Bx.mp (S.par.1 j a e)
  obtain⟨d,q⟩:=S.dom j a (hle j a e)
  refine⟨d,?_⟩
  rw[A6 (by rw[Bf];omega),C1 hj]
  exact q
theorem zDH(ix:List Nat)(σ:St):(caps ix σ).length=ix.length:=by simp[caps]
theorem zK2{σ':St}(hl:ix.length<=σ'.length)(h: ∀i∈At ix.length,σ'[i]? =(caps ix σ++B4 nl none)[i]?):σ'.take ix.length=caps ix σ:=by
 refine Jo fun j=> ?_
 by_cases hj:j<ix.length
 ·rw[C1 hj,h j (Bx.mpr hj),A6 (by rw[zDH];exact hj)]
 ·rw[Bp (by rw[Bf];omega),Bp (by rw[zDH];omega)]
theorem zOY{fi:VI}{gg:VG}{tb:VB}{fe:VF}(hnd:ix.Nodup){Q:VK}(h:TN K ml (pi && pt && pe) (zCV ix nl fi gg tb fe) σ H Q):
  zSI ix nl (TIV K ml pi fi) (TGV K (At ix.length) gg) (TB K (At ix.length) pt tb) (TV K (At ix.length) pe true true fe) σ H Q:=by
 obtain⟨B,O,δ,d,δ2,S,q,k⟩:=h
 unfold zCV at q
 cases h1:fi δ with
 | none => rw [h1] at q;cases q
 |some p=>
  obtain⟨ds,δ1⟩:=p
  rw[h1] at q
  have q : ((zC2 ix.length nl gg tb fe ds [] (zBG ix δ1)).map fun q => (Dat.lst q.1,zDE ix q.2 δ1)) = some (d,δ2) := q
  cases h2:zC2 ix.length nl gg tb fe ds [] (zBG ix δ1) with
  | none => rw [h2] at q;cases q
  |some z=>
   obtain⟨res,δf⟩:=z
   rw[h2] at q
   cases q
   refine⟨B,O,δ,ds,δ1,S,h1,fun J kps H0 S0 f0 p0 wk D hD=> ?_⟩
   have hDO : ∀ j,Oc ix O j ≠ some D := fun j e => by
    unfold Oc at e
    cases hi:ix[j]? with
    | none => rw [hi] at e;cases e
    |some i=>
     rw[hi] at e
     obtain⟨o,q⟩:=S0.nin (.inr ⟨i,e⟩)
     rw[hD] at q
     cases q
   have dn : ∀ kp j,ix.length <= j -> (Bc ix B O H0 D kp).mu j = none := fun kp j hj => by
    show(ix[j]?).bind O=none
    rw[Bp hj]
    rfl
   refine⟨fun i m acc H1=>m=ds.length - i/\i<=ds.length/\ ∃(ai:List Dat) (δc:Ev),δc.length=ix.length/\acc.length=ai.length∧
     Sta K (At ix.length) (Bc ix B O H0 D (kps++acc.zip ai)) (Oc ix O) H1 (caps ix σ++B4 nl none) (δc++nos nl)/\H1 D=some (.lst acc)/\((pt && pe)=true->Same H0 H1)∧
     zC2 ix.length nl gg tb fe (ds.drop i) ai δc=some (res,δf),
    ⟨ds.length,rfl,Cc _,[],zBG ix δ1,by simp [zBG],rfl,by
     rw[Jp,Cq]
     exact S0.unkeep.inner hD hnd fun p hp=>S0.kep p (Bb _ hp),zAH,fun _=>zA5 hD,h2⟩,?_⟩
   rintro i m acc H1 ⟨rfl,hi,ai,δc,hlc,aq,S1,hD1,bz,hc⟩
   have w := wk (Nn (Bc ix B O H0 D (kps ++ acc.zip ai)) (Oc ix O)) H1 fun p hp => S1.kep p (Bb _ hp)
   by_cases hlt:i<ds.length
   ·obtain ⟨go,yl⟩ := w.1 i ds[i] (by simp [hlt])
    rw[Cy hlt] at hc
    simp only[zC2] at hc
    cases g1:gg ds[i] (δc++nos nl) with
    | none => rw [g1] at hc;cases hc
    |some δ3=>
     rw[g1] at hc
     simp only[Aa] at hc
     cases g2:tb δ3 with
     | none => rw [g2] at hc;cases hc
     |some z=>
      obtain⟨kk,δ4⟩:=z
      rw[g2] at hc
      simp only[Aa] at hc
      refine .inr ⟨go,fun ar H'=> ∃(ai:List Dat) (δc:Ev),δc.length=ix.length/\ar.length=ai.length∧
       Sta K (At ix.length) (Bc ix B O H0 D (kps++ar.zip ai)) (Oc ix O) H' (caps ix σ++B4 nl none) (δc++nos nl)/\H' D=some (.lst ar)/\((pt && pe)=true->Same H0 H')∧
       zC2 ix.length nl gg tb fe (ds.drop (i + 1)) ai δc = some (res,δf),fun ar H' w' => ⟨ds.length - (i + 1),by omega,rfl,hlt,w'⟩,fun x H2 hy => ?_⟩
      obtain⟨sm,rx⟩:=yl x H2 hy
      refine⟨_,_,_,ds[i],δ3,S1.same sm,rx,g1,fun σ3 O3 S3 m3=> ?_⟩
      have ln3:ix.length<=σ3.length:=by
       by_cases hz:ix.length=0
       ·omega
       ·have hj : ix.length - 1 < ix.length := by omega
        have:=m3 (ix.length - 1) (Bx.mpr hj)
        have hs:(caps ix σ++B4 nl none)[ix.length - 1]? ≠none:=by
         rw [A6 (by rw [zDH];exact hj)]
         simp[caps,hj]
        rw[<- this] at hs
        have nr:ix.length - 1<σ3.length:=K6 fun z=>hs (Gg.mpr z)
        omega
      have hσ3:=zK2 ln3 m3
      refine⟨hσ3,_,_,δ3,kk,δ4,S3,g2,fun H4 R4=> ?_⟩
      have hD4 : H4 D = some (.lst acc) := R4.frm _ _ (sm _ _ hD1) fun z => by
       obtain⟨j,e⟩:=z
       have:=(R4.sta.old j D e).1
       exact absurd (.inl (.inr rfl)) this
      have ln4 : ix.length <= δ4.length := by rw [<- R4.sta.len];exact ln3
      cases kk with
      |false=>
       rw[if_neg Cn] at hc
       refine iteF ⟨ai,δ4.take ix.length,by rw[Bf];omega,aq,R4.sta.turn (dn _) (zDH ix σ) hσ3 ln4,hD4,fun z=> ?_,hc⟩
       exact((bz z).trans sm).trans (R4.pur ((A3 _ _).mp z).1)
      |true=>
       rw[if_pos rfl] at hc
       cases g3:fe δ4 with
       | none => rw [g3] at hc;cases hc
       |some z=>
        obtain⟨dv,δ5⟩:=z
        rw[g3] at hc
        simp only[Aa] at hc
        split at hc
        ·rename_i hz
         refine iteT ⟨_,_,δ4,dv,δ5,R4.sta,g3,fun v H5 R5=> ?_⟩
         have hD5:H5 D=some (.lst acc):=R5.frm _ _ hD4 fun z=>by
          obtain⟨j,e⟩:=z
          have:=(R5.sta.old j D e).1
          exact absurd (.inl (.inr rfl)) this
         have ln5:ix.length<=δ5.length:=by rw[<- R5.sta.len];exact ln3
         have S6:=R5.sta.turn (nl:=nl) (dn _) (zDH ix σ) hσ3 ln5
         have hv:Rep K (Nn (Bc ix B O H0 D (kps++acc.zip ai)) (Oc ix O)) H5 (Nn (Bc ix B O H0 D (kps++acc.zip ai)) (Oc ix O)) v dv:=by
          have hN: ∀a,Nn (Bc ix B O H0 D (kps++acc.zip ai)) (Oc ix O) a->av (Bc ix B O H0 D (kps++acc.zip ai)) O3 true a:=fun a h=>by
           rcases h with h|⟨j,h⟩
           ·exact .inl h
           ·refine .inr ⟨j,?_⟩
            have hj:j∈At ix.length:=R5.sta.par.1 j a h
            rw[R5.sta.par.2 j hj]
            exact h
          exact R5.rep.mono hN hN
         have S7:=S6.withKp (kp:=kps++(acc++[v]).zip (ai++[dv])) fun p hp=>by
          rw[Kq aq,<- Am] at hp
          rcases B5.mp hp with z|z
          ·exact S6.kep p z
          ·rw[Ah.mp (show p∈[(v,dv)] from z)]
           exact hv
         refine⟨hD5,by rw[aq,Bt];exact hz,ai++[dv],δ5.take ix.length,by rw[Bf];omega,by simp[aq],?_,zAH,fun z=> ?_,hc⟩
         ·exact S7.writeZ (.inl (.inr rfl)) hD5 hD
         ·intro b o e
          have hb:b≠D:=fun z=>by rw[z,hD] at e;cases e
          rw[zAV hb]
          obtain⟨z1,z2⟩:=(A3 _ _).mp z
          exact(((bz z).trans sm).trans ((R4.pur z1).trans (R5.pur z2))) b o e
        ·cases hc
   ·have e : i = ds.length := by omega
    subst e
    rw[Dv] at hc
    cases hc
    refine .inl ⟨w.2,k D H1 ?_⟩
    have fP:Fr (OA (Oc ix O)) H0 H1:=S1.frm
    have hPO: ∀a,OA (Oc ix O) a->OA O a:=fun a q0=>by
     obtain⟨j,e⟩:=q0
     unfold Oc at e
     cases hi:ix[j]? with
     | none => rw [hi] at e;cases e
     | some i => rw [hi] at e;exact ⟨i,e⟩
    have SL:=S0.unkeep.laid (o:= .lst acc) hD
    have fL:Fr (OA (Oc ix O)) (upd H0 D (.lst acc)) H1:=fun b o e n=>by
     by_cases hb:b=D
     ·subst hb
      rw[zAH] at e
      cases e
      exact hD1
     ·rw[zAV hb] at e
      exact fP b o e n
    refine⟨SL.call (zEF) (fun i=> ?_) fL hPO,f0.trans (fP.mono hPO),fun z=> ?_,.lst hD1 (zG1 aq fun p hp=>(S1.kep p (Ay _ hp)).mono zIK zIK),S0.unkeep.new hD,S0.fresh hD⟩
    ·by_cases dq:i<δ1.length
     ·rcases zEG (ix:=ix) (ss:=δf) (δ:=δ1) i dq hlc.symm with⟨j,x,e1,e2,e3⟩|⟨e1,e2⟩
      ·have e4:(δf++nos nl)[j]? =some (.ow x):=by
        rw[A6 (A5.mp e2).1]
        exact e2
       obtain⟨a,e5,_,w⟩:=S1.ow j x e4
       refine .inr ⟨a,x,?_,e3,w.mono zIK⟩
       unfold Oc at e5
       rw[e1] at e5
       exact e5
      ·refine .inl ⟨e2,fun a ea ⟨j,ej⟩ => ?_⟩
       obtain⟨x,ex⟩:=S1.dom j a ej
       unfold Oc at ej
       cases hi:ix[j]? with
       |none=>rw[hi] at ej;cases ej
       |some i'=>
        rw[hi] at ej
        have:i=i':=S0.inj i i' a ea ej
        subst this
        have hj:j<δf.length:=by rw[hlc];exact(A5.mp hi).1
        rw[A6 hj] at ex
        exact e1 j x hi ex
     ·refine .inl ⟨?_,fun a ea => ?_⟩
      ·rw [Bp (by rw [zEF];omega),Bp (by omega)]
      ·obtain⟨x,ex⟩:=S0.dom i a ea
       exact absurd (A5.mp ex).1 dq
    ·simp only[A3] at z
     exact(p0 z.1.1).trans (bz (by simp[z.1.2,z.2]))
theorem zXF{Q:Bool->Hp->Prop}(h:TB K ml true bYes σ H Q):tYes σ H Q:=by
 obtain⟨B,O,δ,k,δ',S,q,w⟩:=h
 cases q
 exact w H (ResB.refl S)
theorem zMF{Y:Cx}{t:VB}(h:PT Y c (TB K ml pt t)):PTs Y [c] (TB K ml pt t):=zVN h
theorem zEQ{Y:Cx}:PTs Y [] (TB K ml true bYes):=fun a6 s σ H Q I hw=>zVO a6 s σ H Q I (zXF hw)
theorem zXC{Q:VK}{o:Bool}(h:TX K ml (if o then xO f else xV f) σ H Q):TN K ml pu f σ H Q:=by
 obtain⟨B,O,δ,s,δ',S,q,k⟩:=h
 have e: ∃d,f δ=some (d,δ')/\s=if o then .ow d else .va d:=by
  cases o with
  |true=>
   have q:(f δ).map (fun p=>(Sl.ow p.1,p.2))=some (s,δ'):=q
   cases h1:f δ with
   |none=>rw[h1] at q;cases q
   |some p=>rw[h1] at q;cases q;exact⟨p.1,rfl,rfl⟩
  |false=>
   have q:(f δ).map (fun p=>(Sl.va p.1,p.2))=some (s,δ'):=q
   cases h1:f δ with
   |none=>rw[h1] at q;cases q
   |some p=>rw[h1] at q;cases q;exact⟨p.1,rfl,rfl⟩
 obtain⟨d,h1,hs⟩:=e
 refine⟨B,O,δ,d,δ',S,h1,fun p H' R=> ?_⟩
 cases o with
 |true=>
  cases hs
  have w:=R.own
  cases w with
  |lst q1 r=>exact k _ H' _ (R.sta.keepV (zFX r)) (.ol q1 r.length R.nz R.h0) R.frm
  |dct q1 r=>exact k _ H' _ (R.sta.keepV (zFX r)) (.od q1 (by simpa using r.length) R.nz R.h0) R.frm
 |false=>
  cases hs
  exact k _ H' _ (R.sta.unadd.keepV (ps:=[(.ref p,d)]) fun z hz=>by
   rw[Ah.mp hz]
   exact(R.own.mono zHN).rep R.nz) .va R.frm
theorem zTY{i:Nat}{x:VX}{te:TE}(hte: ∀σ H Q,TX K ml x σ H Q->te σ H Q)(hm:i∉ml){D:Ends}(h:TSt K ml (sSet i x) D σ H):tAsg te (zTO i) D σ H:=by
 obtain⟨B,O,δ,o,S,q,k⟩:=h
 unfold sSet at q
 cases h1:x δ with
 | none => rw [h1] at q;cases q
 |some p=>
  obtain⟨s,δ1⟩:=p
  rw[h1] at q
  have q:(if i<δ1.length then some (Ou.nx (δ1.set i s)) else none)=some o:=q
  split at q
  ·rename_i hl
   cases q
   refine hte _ _ _ ⟨B,O,δ,s,δ1,S,h1,fun v H' B' S' h' f'=> ?_⟩
   obtain⟨O'',S''⟩:=h'.bind S' hm hl
   exact k _ _ _ S''
  ·cases q
end
abbrev DefV(P:Aw)(w:World)(K:Ad)(mg:Str->Option Value)(base:Heap)(x:Str)(k:Nat)(ps:List Str)(mF:List Nat)(F:VFun)(f:Addr):Prop:=Def P w K mg base x k ps (spV K mF ps.length F) f
section
variable{X:Cx}{K:Ad}{ml:List Nat}{e a b c:Expr}{es:List Expr}{pa ta ia pb tb ib pc tc ic pu bt bi ps bs:Bool}{fa fb fc f:VF}{B B':Bs}{O:Nat->Option Addr}{H H0 H1 H':Hp}{σ:St}{δ δ':Ev}{v:V}{d:Dat}{p:Addr}{pos:Pos}
theorem zBK{x:Str}(hg:Gl X x)(h: ∃u v,X.mg x=some u/\RelV v u/\ ∀N H M,Rep K N H M v d)(hd:(x==("__debug__":Str))=false:=by decide):PE X (.Name x pos) (TV K ml true true true (fC d)):=by
 obtain⟨u,v,h1,h2,h3⟩:=h
 exact ve_c (zW0 hg h1 h2 hd) h3
def zYE(K:Ad):R2:=fun x y H Q=> ∃a b xs ys,x= .ref a/\y= .ref b/\SqT K H a xs/\SqT K H b ys/\xs.length+ys.length<=sizeLine∧
 (xs=[]->Q (.ref b) H)/\(xs≠[]->ys=[]->Q (.ref a) H)/\(xs≠[]->ys≠[]-> ∀p,H p=none->Q (.ref p) (upd H p (.tup (xs++ys))))
theorem zW9:OpR X (Dz .Add) (zYE X.K):=by
 intro a6 s σ H x y v u Q I rx ry h
 obtain⟨a,b,xs,ys,rfl,rfl,ha,hb,hz,q0,q1,q2⟩:=h
 cases rx
 cases ry
 obtain⟨its,r1,p1,_⟩:=I.tuple ha
 obtain⟨dj,r2,p2,_⟩:=I.tuple hb
 by_cases hx:xs=[]
 ·subst hx
  have e0:its=[]:=r1.nil_iff.mpr rfl
  subst e0
  obtain⟨⟨cls,dd,data,sl⟩,ho,hc,n,hd⟩:=id p1
  obtain⟨⟨lx,dd2,data2,sl2⟩,ho2,hc2,n2,hd2⟩:=id p2
  simp only at hc hd hc2 hd2
  subst hc hd hc2 hd2
  exact Ht ⟨_,ho,rfl⟩ ⟨_,ho2,rfl⟩ Hd J6 Ez Er (Eh _ _)
   (tuple_addW0 a b _ dj.toArray n n2 dd dd2 sl sl2 (by simp)) ⟨ho,ho2,⟨.ref b,H,I,rfl,q0 rfl⟩⟩
 ·refine HT.zWZ p1 p2 (fun z => hx (r1.nil_iff.mp z)) (fun z => ⟨.ref a,H,I,rfl,q1 hx (r2.nil_iff.mp z)⟩) (fun z => ?_) (by rw [<- r1.length,<- r2.length];exact hz)
  refine⟨.ref s.heap.objs.size,_,I.laid (t':=s.toks) (o:= .tup (xs++ys)) (fun b ob q=>A1 _ q) (Ae _) ?_,rfl,q2 hx (fun w=>z (r2.nil_iff.mpr w)) _ (I.hok.fresh (Ae _))⟩
  exact⟨by rw[Bg];exact hz,_,r1.append r2,Gj _ _⟩
def zYD(K:Ad):R2:=fun x y H Q=> ∃l b xs zs,x= .ref l/\y= .ref b/\SqL K H l xs/\SqL K H b zs/\xs.length+zs.length<=sizeLine/\ ∀p,H p=none->Q (.ref p) (upd H p (.lst (xs++zs)))
theorem zW8:OpR X (Dz .Add) (zYD X.K):=by
 intro a6 s σ H x y v u Q I rx ry h
 obtain⟨l,b,xs,zs,rfl,rfl,hH,hB,hz,q⟩:=h
 cases rx
 cases ry
 obtain⟨its,r,p1,_⟩:=I.list hH
 obtain⟨dj,r2,p2,_⟩:=I.list hB
 obtain⟨⟨cls,dd,data,sl⟩,n,ho,hc,_,hd⟩:=id p1
 obtain⟨⟨lx,dd2,data2,sl2⟩,n2,ho2,hc2,_,hd2⟩:=id p2
 simp only at hc hd hc2 hd2
 subst hc hd hc2 hd2
 have ea:its.toArray++dj.toArray=(its++dj).toArray:=by simp
 have hl:=r.length
 have hl2:=r2.length
 refine Ht ⟨_,ho,rfl⟩ ⟨_,ho2,rfl⟩ noFill_list_add seq_list_add PySem.F.slot_list_add PySem.F.entry_list_add (PySem.F.args_list_add_2 _ _) (list_addW l b its.toArray dj.toArray n n2 dd dd2 sl sl2 (by rw[Af,Af,<- hl,<- hl2];exact hz)) ⟨ho,ho2,?_⟩
 rw[ea]
 exact⟨.ref _,_,I.lnew (t':=s.toks) (r.append r2) (by rw[Bg];omega),rfl,q _ I.fresh⟩
def zYC(K:Ad):R2:=fun x y H Q=>((rI0 (fun i j=> .int (i+j)) x y H Q∨zYE K x y H Q)∨zYD K x y H Q)∨ ∃i j,x= .str i/\y= .str j/\i.length+j.length<=sizeLine/\Q (.str (i++j)) H
theorem zDD(h:X.K=K):OpR X (Dz .Add) (zYC K):=by subst h;exact((zZ8.or zW9).or zW8).or zO8
noncomputable def zCJ:Dat->Dat->Option Dat
 | .int i,.int j=>some (.int (i+j))
 | .tup ds,.tup es=>if ds.length+es.length<=16777216 then some (.tup (ds++es)) else none
 | .lst ds,.lst es=>if ds.length+es.length<=16777216 then some (.lst (ds++es)) else none
 | .str x,.str y=>if x.length+y.length<=16777216 then some (.str (x++y)) else none
 |_,_=>none
theorem Rep.tupE{N M:Addr->Prop}{ds:List Dat}(h:Rep K N H M v (.tup ds)): ∃a xs,v= .ref a/\SqT K H a xs/\RepA K N H xs ds:=by
 cases h with
 |tup q r=>exact⟨_,_,rfl,q,r⟩
theorem Rep.lstE{N M:Addr->Prop}{ds:List Dat}(h:Rep K N H M v (.lst ds)): ∃a xs,v= .ref a/\SqL K H a xs/\RepA K N H xs ds:=by
 cases h with
 |lst q n r=>exact⟨_,_,rfl,SqL.of q,r⟩
 |fzl q r=>exact⟨_,_,rfl,q.sq,r⟩
theorem zC0:OpC K (zYC K) zCJ:=by
 intro H N M M' x y d e c Q hx hy h k
 cases d with
 |int i=>
  cases e with
  |int j=>
   cases h
   cases hx
   cases hy
   exact .inl (.inl (.inl ⟨_,_,rfl,rfl,k _ _ (Same.refl _) fun _ _=> .int _⟩))
  | _ => cases h
 |str i=>
  cases e with
  |str j=>
   simp only[zCJ] at h
   split at h
   ·cases h
    cases hx
    cases hy
    exact .inr ⟨_,_,rfl,rfl,by rw[Bt];assumption,k _ _ (Same.refl _) fun _ _=> .str _⟩
   ·cases h
  | _ => cases h
 |tup ds=>
  cases e with
  |tup es=>
   simp only[zCJ] at h
   split at h
   ·rename_i hz
    cases h
    obtain⟨a,xs,rfl,q1,r1⟩:=hx.tupE
    obtain⟨b,ys,rfl,q2,r2⟩:=hy.tupE
    refine .inl (.inl (.inr ⟨a,b,xs,ys,rfl,rfl,q1,q2,by rw[r1.length,r2.length,Bt];exact hz,fun z=> ?_,fun z1 z2=> ?_,fun z1 z2 p hp=> ?_⟩))
    ·subst z
     have:ds=[]:=Du.mp r1.length.symm
     subst this
     exact k _ _ (Same.refl _) fun M hM=> .tup q2 r2
    ·subst z2
     have:es=[]:=Du.mp r2.length.symm
     subst this
     rw[Cq] at k
     exact k _ _ (Same.refl _) fun M hM=> .tup q1 r1
    ·exact k _ _ (zA5 hp) fun M hM => .tup (SqT.of zAH) ((r1.append r2).same (zA5 hp))
   ·cases h
  | _ => cases h
 |lst ds=>
  cases e with
  |lst es=>
   simp only[zCJ] at h
   split at h
   ·rename_i hz
    cases h
    obtain⟨a,xs,rfl,q1,r1⟩:=hx.lstE
    obtain⟨b,ys,rfl,q2,r2⟩:=hy.lstE
    exact .inl (.inr ⟨a,b,xs,ys,rfl,rfl,q1,q2,by rw[r1.length,r2.length,Bt];exact hz,fun p hp=>k _ _ (zA5 hp) fun M hM=> .lst zAH (fun z=>by
     obtain⟨o,q⟩:=hM _ z
     rw[hp] at q
     cases q) ((r1.append r2).same (zA5 hp))⟩)
   ·cases h
  |_=>cases h
 |_=>cases h
def zU9:Ad->R2:=fun _=>rI CMul fun i j=> .int (i*j)
theorem zHT(h:X.K=K):OpR X (Dz .Mult) (zU9 K):=zZ6
noncomputable abbrev zGT:=oMul
theorem zF4:OpC K (zU9 K) zGT:=by
 intro H N M M' x y d e c Q hx hy h k
 exact yCM H N N M M' x y d e c Q hx hy h fun v hv=>k v H (Same.refl _) fun M _=>hv _ _ _
noncomputable def keyD:Dat->Option Key
 | .int i=>some (.inl i)
 | .str x=>some (.inr x)
 |_=>none
theorem Rep.key{N M:Addr->Prop}{k:Key}(h:Rep K N H M v d)(e:keyD d=some k):v=kV k:=by
 cases h<;>first
  |(cases e;rfl)
  |cases e
noncomputable def zB4(ks:List Key)(ds:List Dat)(k:Key):Option Dat:=match ks,ds with
 |k'::ks,d::ds=>if k'=k then some d else zB4 ks ds k
 |_,_=>none
theorem zH9{N:Addr->Prop}{k:Key}: ∀{kvs:List (Key×V)} {ds:List Dat},RepA K N H (kvs.map C2) ds→
  (∃v d,valV kvs k=some v/\zB4 (kvs.map Bh) ds k=some d/\Rep K N H N v d)∨(valV kvs k=none/\zB4 (kvs.map Bh) ds k=none)
 | [],_,.nil => .inr ⟨rfl,rfl⟩
 | (k',v) :: kvs,_,.cons h t => by
  by_cases hk:k'=k
  ·refine .inl ⟨v,_,zH6 (p:=(k',v)) hk,?_,h⟩
   simp[zB4,hk]
  ·rcases zH9 (k:=k) t with⟨v',d',h1,h2,h3⟩|⟨h1,h2⟩
   ·exact .inl ⟨v',d',(zFE (p:=(k',v)) hk).trans h1,by simpa[zB4,hk] using h2,h3⟩
   ·exact .inr ⟨(zFE (p:=(k',v)) hk).trans h1,by simpa[zB4,hk] using h2⟩
theorem yEK(hu:X.A.units+1<cLine):IxR X (fun x y H Q=> ∃a v,x= .ref a/\DGet H a y (some v)/\Q v H):=by
 intro value slice a6 s σ H x y v u Q I rx ry h hs
 obtain⟨a,w,rfl,g,q⟩:=h
 cases rx
 exact Lm (zLY I g) PySem.F.slot_dict_getitem.lookup (zRG hu I g ry fun w' s3 I3 rw'=>⟨w,H,I3,rw',q⟩) hs
def rIxA(K:Ad):R2:=fun x y H Q=>(rIx K x y H Q∨ ∃a v,x= .ref a/\DGet H a y (some v)/\Q v H)∨ ∃a k D v,x= .ref a/\y= .str k/\KTab K a D/\Dm k D=some v/\Q v H
theorem kIxA(h:X.K=K)(hu:X.A.units+1<cLine):IxR X (rIxA K):=by subst h;exact(yAY.or (yEK hu)).or zWP
noncomputable def oIxA:Dat->Dat->Option Dat
 | .tup ds,.int i=>atI ds i
 | .lst ds,.int i=>atI ds i
 | .dct ks ds,e=>(keyD e).bind (zB4 ks ds)
 | .str z,.int i=>if z.length<=16777216 then(atI z.cps.toList i).map fun c=> .str ⟨#[c]⟩ else none
 |_,_=>none
theorem zI2{N:Addr->Prop}{k:Str}: ∀{D:List (Str×V)} {ds:List Dat},RepA K N H (D.map C2) ds→
  (∃ v d,Dm k D = some v /\ zB4 (D.map fun p => .inr p.1) ds (.inr k) = some d /\ Rep K N H N v d) ∨ (Dm k D = none /\ zB4 (D.map fun p => .inr p.1) ds (.inr k) = none)
 | [],_,.nil => .inr ⟨rfl,rfl⟩
 | (k',v) :: D,_,.cons h t => by
  by_cases hk:k'=k
  ·subst hk
   exact .inl ⟨v,_,by simp[Dm],by simp[zB4],h⟩
  ·have hk2 : ¬ k = k' := fun z => hk z.symm
   rcases zI2 (k:=k) t with⟨v',d',h1,h2,h3⟩|⟨h1,h2⟩
   ·exact .inl ⟨v',d',by simpa[Dm,hk,hk2] using h1,by simpa[zB4,hk] using h2,h3⟩
   ·exact .inr ⟨by simpa[Dm,hk,hk2] using h1,by simpa[zB4,hk] using h2⟩
theorem zNA{i:Int}: ∀{D:List (Str×V)} {ds:List Dat},zB4 (D.map fun p=> .inr p.1) ds (.inl i)=none
 |[],_=>by simp[zB4]
 |_::_,[]=>by simp[zB4]
 |p::D,d::ds=>by simpa[zB4] using zNA (D:=D) (ds:=ds)
theorem yEN:OpI K (rIxA K) oIxA:=by
 intro H N N' M M' x y d e c Q hx hy h k
 have seq : ∀ ds i,seqD d = some ds -> e = .int i -> atI ds i = some c -> rIxA K x y H Q := fun ds i h1 h2 h3 => by
  subst h2
  cases hy
  obtain⟨a,xs,rfl,sq,r⟩:=hx.seq h1
  obtain⟨v,hv,rv⟩:=zX4 r h3
  rcases sq with sq|sq
  ·exact .inl (.inl (.inl ⟨a,xs,i,v,rfl,rfl,sq,hv,k v rv⟩))
  ·exact .inl (.inl (.inr (.inl ⟨a,xs,i,v,rfl,rfl,sq,hv,k v rv⟩)))
 cases d with
 |tup ds=>
  cases e with
  | int i => exact seq ds i rfl rfl h
  | _ => cases h
 |lst ds=>
  cases e with
  | int i => exact seq ds i rfl rfl h
  | _ => cases h
 |str z=>
  cases e with
  |int i=>
   simp only[oIxA] at h
   split at h
   ·cases hc:atI z.cps.toList i with
    | none => rw [hc] at h;cases h
    |some ch=>
     rw[hc] at h
     cases h
     cases hx
     cases hy
     exact .inl (.inl (.inr (.inr ⟨z,i,ch,rfl,rfl,by rw[Bt];assumption,hc,k _ (.str _)⟩)))
   ·cases h
  | _ => cases h
 |dct ks ds=>
  simp only[oIxA] at h
  cases hk:keyD e with
  | none => rw [hk] at h;cases h
  |some kk=>
   rw[hk] at h
   have h:zB4 ks ds kk=some c:=h
   have ey:=hy.key hk
   subst ey
   cases hx with
   |dct q n r=>
    rcases zH9 (k:=kk) r with⟨v,d',h1,h2,h3⟩|⟨h1,h2⟩
    ·rw[h] at h2
     cases h2
     exact .inl (.inr ⟨_,v,rfl,h1▸DGet.k q,k v h3⟩)
    ·rw[h] at h2;cases h2
   |ktb T r=>
    cases kk with
    | inl i => rw [zNA] at h;cases h
    |inr x=>
     rcases zI2 (k:=x) r with⟨v,d',h1,h2,h3⟩|⟨h1,h2⟩
     ·rw[h] at h2
      cases h2
      exact .inr ⟨_,x,_,v,rfl,rfl,T,h1,k v h3⟩
     ·rw[h] at h2;cases h2
 |_=>cases h
noncomputable def ownD(δ:Ev)(i:Nat):Option (List Key×List Dat):=match δ[i]? with
 |some (.ow (.dct ks ds))=>some (ks,ds)
 |_=>none
theorem zFJ{i:Nat}{ks:List Key}{ds:List Dat}(h:ownD δ i=some (ks,ds)):δ[i]? =some (.ow (.dct ks ds)):=by
 unfold ownD at h
 split at h
 ·cases h;assumption
 ·cases h
noncomputable def zNL(i:Nat)(fk fx:VF):VF:=fun δ=>(ownD δ i).bind fun _=>(fk δ).bind fun p=>(fx p.2).bind fun q=>(keyD p.1).bind fun k=>(ownD q.2 i).map fun z=>((zB4 z.1 z.2 k).getD q.1,q.2)
theorem zS7{i:Nat}{fk fx:VF}{aj a8:Pos}(hu:X.A.units+1<cLine)(ho:PE X a (tVar i))(hk:PE X b (TV K ml pa ta ia fk))(hx:PE X c (TV K ml pb true true fx))(m:M2 X a "get" aj b c a8):
  PE X (.Call (.Attribute a "get" aj) [b,c] [] a8) (TV K ml (pa && pb) true true (zNL i fk fx)) := (zT2 hu ho hk hx m).imp fun σ H Q ⟨B,O,δ,d,δ3,S,q,k⟩ => by
 unfold zNL at q
 cases h0:ownD δ i with
 | none => rw [h0] at q;cases q
 |some z0=>
  obtain⟨ks0,ds0⟩:=z0
  rw[h0] at q
  cases h1:fk δ with
  | none => simp [h1] at q
  |some p1=>
   obtain⟨y,δ1⟩:=p1
   simp only[Aa,h1] at q
   cases h2:fx δ1 with
   | none => simp [h2] at q
   |some p2=>
    obtain⟨z,δ2⟩:=p2
    simp only[Aa,h2] at q
    cases h3:keyD y with
    | none => simp [h3] at q
    |some kk=>
     simp only[Aa,h3] at q
     cases h4:ownD δ2 i with
     | none => simp [h4] at q
     |some zz=>
      obtain⟨ks,ds⟩:=zz
      simp only[h4] at q
      cases q
      obtain⟨l,e1,e2,w⟩:=S.ow i _ (zFJ h0)
      refine⟨.ref l,e2,l,rfl,?_,B,O,δ,y,δ1,S,h1,fun v1 H1 R1=>⟨B,O,δ1,z,_,R1.sta,h2,fun v2 H2 R2=> ?_⟩⟩
      ·generalize hw:Dat.dct ks0 ds0=dd at w
       cases w with
       |lst _ _=>cases hw
       |dct q _=>exact .inl ⟨_,.inl q⟩
      ·have ey:=R1.rep.key h3
       subst ey
       obtain⟨l',e3,_,w2⟩:=R2.sta.ow i _ (zFJ h4)
       rw[e1] at e3
       cases e3
       have fin: ∀o,Rep K (Nn B O) H2 (Nn B O) (o:V) ((zB4 ks ds kk).getD z)->Q o H2:=fun o ho=>k o H2 ⟨R2.sta,R1.frm.trans R2.frm,fun z=>by
        obtain⟨z1,z2⟩:=(A3 _ _).mp z
        exact(R1.pur z1).trans (R2.pur z2),ho⟩
       generalize hw:Dat.dct ks ds=dd at w2
       cases w2 with
       |lst _ _=>cases hw
       |dct q r=>
        cases hw
        refine⟨_,DGet.k q,fin _ ?_⟩
        rcases zH9 (k:=kk) r with⟨v,d',g1,g2,g3⟩|⟨g1,g2⟩
        ·rw[g1,g2];exact g3
        ·rw[g1,g2];exact R2.rep
noncomputable def zDV:List Key->List Dat->Key->Dat->List Key×List Dat
 |k'::ks,d::ds,k,v=>if k'=k then(k'::ks,v::ds) else let r:=zDV ks ds k v;(k'::r.1,d::r.2)
 |_,_,k,v=>([k],[v])
noncomputable def zPM(i:Nat)(fk fv:VF):VS:=fun δ=>(fv δ).bind fun p=>(ownD p.2 i).bind fun _=>(fk p.2).bind fun q=>(keyD q.1).bind fun k=>(ownD q.2 i).bind fun z=>if z.1.length<16777216/\z.1.Nodup then some (.nx (q.2.set i (.ow (let r:=zDV z.1 z.2 k p.1;.dct r.1 r.2)))) else none
theorem zKE{N:Addr->Prop}{k:Key}{v:V}(h:Rep K N H N v d): ∀{kvs:List (Key×V)} {ds:List Dat},(kvs.map Bh).Nodup->RepA K N H (kvs.map C2) ds→
  (putK kvs k v).map Bh=(zDV (kvs.map Bh) ds k d).1/\RepA K N H ((putK kvs k v).map C2) (zDV (kvs.map Bh) ds k d).2
 | [],_,_,.nil => ⟨rfl,.cons h .nil⟩
 | (k',u) :: kvs,_,nd,.cons hu t => by
  obtain⟨n1,n2⟩:=Bv.mp nd
  by_cases hk:k'=k
  ·subst hk
   have e:putK ((k',u)::kvs) k' v=(k',v)::kvs:=by
    unfold putK
    rw[if_pos (by simp)]
    simp only[An,if_true]
    congr 1
    refine(G0 fun p hp=> ?_).trans (List.map_id _)
    have:p.1≠k':=fun z=>n1 (By.mpr ⟨p,hp,z⟩)
    simp[this]
   rw[e]
   exact⟨by simp[zDV],by simpa[zDV] using RepA.cons h t⟩
  ·obtain⟨h1,h2⟩:=zKE (k:=k) h n2 t
   have e:putK ((k',u)::kvs) k v=(k',u)::putK kvs k v:=by
    unfold putK
    simp only[Fg,hk,decide_false,Ln]
    split
    ·simp[hk]
    ·rfl
   rw[e]
   exact⟨by simpa[zDV,hk] using h1,by simpa[zDV,hk] using RepA.cons hu h2⟩
theorem zKC{N:Addr->Prop}{l:Addr}{o:HO}{xs:List V}{ds:List Dat}{kvs:List (Key×V)}(ho:H l=some (.dK kvs))(hN:N l)(h:RepA K N H xs ds):RepA K N (upd H l o) xs ds:=
 h.fr (P:=fun b=>b=l) (fun b u q n=>by
  by_cases hb:b=l
  ·subst hb
   rw[ho] at q
   cases q
   exact absurd (n rfl) fun z=>z
  ·rw[zAV hb]
   exact q) fun a z=>z▸hN
theorem zOQ{i:Nat}{fk fv:VF}{ap:Pos}(hu:X.A.units+1<cLine)(ho:PE X a (tVar i))(hk:PE X b (TV K ml pa ta ia fk))(hv:PE X c (TV K ml pb true true fv))(hs:El c (some (.Subscript a b ap)) pos.line X.env=pure false):
  PS X (.Assign [.Subscript a b ap] c pos) (TSt K ml (zPM i fk fv)) := (zVR hu ho hk hv hs).imp fun D σ H ⟨B,O,δ,o,S,q,k⟩ => by
 unfold zPM at q
 cases h1:fv δ with
 | none => rw [h1] at q;cases q
 |some p1=>
  obtain⟨z,δ1⟩:=p1
  rw[h1] at q
  have q : ((ownD δ1 i).bind fun _ => (fk δ1).bind fun q => (keyD q.1).bind fun k => (ownD q.2 i).bind fun z_1 => if z_1.1.length < 16777216 /\ z_1.1.Nodup then some (Ou.nx (q.2.set i (.ow (let r := zDV z_1.1 z_1.2 k z;.dct r.1 r.2)))) else none) = some o := q
  cases h0:ownD δ1 i with
  | none => rw [h0] at q;cases q
  |some z0=>
  obtain⟨ks0,ds0⟩:=z0
  rw[h0] at q
  cases h2:fk δ1 with
  | none => simp [h2] at q
  |some p2=>
   obtain⟨y,δ2⟩:=p2
   simp only[Aa,h2] at q
   cases h3:keyD y with
   | none => simp [h3] at q
   |some kk=>
    simp only[Aa,h3] at q
    cases h4:ownD δ2 i with
    | none => simp [h4] at q
    |some zz=>
     obtain⟨ks,ds⟩:=zz
     simp only[h4,Aa] at q
     split at q
     ·rename_i hz
      cases q
      refine⟨B,O,δ,z,δ1,S,h1,fun v1 H1 R1=> ?_⟩
      obtain⟨l,e1,e2,_⟩:=R1.sta.ow i _ (zFJ h0)
      refine⟨.ref l,e2,B,O,δ1,y,δ2,R1.sta,h2,fun v2 H2 R2=> ?_⟩
      have ey:=R2.rep.key h3
      subst ey
      obtain⟨l',e3,_,w2⟩:=R2.sta.ow i _ (zFJ h4)
      rw[e1] at e3
      cases e3
      generalize hw:Dat.dct ks ds=dd at w2
      cases w2 with
      |lst _ _=>cases hw
      |dct qd r=>
       cases hw
       have rv:=R1.rep.fr R2.frm (fun a z=> .inr z) fun a z=> .inr z
       obtain⟨g1,g2⟩:=zKE (k:=kk) rv hz.2 r
       refine⟨l,_,rfl,DPut.k qd (by rw[Bt];simpa using hz.1),k σ _ O (R2.sta.wrote e1 (fun z=>z) ?_)⟩
       have w:Own K (Nn B O) (upd H2 l (.dK (putK _ kk v1))) l (.dct ((putK _ kk v1).map Bh) _):= .dct zAH (zKC qd (.inr ⟨i,e1⟩) g2)
       rw[g1] at w
       exact w
     ·cases q
end
section
variable{X:Cx}{K:Ad}{ml:List Nat}{e a b c:Expr}{es:List Expr}{pa ta ia pb tb ib pc tc ic pu bt bi ps bs:Bool}{fa fb fc f:VF}{B B':Bs}{O:Nat->Option Addr}{H H0 H1 H':Hp}{σ:St}{δ δ':Ev}{v:V}{d:Dat}{p:Addr}{pos:Pos}
def yC5(i j k:Nat)(ta:TA):TS:=fun D σ H=>ta σ H fun vs H1=> ∃v w u,vs=[v,w,u]/\D.nx (((σ.set i (some v)).set j (some w)).set k (some u)) H1
theorem zVQ{i j k:Nat}{x y z:Str}{a b c:Expr}{ta:TA}{px py pz pt:Pos}{kt k2 pt2}(hc:X.calm=true)(hN:X.N.Nodup)(hi:X.N[i]? =some x)(hj:X.N[j]? =some y)(hk:X.N[k]? =some z)(hij:i≠j)(hik:i≠k)(hjk:j≠k)
  (hx:X.env.scope.names.lookup x=some .local) (hy:X.env.scope.names.lookup y=some .local) (hz:X.env.scope.names.lookup z=some .local) (ha:PA X [a,b,c] ta)
  (hw:D5 [.Tuple [.Name x px,.Name y py,.Name z pz] kt pt] (.Tuple [a,b,c] k2 pt2) X.env=pure (some [x,y,z]))
  (hs : D4 [.Tuple [.Name x px,.Name y py,.Name z pz] kt pt] (.Tuple [a,b,c] k2 pt2) pos.line X.env = pure false := by rfl) :
  PS X (.Assign [.Tuple [.Name x px,.Name y py,.Name z pz] kt pt] (.Tuple [a,b,c] k2 pt2) pos) (yC5 i j k ta):=by
 intro a6 s σ H D I h
 rw[exec_Assign_arm]
 refine A0 (E7 ?_)
 rw[hs]
 refine A0 (A9 ?_)
 rw [if_neg (by decide)]
 refine A0 (Tuple_ (thn (ha _ a6 s σ H _ I h) fun us s1 ⟨vs,H1,I1,r1,q1⟩=> ?_))
 obtain⟨v,w,u,e1,q1⟩:=q1
 subst e1
 obtain⟨u1,u2,u3,rfl,rv,rw',ru⟩: ∃u1 u2 u3,us=[u1,u2,u3]/\RelV v u1/\RelV w u2/\RelV u u3:=by
  cases r1 with
  |cons p q=>
   cases q with
   |cons p' q'=>
    cases q' with
    |cons p'' q''=>
     cases q''
     exact⟨_,_,_,rfl,p,p',p''⟩
 refine C6 ?_ (by show 3<=sizeLine;decide)
 have I2:Inv X a6 σ H1 {s1 with heap:=s1.heap.push {cls:= .type "tuple",data:= .seq [u1,u2,u3].toArray}}:=I1.kept (t':=s1.toks) fun b o e=>A1 _ e
 rw[hw]
 refine A0 (A9 ?_)
 show wpAny (model X.prog X.w) X.A (do rule "assign.swapped-stores";let items<- Fp (.ref s1.heap.objs.size) 3 none;assignInOrder [fun v=>Ff X.env z v,fun v=>Ff X.env y v,fun v=>Ff X.env x v] items.reverse;pure Flow.next) _ _ _
 refine A0 (F3 (A0 (Jh (items:= #[u1,u2,u3]) (I.ok.hd hc) (Gj s1.heap _) fun h' hx'=> ?_)))
 have I3:=I2.kept (h':=h') (t':=s1.toks) fun b o e=>hx' b o (Au (Ac e)) e
 show wpAny _ _ (assignInOrder [fun v=>Ff X.env z v,fun v=>Ff X.env y v,fun v=>Ff X.env x v] [u3,u2,u1]>>=fun _=>pure Flow.next) _ _ _
 refine A0 (Ck (Fb (zD1 I3 hN hk (.inl hz) ru (fun s2 I4=> ?_) (.inr hz))))
 refine Ck (Fb (zD1 I4 hN hj (.inl hy) rw' (fun s3 I5=> ?_) (.inr hy)))
 refine Ck (Fb (zD1 I5 hN hi (.inl hx) rv (fun s4 I6=>F2 (A9 ?_)) (.inr hx)))
 rw[Cm _ _ (C9 hij),Cm _ _ (C9 hik),Cm _ _ (C9 hjk)] at I6
 exact⟨_,H1,I6,q1⟩
noncomputable def zLI(i j k:Nat)(x y z:VX):VS:=fun δ=>(x δ).bind fun p=>(y p.2).bind fun q=>(z q.2).bind fun r=>if i<r.2.length/\j<r.2.length/\k<r.2.length then some (.nx (((r.2.set k r.1).set j q.1).set i p.1)) else none
theorem zKB{i j k:Nat}{x y z:VX}{o:Ou}(h:zLI i j k x y z δ=some o): ∃s1 δ1 s2 δ2 s3 δ3,x δ=some (s1,δ1)/\y δ1=some (s2,δ2)/\z δ2=some (s3,δ3)/\(i<δ3.length/\j<δ3.length/\k<δ3.length)/\o= .nx (((δ3.set k s3).set j s2).set i s1):=by
 unfold zLI at h
 cases h1:x δ with
 | none => rw [h1] at h;cases h
 |some p=>
  rw[h1] at h
  cases h2:y p.2 with
  | none => simp [h2] at h
  |some q=>
   simp only[Aa,h2] at h
   cases h3:z q.2 with
   | none => simp [h3] at h
   |some r=>
    simp only[Aa,h3] at h
    split at h
    ·cases h
     exact⟨p.1,p.2,q.1,q.2,r.1,r.2,rfl,h2,h3,by assumption,rfl⟩
    ·cases h
theorem zV1{i j k:Nat}{x y z:Str}{fx fy fz:VX}{px py pz pt:Pos}{kt k2 pt2}(hc:X.calm=true)(hN:X.N.Nodup)(hi:X.N[i]? =some x)(hj:X.N[j]? =some y)(hk:X.N[k]? =some z)(hij:i≠j)(hik:i≠k)(hjk:j≠k)
  (hx:X.env.scope.names.lookup x=some .local) (hy:X.env.scope.names.lookup y=some .local) (hz:X.env.scope.names.lookup z=some .local) (ha:PE X a (TX K ml fx)) (hb:PE X b (TX K ml fy)) (hcc:PE X c (TX K ml fz))
  (hw:D5 [.Tuple [.Name x px,.Name y py,.Name z pz] kt pt] (.Tuple [a,b,c] k2 pt2) X.env=pure (some [x,y,z])) (hmi:i∉ml:=by decide) (hmj:j∉ml:=by decide) (hmk:k∉ml:=by decide)
  (hs:D4 [.Tuple [.Name x px,.Name y py,.Name z pz] kt pt] (.Tuple [a,b,c] k2 pt2) pos.line X.env=pure false:=by rfl)
  (he:A2 (a::[b,c]) X.env=(false,eval a X.env)::A2 [b,c] X.env:=by rfl) (he2:A2 (b::[c]) X.env=(false,eval b X.env)::A2 [c] X.env:=by rfl) (he3:A2 (c::[]) X.env=(false,eval c X.env)::A2 [] X.env:=by rfl):
  PS X (.Assign [.Tuple [.Name x px,.Name y py,.Name z pz] kt pt] (.Tuple [a,b,c] k2 pt2) pos) (TSt K ml (zLI i j k fx fy fz)):=(zVQ hc hN hi hj hk hij hik hjk hx hy hz (zAO ha (zAO hb (zAO hcc zBT he3) he2) he) hw hs).imp fun D σ H ⟨B,O,δ,o,S,q,k⟩=>by
 obtain⟨s1,δ1,s2,δ2,s3,δ3,h1,h2,h3,hl,rfl⟩:=zKB q
 refine⟨B,O,δ,s1,δ1,S,h1,fun v H1 B1 S1 w1 f1=>⟨B1,O,δ1,s2,δ2,S1,h2,fun v2 H2 B2 S2 w2 f2=>⟨B2,O,δ2,s3,δ3,S2,h3,fun v3 H3 B3 S3 w3 f3=>⟨v,v2,v3,rfl,?_⟩⟩⟩⟩
 obtain⟨O4,S4⟩:=w3.bind S3 hmk hl.2.2
 obtain⟨O5,S5⟩:=(w2.fr f3).bind S4 hmj (by rw[B9];exact hl.2.1)
 obtain⟨O6,S6⟩:=((w1.fr f2).fr f3).bind S5 hmi (by rw[B9,B9];exact hl.1)
 rw[Cm _ _ (C9 hij),Cm _ _ (C9 hik),Cm _ _ (C9 hjk)] at S6
 exact k _ _ _ S6
theorem zUY{i j k:Nat}{x y z:Str}{fx fy fz:VX}{px py pz pt:Pos}{kt k2 pt2}(hK:X.K=K)(hc:X.calm=true)(hN:X.N.Nodup)(hi:X.N[i]? =some x)(hj:X.N[j]? =some y)(hk:X.N[k]? =some z)(hij:i≠j)(hik:i≠k)(hjk:j≠k)
  (hx:Loc X.env.scope x) (hy:Loc X.env.scope y) (hz:Loc X.env.scope z) (ha:PE X a (TX K ml fx)) (hb:PE X b (TX K ml fy)) (hcc:PE X c (TX K ml fz))
  (hmi:i∉ml:=by decide) (hmj:j∉ml:=by decide) (hmk:k∉ml:=by decide)
  (hs:D4 [.Tuple [.Name x px,.Name y py,.Name z pz] kt pt] (.Tuple [a,b,c] k2 pt2) pos.line X.env=pure false:=by rfl)
  (hw:D5 [.Tuple [.Name x px,.Name y py,.Name z pz] kt pt] (.Tuple [a,b,c] k2 pt2) X.env=pure none:=by rfl)
  (hn:(assignEach [.Name x px,.Name y py,.Name z pz] X.env).length=3:=by rfl) (hst:(assignEach [.Name x px,.Name y py,.Name z pz] X.env).findIdx? (·.1)=none:=by rfl)
  (g1:(assignEach [.Name x px,.Name y py,.Name z pz] X.env).map (·.2)=assign (.Name x px) X.env::(assignEach [.Name y py,.Name z pz] X.env).map (·.2):=by rfl)
  (g2:(assignEach [.Name y py,.Name z pz] X.env).map (·.2)=assign (.Name y py) X.env::(assignEach [.Name z pz] X.env).map (·.2):=by rfl)
  (g3:(assignEach [.Name z pz] X.env).map (·.2)=assign (.Name z pz) X.env::(assignEach [] X.env).map (·.2):=by rfl)
  (fx':X.fn x=true∨X.env.scope.names.lookup x=some .local:=by first|exact .inl rfl|exact .inr rfl|assumption) (fy':X.fn y=true∨X.env.scope.names.lookup y=some .local:=by first|exact .inl rfl|exact .inr rfl|assumption) (fz':X.fn z=true∨X.env.scope.names.lookup z=some .local:=by first|exact .inl rfl|exact .inr rfl|assumption)
  (h1:(assignEach [.Tuple [.Name x px,.Name y py,.Name z pz] kt pt] X.env).map (·.2)=[assign (.Tuple [.Name x px,.Name y py,.Name z pz] kt pt) X.env]:=by rfl)
  (he:A2 (a::[b,c]) X.env=(false,eval a X.env)::A2 [b,c] X.env:=by rfl) (he2:A2 (b::[c]) X.env=(false,eval b X.env)::A2 [c] X.env:=by rfl) (he3:A2 (c::[]) X.env=(false,eval c X.env)::A2 [] X.env:=by rfl):
  PS X (.Assign [.Tuple [.Name x px,.Name y py,.Name z pz] kt pt] (.Tuple [a,b,c] k2 pt2) pos) (TSt K ml (zLI i j k fx fy fz)):=
 (zKF (zQC (zAO ha (zAO hb (zAO hcc zBT he3) he2) he)) (zWM (K := K) hK hc (zEI (zG2 hN hi hx fx') (zEI (zG2 hN hj hy fy') (zEI (zG2 hN hk hz fz') zLL g3) g2) g1) hn hst) hs hw h1).imp fun D σ H q0 => by
  obtain⟨B,O,δ,o,S,q,k⟩:=q0
  obtain⟨s1,δ1,s2,δ2,s3,δ3,h1,h2,h3,hl,rfl⟩:=zKB q
  refine⟨B,O,δ,s1,δ1,S,h1,fun v H1 B1 S1 w1 f1=>⟨B1,O,δ1,s2,δ2,S1,h2,fun v2 H2 B2 S2 w2 f2=>⟨B2,O,δ2,s3,δ3,S2,h3,fun v3 H3 B3 S3 w3 f3=>⟨(by show 3<=sizeLine;decide),fun p hp=>⟨p,_,rfl,SqT.of zAH,rfl,v,_,rfl,v2,_,rfl,v3,_,rfl,rfl,?_⟩⟩⟩⟩⟩
  have f4:Fr (OA O) H3 (upd H3 p (.tup [v,v2,v3])):=(zA5 hp).fr
  obtain⟨O4,S4⟩:=(w3.fr f4).bind (S3.same (zA5 hp)) hmk hl.2.2
  obtain⟨O5,S5⟩:=((w2.fr f3).fr f4).bind S4 hmj (by rw[B9];exact hl.2.1)
  obtain⟨O6,S6⟩:=(((w1.fr f2).fr f3).fr f4).bind S5 hmi (by rw[B9,B9];exact hl.1)
  rw[Cm _ _ (C9 hij),Cm _ _ (C9 hik),Cm _ _ (C9 hjk)] at S6
  exact k _ _ _ S6
theorem zUZ{i j:Nat}{x y:Str}{fx fy:VX}{px py pt:Pos}{kt k2 pt2}(hK:X.K=K)(hc:X.calm=true)(hN:X.N.Nodup)(hi:X.N[i]? =some x)(hj:X.N[j]? =some y)(hij:i≠j)
  (hx:Loc X.env.scope x) (hy:Loc X.env.scope y) (ha:PE X a (TX K ml fx)) (hb:PE X b (TX K ml fy))
  (hmi : i ∉ ml := by decide) (hmj : j ∉ ml := by decide)
  (hs : D4 [.Tuple [.Name x px,.Name y py] kt pt] (.Tuple [a,b] k2 pt2) pos.line X.env = pure false := by rfl)
  (hw : D5 [.Tuple [.Name x px,.Name y py] kt pt] (.Tuple [a,b] k2 pt2) X.env = pure none := by rfl)
  (hn : (assignEach [.Name x px,.Name y py] X.env).length = 2 := by rfl) (hst : (assignEach [.Name x px,.Name y py] X.env).findIdx? (·.1) = none := by rfl)
  (g1 : (assignEach [.Name x px,.Name y py] X.env).map (·.2) = assign (.Name x px) X.env :: (assignEach [.Name y py] X.env).map (·.2) := by rfl)
  (g2 : (assignEach [.Name y py] X.env).map (·.2) = assign (.Name y py) X.env :: (assignEach [] X.env).map (·.2) := by rfl)
  (fx' : X.fn x = true ∨ X.env.scope.names.lookup x = some .local := by first | exact .inl rfl | exact .inr rfl | assumption) (fy' : X.fn y = true ∨ X.env.scope.names.lookup y = some .local := by first | exact .inl rfl | exact .inr rfl | assumption)
  (h1 : (assignEach [.Tuple [.Name x px,.Name y py] kt pt] X.env).map (·.2) = [assign (.Tuple [.Name x px,.Name y py] kt pt) X.env] := by rfl)
  (he : A2 (a :: [b]) X.env = (false,eval a X.env) :: A2 [b] X.env := by rfl) (he2 : A2 (b :: []) X.env = (false,eval b X.env) :: A2 [] X.env := by rfl) :
  PS X (.Assign [.Tuple [.Name x px,.Name y py] kt pt] (.Tuple [a,b] k2 pt2) pos) (TSt K ml (zLJ i j fx fy)):=
 (zKF (zQC (zAO ha (zAO hb zBT he2) he)) (zWM (K := K) hK hc (zEI (zG2 hN hi hx fx') (zEI (zG2 hN hj hy fy') zLL g2) g1) hn hst) hs hw h1).imp fun D σ H q0 => by
  obtain⟨B,O,δ,o,S,q,k⟩:=q0
  unfold zLJ at q
  cases h1:fx δ with
  | none => rw [h1] at q;cases q
  |some p=>
   obtain⟨s,δ1⟩:=p
   rw[h1] at q
   cases h2:fy δ1 with
   | none => simp [h2] at q
   |some p2=>
    obtain⟨s2,δ2⟩:=p2
    simp only[Aa,h2] at q
    split at q
    ·rename_i hl
     cases q
     refine⟨B,O,δ,s,δ1,S,h1,fun v H1 B1 S1 w1 f1=>⟨B1,O,δ1,s2,δ2,S1,h2,fun v2 H2 B2 S2 w2 f2=>⟨(by show 2<=sizeLine;decide),fun p hp=>⟨p,_,rfl,SqT.of zAH,rfl,v,_,rfl,v2,_,rfl,rfl,?_⟩⟩⟩⟩
     have f4:Fr (OA O) H2 (upd H2 p (.tup [v,v2])):=(zA5 hp).fr
     obtain⟨O3,S3⟩:=(w2.fr f4).bind (S2.same (zA5 hp)) hmj hl.2
     obtain⟨O4,S4⟩:=((w1.fr f2).fr f4).bind S3 hmi (by rw[B9];exact hl.1)
     rw[Cm _ _ (C9 hij)] at S4
     exact k _ _ _ S4
    ·cases q
noncomputable def zPJ(i:Nat)(fi fv:VF):VS:=fun δ=>(fv δ).bind fun p=>(ownL p.2 i).bind fun _=>(fi p.2).bind fun q=>(ownL q.2 i).bind fun ds=>match q.1 with
 | .int k=>(ixN ds.length k).map fun j=> .nx (q.2.set i (.ow (.lst (ds.set j p.1))))
 |_=>none
theorem zTW{i:Nat}{fi fv:VF}{ap:Pos}(hK:X.K=K)(ho:PE X a (tVar i))(hi:PE X b (TV K ml pa ta ia fi))(hv:PE X c (TV K ml pb true true fv))
  (ha: ∀v,assign (.Subscript a b ap) X.env v=(do
   let ov<- Iq [v] (eval a X.env)
   let iv<- Iq [v,ov] (eval b X.env)
   standAt ap
   Iq [v,ov,iv] (setItem ov iv v)
   release [v,ov,iv] []):=by intro _;rfl)
  (hs : D4 [.Subscript a b ap] c pos.line X.env = pure false := by rfl) (hw : D5 [.Subscript a b ap] c X.env = pure none := by rfl)
  (h1 : (assignEach [.Subscript a b ap] X.env).map (·.2) = [assign (.Subscript a b ap) X.env] := by rfl) : PS X (.Assign [.Subscript a b ap] c pos) (TSt K ml (zPJ i fi fv)) :=
 (zKF hv (zYV ho hi zSM ha) hs hw h1).imp fun D σ H q0 => by
  obtain⟨B,O,δ,o,S,q,k⟩:=q0
  unfold zPJ at q
  cases h1:fv δ with
  | none => rw [h1] at q;cases q
  |some p1=>
   obtain⟨z,δ1⟩:=p1
   rw[h1] at q
   cases h0:ownL δ1 i with
   | none => simp [h0] at q
   |some ds0=>
    simp only[Aa,h0] at q
    cases h2:fi δ1 with
    | none => simp [h2] at q
    |some p2=>
     obtain⟨y,δ2⟩:=p2
     simp only[Aa,h2] at q
     cases h4:ownL δ2 i with
     | none => simp [h4] at q
     |some ds=>
      simp only[h4,Aa] at q
      cases y with
      |int kk=>
       have q:((ixN ds.length kk).map fun j=>Ou.nx (δ2.set i (.ow (.lst (ds.set j z)))))=some o:=q
       cases h5:ixN ds.length kk with
       | none => rw [h5] at q;cases q
       |some j=>
        rw[h5] at q
        cases q
        refine⟨B,O,δ,z,δ1,S,h1,fun v1 H1 R1=> ?_⟩
        obtain⟨l,e1,e2,_⟩:=R1.sta.ow i _ (zFI h0)
        refine⟨.ref l,e2,B,O,δ1,_,δ2,R1.sta,h2,fun v2 H2 R2=> ?_⟩
        have ey:v2= .int kk:=by
         have r:=R2.rep
         cases r
         rfl
        subst ey
        obtain⟨l',e3,_,w2⟩:=R2.sta.ow i _ (zFI h4)
        rw[e1] at e3
        cases e3
        cases w2 with
        |lst hl r=>
         have rv:=R1.rep.fr R2.frm (fun a z=> .inr z) fun a z=> .inr z
         refine⟨l,_,kk,j,rfl,rfl,hl,by rw[r.length];exact h5,k σ _ O (R2.sta.wrote e1 (fun z=>z) (.lst zAH (zHJ (ys:=[]) hl (.inr ⟨i,e1⟩) (r.set rv j))))⟩
      |_=>cases q
end
section
variable{prog:Aw}{w:World}{A:C3}{E:Value->A7->Prop}{s:A7}
theorem zFL{it t:Addr}{i:Nat}{items:Array Value}{x:Value}{Q:Value->A7->Prop}(hit:s.heap.IsTupleIter it t i)(ht:s.heap.IsTuple t items)(hx:items[i]? =some x)
  (hQ: ∀h',h'.IsTupleIter it t (i+1)->Dt it s.heap h'->Q x {s with heap:=h'}):wpAny (model prog w) A (B8 (.ref it)) Q E s:=by
 obtain⟨oi,g1,c1,d1⟩:=id hit
 obtain⟨ot,g2,_,nt,d2⟩:=ht
 unfold B8
 refine A0 (C8 (name:=Av "__next__") hit.typeIs Dd (Cv Dd hit.typeIs G1 ?_ (Fh _)))
 show wpAny _ _ (field (Ax it) 0>>=_) _ _ s
 refine A0 (Cs g1 d1 (x:= .ref t) rfl ?_)
 show wpAny _ _ (if(Ax t== .none)=true then _ else _) _ _ s
 rw[if_neg (show¬(Ax t==Value.none)=true from Cn)]
 show wpAny _ _ (field (Ax it) 1>>=_) _ _ s
 refine A0 (Cs g1 d1 (x:= .int i 0) rfl ?_)
 show wpAny _ _ (seqItems? (Ax t)>>=_) _ _ s
 refine A0 (D6 g2 d2 ?_)
 simp only[hx,F5]
 refine A0 (wpAny_setField g1 d1 (by simp) (A9 ⟨x,rfl,A9 (hQ _ ⟨_,Hu _ g1 (Obj.isFreed_of_fields (J9 d1 _)),(Obj.cls_mapFields ..).trans c1,?_⟩ (Iz ..))⟩))
 rw[J9 d1]
 simp[rawInt]
theorem zGU{it t:Addr}{i:Nat}{items:Array Value}{Q:Value->A7->Prop}(hh:A.handled=none)(hit:s.heap.IsTupleIter it t i)(ht:s.heap.IsTuple t items)(hx:items[i]? =none)
  (hE: ∀h' e,Fz it s.heap h'->(∃o,h'.get? e=some o/\o.cls= .type "StopIteration")->E (.ref e) {s with heap:=h'}):wpAny (model prog w) A (B8 (.ref it)) Q E s:=by
 obtain⟨oi,g1,c1,d1⟩:=id hit
 obtain⟨ot,g2,_,nt,d2⟩:=ht
 unfold B8
 refine A0 (C8 (name:=Av "__next__") hit.typeIs Dd (Cv Dd hit.typeIs G1 ?_ (Fh _)))
 show wpAny _ _ (field (Ax it) 0>>=_) _ _ s
 refine A0 (Cs g1 d1 (x:= .ref t) rfl ?_)
 show wpAny _ _ (if(Ax t== .none)=true then _ else _) _ _ s
 rw[if_neg (show¬(Ax t==Value.none)=true from Cn)]
 show wpAny _ _ (field (Ax it) 1>>=_) _ _ s
 refine A0 (Cs g1 d1 (x:= .int i 0) rfl ?_)
 show wpAny _ _ (seqItems? (Ax t)>>=_) _ _ s
 refine A0 (D6 g2 d2 ?_)
 simp only[hx,F5]
 refine A0 (F3 (A0 (wpAny_setField g1 d1 (by simp) ?_)))
 show wpAny _ _ (newExc (Gi "StopIteration") []>>=_) _ _ _
 refine A0 ?_
 unfold newExc newTuple
 refine A0 (C6 ?_ (by size_fits))
 refine A0 (m:=firstArgMember _ _) (wpAny_of_eq (a:=Value.none) (by first|rfl|(unfold firstArgMember;rfl)) (C6 ?_ (by size_fits)))
 unfold raiseNew
 refine A0 (wpAny_handled ?_)
 first|rw[hh]|rw[show A.in1.handled=none from hh]
 refine A0 (A9 (wpAny_throw (hE _ _ (((Iz ..).extBut.push _).push _) ⟨_,Ai _ rfl,rfl⟩)))
end
theorem zRC{prog:Aw}{w:World}{A:C3}(hh:A.handled=none)(it t:Addr)(hne:t≠it)(items:Array Value):
  Draws prog w A it [it,t] items.size (fun i v=>items[i]? =some v) (fun i h=>h.IsTupleIter it t i/\h.IsTuple t items) where
 live:=fun _ _ st=>let ⟨o,ho,_⟩:=st.1;⟨o,ho⟩
 frame:=fun _ _ _ st hk=>⟨st.1.at fun o e=>hk it (by simp) o e,by obtain⟨o,ho,r⟩:=st.2;exact⟨o,hk t (by simp) o ho,r⟩⟩
 item:=fun i s Q E hi st hQ=>zFL st.1 st.2 (x:=items[i]) (by simp[hi]) fun h' a b=>hQ _ h' s.toks (by simp[hi]) ⟨a,st.2.extBut b.extBut hne⟩ b
 done:=fun s Q E st hE=>zGU hh st.1 st.2 (by simp) hE
section
variable{X:Cx}{a6:List (Addr×Obj)}{σ:St}{H:Hp}{s:A7}{h':Heap}
theorem Inv.turnedL{t':Nat}{fp:List Addr}(I:Inv X a6 σ H s)(k: ∀b o,b∉fp->s.heap.get? b=some o->h'.get? b=some o)(there: ∀b∈fp,∃o,h'.get? b=some o)(hf: ∀b∈fp,FpOk X a6 H b):Inv X a6 σ H {s with heap:=h',toks:=t'}:=by
 have nit: ∀b u,H b=some u->b∉fp:=fun b u e z=>by rw[(hf b z).1] at e;cases e
 have hL:X.env.locals∉fp:=fun z=>(hf _ z).2.1 rfl
 refine I.step (g':=s.gens) (d':=s.drawn) (ch:=fp) (fun b hb=> ?_) (fun b o _ _ hc e _=>k b o hc e) (fun b o _ _ hc e _=>⟨o.slots,k b o hc e⟩) (fun _ _ _ _ n=>n)
  (fun b o hc e=>⟨o,k b o hc e⟩) (fun _ _ e=>e) (fun _ _ _ e=>e) (fun b ps e=>⟨#[],by rw[e];simp⟩) (fun m hm=> ?_) (fun b u e=> ?_) I.bare
 ·obtain⟨_,f1,f2,f3,f4,f5⟩:=hf b hb
  exact⟨f3,f1,f4,f5⟩
 ·obtain⟨o,es,ep,ho,r⟩:=hm
  exact⟨o,es,ep,k _ o hL ho,r⟩
 ·refine (I.hok b u e).stay (fun c v hc q => k c v ?_ q) (fun _ q => q) fun _ _ q => q
  rcases hc with z|z
  ·rw[z];exact nit b u e
  ·exact nit c _ z
end
section
variable{X:Cx}{a6:List (Addr×Obj)}{σ:St}{H:Hp}{s:A7}{h':Heap}
theorem Inv.turnedL'{t':Nat}{fp:List Addr}(I:Inv X a6 σ H s)(k: ∀b o,b∉fp->s.heap.get? b=some o->h'.get? b=some o)(hf: ∀b∈fp,FpOk X a6 H b):Inv X a6 σ H {s with heap:=h',toks:=t'}:=by
 have nit: ∀b u,H b=some u->b∉fp:=fun b u e z=>by rw[(hf b z).1] at e;cases e
 have hL:X.env.locals∉fp:=fun z=>(hf _ z).2.1 rfl
 refine I.step (g':=s.gens) (d':=s.drawn) (ch:=fp) (fun b hb=> ?_) (fun b o _ _ hc e _=>k b o hc e) (fun b o _ _ hc e _=>⟨o.slots,k b o hc e⟩) (fun _ _ _ _ n=>n)
  (fun b o hc e=>⟨o,k b o hc e⟩) (fun _ _ e=>e) (fun _ _ _ e=>e) (fun b ps e=>⟨#[],by rw[e];simp⟩) (fun m hm=> ?_) (fun b u e=> ?_) I.bare
 ·obtain⟨_,f1,f2,f3,f4,f5⟩:=hf b hb
  exact⟨f3,f1,f4,f5⟩
 ·obtain⟨o,es,ep,ho,r⟩:=hm
  exact⟨o,es,ep,k _ o hL ho,r⟩
 ·refine (I.hok b u e).stay (fun c v hc q => k c v ?_ q) (fun _ q => q) fun _ _ q => q
  rcases hc with z|z
  ·rw[z];exact nit b u e
  ·exact nit c _ z
end
def SqA(K:Ad)(tup:Bool)(H:Hp)(a:Addr)(xs:List V):Prop:=if tup=true then SqT K H a xs else SqL K H a xs
def Src(tup:Bool)(h:Heap)(a:Addr)(items:Array Value):Prop:=if tup=true then h.IsTuple a items else h.IsList a items
def IsIt(tup:Bool)(h:Heap)(it a:Addr)(i:Nat):Prop:=if tup=true then h.IsTupleIter it a i else h.IsListIter it a i
theorem zUR{prog:Aw}{w:World}{A:C3}(hh:A.handled=none)(tup:Bool)(it t:Addr)(hne:t≠it)(items:Array Value):
  Draws prog w A it [it,t] items.size (fun i v=>items[i]? =some v) (fun i h=>IsIt tup h it t i/\Src tup h t items):=by
 cases tup with
 |true=>exact zRC hh it t hne items
 |false=>exact Draws.list hh it t hne items
theorem Src.lt{tup:Bool}{h:Heap}{a:Addr}{items:Array Value}(s:Src tup h a items):a<h.objs.size:=by
 cases tup with
 |true=>obtain⟨o,e,_⟩:=s;exact Ac e
 |false=>obtain⟨o,e,_⟩:=s;exact Ac e
theorem Inv.srcA{X:Cx}{a6:List (Addr×Obj)}{σ:St}{H:Hp}{s:A7}{a:Addr}{xs:List V}{tup:Bool}(I:Inv X a6 σ H s)(h:SqA X.K tup H a xs): ∃its:List Value,Vals xs its/\Src tup s.heap a its.toArray/\xs.length<=sizeLine:=by
 cases tup with
 |true=>
  obtain⟨its,r,p,z⟩:=I.tuple h
  exact⟨its,r,p,z⟩
 |false=>
  obtain⟨its,r,p,z⟩:=I.list h
  exact⟨its,r,p.isList,z⟩
theorem Inv.sq_inj{X:Cx}{a6:List (Addr×Obj)}{σ:St}{H:Hp}{s:A7}{a:Addr}{xs ys:List V}{tup:Bool}(I:Inv X a6 σ H s)(h:SqA X.K tup H a xs)(h':SqA X.K tup H a ys):xs=ys:=by
 cases tup with
 |true=>exact I.tuple_inj h h'
 |false=>exact I.list_inj h h'
theorem IsIt.at{tup:Bool}{h h':Heap}{it a:Addr}{i:Nat}(st:IsIt tup h it a i)(k: ∀o,h.get? it=some o->h'.get? it=some o):IsIt tup h' it a i:=by
 cases tup with
 |true=>exact Heap.IsTupleIter.at st k
 |false=>exact Heap.IsListIter.at st k
theorem IsIt.obj{tup:Bool}{h:Heap}{it a:Addr}{i:Nat}(st:IsIt tup h it a i): ∃o,h.get? it=some o/\ ∀v,o.data≠ .cell v:=by
 cases tup with
 |true=>
  obtain⟨o,e,c,d⟩:=st
  exact⟨o,e,fun v z=>by rw[d] at z;cases z⟩
 |false=>
  obtain⟨o,e,c,d⟩:=st
  exact⟨o,e,fun v z=>by rw[d] at z;cases z⟩
noncomputable def Ite(K:Ad)(tup:Bool)(a:Addr):It:=
 ⟨fun i H=> ∃xs x,SqA K tup H a xs/\xs[i]? =some x,fun i H v H'=> ∃p x,(∀xs,SqA K tup H a xs->xs[i]? =some x)/\H p=none/\H'=upd H p (.tup [.int i,x])/\v= .ref p,fun i H=> ∃xs,SqA K tup H a xs/\xs.length=i⟩
theorem zP3{P:Aw}{w:World}{K:Ad}{es:List Expr}{k:Nat}{pos:Pos}(tup:Bool)(a e it:Addr)(hei:e≠it)(hae:a≠e)(hai:a≠it):
  Turn P w K (.Tuple es k pos) (Ite K tup a) [e,it] e (fun i h=>(∃old,IsEnum h e it i old)/\IsIt tup h it a i) where
 mem := by simp
 obj := fun i h st b hb => by
  obtain⟨⟨old,he⟩,hi⟩:=st
  rcases A8.mp hb with z|z
  ·subst z
   exact⟨_,he,fun v z=>by cases z⟩
  ·have:=Ah.mp z
   subst this
   exact hi.obj
 keep:=fun i h h' st kk=>by
  obtain⟨⟨old,he⟩,hi⟩:=st
  exact⟨⟨old,kk e (by simp) _ he⟩,hi.at fun o q=>kk it (by simp) o q⟩
 item:=by
  intro X hP hw hK hc i a6 s σ H E I hf st hg
  subst hP hw hK
  obtain⟨⟨old,he⟩,hi⟩:=st
  obtain⟨xs,x,hq,hx⟩:=hg
  obtain⟨its,rv,src,hz⟩:=I.srcA hq
  have hlt:i<its.toArray.size:=by
   have:=(A5.mp hx).1
   have:=rv.length
   simp only[Af]
   omega
  have hh:X.A.in1.handled=none:=I.ok.hd hc
  refine wpAny_pyNext_enum_itemD (zUR hh tup it a hai its.toArray) he ⟨hi,src⟩ hlt hei (by simp[hei,C9 hae]) fun u h1 tk hu ho st1 ht hsz hk=>⟨_,rfl,?_⟩
  refine wpAny_letOwnedTupleGo_enum (s:={s with heap:=h1,toks:=tk+1}) ho fun h2 he2 sb2=> ?_
  have sb2:Dt e h1 h2:=sb2
  obtain⟨u',hu',ru⟩:=rv.get hx
  have hu:its.toArray[i]? =some u:=hu
  rw[List.getElem?_toArray,hu'] at hu
  have hu:=Ba hu
  subst hu
  have kk: ∀b o,b∉[e,it]->s.heap.get? b=some o->h2.get? b=some o:=fun b o hb q=>by
   have h1b:b≠e:=fun z=>hb (by simp[z])
   have h2b:b≠it:=fun z=>hb (by simp[z])
   exact(sb2.2 b h1b).trans (hk b o h1b h2b q)
  have cp:h2.get? s.heap.objs.size=some {cls:= .type "tuple",data:= .seq #[.int i tk,u']}:=(sb2.2 _ (Eg (Ac he))).trans ht
  have ay:H s.heap.objs.size=none:=I.hok.fresh (Ae _)
  have gj: ∀b∈[e,it],b<s.heap.objs.size:=fun b hb=>by
   rcases A8.mp hb with z|z
   ·rw[z];exact Ac he
   ·rw[Ah.mp z]
    obtain⟨o,q,_⟩:=hi.obj
    exact Ac q
  have I0:Inv X a6 σ (upd H s.heap.objs.size (.tup [.int i,x])) {s with heap:=s.heap.push {cls:= .type "tuple",data:= .seq #[.int i tk,u']},toks:=tk}:=
   I.laid (fun b o q=>A1 _ q) (Ae _) ⟨by show 2<=sizeLine;decide,[.int i tk,u'],.cons ⟨tk,rfl⟩ (.cons ru .nil),Gj _ _⟩
  have I1:Inv X a6 σ (upd H s.heap.objs.size (.tup [.int i,x])) {s with heap:=h2,toks:=tk+1}:=by
   refine Inv.turnedL (s:={s with heap:=s.heap.push {cls:= .type "tuple",data:= .seq #[.int i tk,u']},toks:=tk}) (h':=h2) (t':=tk+1) (fp:=[e,it]) I0 (fun b o hb q=> ?_) (fun b hb=> ?_) fun b hb=>⟨by rw[zAV (Au (gj b hb))];exact(hf b hb).1,(hf b hb).2⟩
   ·by_cases hbn:b=s.heap.objs.size
    ·subst hbn
     have q:(s.heap.push {cls:= .type "tuple",data:= .seq #[.int i tk,u']}).get? s.heap.objs.size=some o:=q
     rw[Ai _ rfl] at q
     cases q
     exact cp
    ·exact kk b o hb ((F8 _ _ _ hbn).symm.trans q)
   ·rcases A8.mp hb with z|z
    ·rw[z];exact⟨_,he2⟩
    ·rw[Ah.mp z]
     obtain⟨o,q,_⟩:=st1.1.obj
     exact⟨o,(sb2.2 it (C9 hei)).trans q⟩
  refine⟨.ref s.heap.objs.size,upd H s.heap.objs.size (.tup [.int i,x]),?_,rfl,⟨_,x,fun ys hy=>by rw[I.sq_inj hy hq];exact hx,ay,rfl,rfl⟩,⟨⟨_,by simpa using he2⟩,st1.1.at fun o q=>(sb2.2 it (C9 hei)).trans q⟩,fun b hb=> ?_⟩
  ·exact I1
  ·rw[zAV (Au (gj b hb))]
   exact(hf b hb).1
 done:=by
  intro X hP hw hK hc i a6 s σ H E I hf st hg
  subst hP hw hK
  obtain⟨⟨old,he⟩,hi⟩:=st
  obtain⟨xs,hq,hx⟩:=hg
  obtain⟨its,rv,src,hz⟩:=I.srcA hq
  have hh:X.A.in1.handled=none:=I.ok.hd hc
  have hn:its.toArray.size=i:=by rw[Af,<- rv.length];exact hx
  refine wpAny_pyNext_enum_endD (zUR hh tup it a hai its.toArray) he ⟨by rw[hn];exact hi,src⟩ fun h1 xb=>⟨rfl,?_⟩
  obtain⟨f0,f1,f2,f3,f4,f5⟩:=hf it (by simp)
  exact I.turned (t':=s.toks) (fun b o hb q=>xb b o hb q) f0 f1 f3 f4 f5
 self:=fun _ i _ _ _ st h=>Jq st.1.choose_spec h
theorem zRA(a:Addr)(items:Array Value)(n:Nat)(dd:Option Addr)(sl:Array (Option Value)):
  Meets (J0.«enumerate.__new__» ⟨[.type "enumerate",.ref a],[]⟩) (fun _ R s=>s.heap.get? a=some {cls:= .type "tuple",dict:=dd,data:= .seq items n,slots:=sl}∧
   R (.ok (.ret (.ref (s.heap.push {cls:= .type "tuple_iterator",data:= .fields #[.ref a,.int 0 0]}).objs.size)))
    {s with heap:=(s.heap.push {cls:= .type "tuple_iterator",data:= .fields #[.ref a,.int 0 0]}).push {cls:= .type "enumerate",data:= .fields #[.none,.bool false,.ref s.heap.objs.size,rawInt 0,.none,.none]}}):=by
 refine .of_wp fun prog w A R s h=> ?_
 obtain⟨hp,g,d,tk,os⟩:=s
 obtain⟨ha,h⟩:=h
 have hs:=sub_enumerate
 have hT:Heap.IsTuple (Kr ⟨hp,g,d,tk,os⟩) a items:=⟨_,ha,rfl,n,rfl⟩
 wp_walk using Ei ha
 refine wpAny_stack_any fun st=>A9 ?_
 split
 ·rename_i c _ _ _ _ _
  cases (c==Gi "enumerate")<;>(wp_walk using Ei ha,Em hT;exact⟨_,rfl,h⟩)
 ·wp_walk using Ei ha,Em hT
  exact⟨_,rfl,h⟩
theorem zOI{prog:Aw}{w:World}{A:C3}{E:Value->A7->Prop}{s:A7}{a:Addr}{items:Array Value}{tup:Bool}{Q:Value->A7->Prop}(hs:Src tup s.heap a items)
  (h: ∀h',IsEnum h' (s.heap.objs.size+1) s.heap.objs.size 0 .none->IsIt tup h' s.heap.objs.size a 0->(∀b o,s.heap.get? b=some o->h'.get? b=some o)->Q (.ref (s.heap.objs.size+1)) {s with heap:=h'}):
  wpAny (model prog w) A (call (.type "enumerate") [.ref a]) Q E s:=by
 cases tup with
 |false=>exact call_enumerate_list hs fun h' a1 a2 _ a4=>h h' a1 a2 a4
 |true=>
  obtain⟨⟨cc,dd,dt,sl⟩,g1,hc,n,hd⟩:=hs
  replace hc:cc= .type "tuple":=hc
  replace hd:dt= .seq items n:=hd
  subst hc hd
  have hz:(s.heap.push {cls:= .type "tuple_iterator",data:= .fields #[.ref a,.int 0 0]}).objs.size=s.heap.objs.size+1:=Cj ..
  refine callType_new F.called_enumerate (by decide) (F.typeCall_enumerate_1 _) (F.newCall_enumerate_1 _) (fun obj=>F.args_object_init_2 obj _) F.entry_enumerate_new (zRA a items n dd sl) ⟨g1,?_⟩
  show _/\_
  rw[hz]
  have he:=Ai (s.heap.push {cls:= .type "tuple_iterator",data:= .fields #[.ref a,.int 0 0]}) (o:={cls:= .type "enumerate",data:= .fields #[.none,.bool false,.ref s.heap.objs.size,rawInt 0,.none,.none]}) rfl
  rw[hz] at he
  exact⟨⟨_,he,rfl⟩,h _ he ⟨_,A1 _ (Ai _ rfl),rfl,rfl⟩ fun b o x=>A1 _ (A1 _ x)⟩
theorem zL9:As "enumerate"=some (.type "enumerate"):=by decide+kernel
theorem yBD:As "zip"=some (.type "zip"):=by decide+kernel
section
variable{X:Cx}{K:Ad}{ml:List Nat}{l:Expr}{pu:Bool}{f:VF}{p pos cb:Pos}{es:List Expr}{tk:Nat}{δ:Ev}
def iEnu(K:Ad)(tl:TE):TI:=fun σ H R=>tl σ H fun x H1=> ∃a tup,x= .ref a/\(∃xs,SqA K tup H1 a xs)/\R (Ite K tup a) H1
theorem zVY{tl:TE}(hg:Gl X "enumerate") (hm:X.mg "enumerate"=none) (hl:PE X l tl) (he:A2 (l::[]) X.env=(false,eval l X.env)::A2 [] X.env:=by rfl):
  PI X (.Tuple es tk cb) (.Call (.Name "enumerate" p) [l] [] pos) (iEnu X.K tl):=by
 intro a6 s σ H R I h
 refine Dg (zHQ I hg hm zL9 ?_ (by decide) (by decide))
 refine Cp (thn (zAO hl zBT he pos a6 s σ H (fun vs H1=>match vs with
  | [x] => ∃ a tup,x = .ref a /\ (∃ xs,SqA X.K tup H1 a xs) /\ R (Ite X.K tup a) H1
  | _ => False) I h) fun us s1 ⟨vs,H1,I1,r1,q1⟩ => ?_) he (by rfl)
 match vs,r1,q1 with
 |[x],r1,q1=>
  obtain⟨a,tup,rfl,⟨xs,hq⟩,hR⟩:=q1
  obtain⟨u,rfl,ru⟩:=zH0 r1
  cases ru
  obtain⟨its,rv,src,_⟩:=I1.srcA hq
  refine zOI src fun h' he' hi' kp=> ?_
  have I2:Inv X a6 σ H1 {s1 with heap:=h'}:=I1.kept (t':=s1.toks) kp
  have hn: ∀b,s1.heap.objs.size<=b->H1 b=none:=fun b hb=>I1.hok.fresh hb
  refine Jq he' ⟨s1.heap.objs.size+1,[s1.heap.objs.size+1,s1.heap.objs.size],_,Ite X.K tup a,H1,rfl,I2,zP3 tup a (s1.heap.objs.size+1) s1.heap.objs.size (Nat.succ_ne_self _) (fun z=> ?_) (fun z=> ?_),⟨⟨_,he'⟩,hi'⟩,fun b hb=> ?_,hR⟩
  ·have:=src.lt
   rw[z] at this
   exact absurd this (Nat.not_lt_of_le (E3 _))
  ·have:=src.lt
   rw[z] at this
   exact absurd this (Bo _)
  ·have hb':s1.heap.objs.size<=b:=by
    rcases A8.mp hb with z|z
    ·rw[z];exact E3 _
    ·rw[Ah.mp z];exact Ae _
   exact I1.fpOk hb' (hn b hb')
theorem yAM(h:X.K=K){tl:TE}(hg:Gl X "enumerate") (hm:X.mg "enumerate"=none) (hl:PE X l tl) (he:A2 (l::[]) X.env=(false,eval l X.env)::A2 [] X.env:=by rfl):
  PI X (.Tuple es tk cb) (.Call (.Name "enumerate" p) [l] [] pos) (iEnu K tl):=by subst h;exact zVY hg hm hl he
noncomputable def enuD:Nat->List Dat->List Dat
 |_,[]=>[]
 |i,d::ds=> .tup [.int i,d]::enuD (i+1) ds
noncomputable def zJH(f:VF):VI:=fun δ=>(f δ).bind fun p=>(seqD p.1).map fun ds=>(enuD 0 ds,p.2)
theorem zJM: ∀{ds:List Dat} {n i:Nat} {d:Dat},(enuD n ds)[i]? =some d-> ∃x,ds[i]? =some x/\d= .tup [.int (n+i:Nat),x]
 |[],_,_,_,h=>by simp[enuD] at h
 |x::ds,n,0,d,h=>by simp[enuD] at h;exact⟨x,rfl,h.symm⟩
 |x::ds,n,i+1,d,h=>by
  have h:(enuD (n+1) ds)[i]? =some d:=by simpa[enuD] using h
  obtain⟨y,h1,h2⟩:=zJM h
  exact⟨y,by simpa using h1,by rw[h2,show n+1+i=n+(i+1) by omega]⟩
theorem zJL: ∀(ds:List Dat) (n:Nat),(enuD n ds).length=ds.length
 |[],_=>rfl
 |_::ds,n=>congrArg (· +1) (zJL ds (n+1))
theorem zJW{a:Addr}{tup:Bool}{ds:List Dat}:Walk K (Ite K tup a) [(.ref a,if tup=true then .tup ds else .lst ds)] (enuD 0 ds):=by
 intro N H h
 have r:=h _ (Ah.mpr rfl)
 have fin: ∀xs,SqA K tup H a xs->RepA K N H xs ds->(∀(i:Nat) (d:Dat),(enuD 0 ds)[i]? =some d->(Ite K tup a).go i H/\ ∀x H',(Ite K tup a).yld i H x H'->Same H H'/\Rep K N H' N x d)/\(Ite K tup a).stop (enuD 0 ds).length H:=fun xs sq r=>by
  refine⟨fun i d e=> ?_,xs,sq,by rw[r.length,zJL]⟩
  obtain⟨z,e1,rfl⟩:=zJM e
  obtain⟨x,e2,r1⟩:=r.get e1
  refine⟨⟨xs,x,sq,e2⟩,fun y H' hy=> ?_⟩
  obtain⟨p,x',e3,hp,rfl,rfl⟩:=hy
  have:=e3 xs sq
  rw[e2] at this
  cases this
  refine⟨zA5 hp,.tup (SqT.of zAH) (.cons ?_ (.cons (r1.same (zA5 hp)) .nil))⟩
  rw[Gc]
  exact .int _
 cases tup with
 |true=>
  have r:Rep K N H N (.ref a) (.tup ds):=r
  cases r with
  |tup sq r=>exact fin _ sq r
 |false=>
  have r:Rep K N H N (.ref a) (.lst ds):=r
  cases r with
  |lst q n r=>exact fin _ (SqL.of q) r
  |fzl q r=>exact fin _ q.sq r
theorem zHF(hK:X.K=K)(hg:Gl X "enumerate") (hm:X.mg "enumerate"=none) (h:PE X l (TV K ml pu true true f)) (he:A2 (l::[]) X.env=(false,eval l X.env)::A2 [] X.env:=by rfl):
  PI X (.Tuple es tk cb) (.Call (.Name "enumerate" p) [l] [] pos) (TIV K ml pu (zJH f)):=(yAM (K:=K) hK hg hm h he).imp fun σ H R ⟨B,O,δ,ds,δ',S,q,k⟩=>by
 unfold zJH at q
 cases h1:f δ with
 | none => rw [h1] at q;cases q
 |some p=>
  obtain⟨x,δ1⟩:=p
  rw[h1] at q
  refine⟨B,O,δ,x,δ1,S,h1,fun v H1 R1=> ?_⟩
  cases x with
  |lst ds'=>
   cases q
   obtain⟨a,xs,rfl,sq,r⟩:=R1.rep.lstE
   exact⟨a,false,rfl,⟨xs,sq⟩,k _ [(.ref a,.lst ds')] H1 (R1.sta.keepV fun p hp=>by rw[Ah.mp hp];exact R1.rep) R1.frm R1.pur (zJW (tup:=false))⟩
  |tup ds'=>
   cases q
   obtain⟨a,xs,rfl,sq,r⟩:=R1.rep.tupE
   exact⟨a,true,rfl,⟨xs,sq⟩,k _ [(.ref a,.tup ds')] H1 (R1.sta.keepV fun p hp=>by rw[Ah.mp hp];exact R1.rep) R1.frm R1.pur (zJW (tup:=true))⟩
  |_=>cases q
end
section
variable{prog:Aw}{w:World}{A:C3}{E:Value->A7->Prop}{s:A7}
theorem IsIt.ext{tup:Bool}{h h':Heap}{it a b:Addr}{i:Nat}(x:IsIt tup h it a i)(hs:Fz b h h')(hne:it≠b):IsIt tup h' it a i:=x.at fun o e=>hs _ _ hne e
theorem Src.ext{tup:Bool}{h h':Heap}{a b:Addr}{xs:Array Value}(x:Src tup h a xs)(hs:Fz b h h')(hne:a≠b):Src tup h' a xs:=by
 cases tup with
 |true=>obtain⟨o,e,r⟩:=x;exact⟨o,hs _ _ hne e,r⟩
 |false=>obtain⟨o,e,r⟩:=x;exact⟨o,hs _ _ hne e,r⟩
theorem zG3{tup:Bool}{it a:Addr}{i:Nat}{xs:Array Value}{x:Value}{Q:Value->A7->Prop}(hi:IsIt tup s.heap it a i)(hs:Src tup s.heap a xs)(hx:xs[i]? =some x)
  (hQ: ∀h',IsIt tup h' it a (i+1)->Dt it s.heap h'->Q x {s with heap:=h'}):wpAny (model prog w) A (B8 (.ref it)) Q E s:=by
 cases tup with
 |true=>exact zFL hi hs hx hQ
 |false=>exact wpAny_nextOf_list_item hi hs hx hQ
theorem zKL{tup:Bool}{it a:Addr}{i:Nat}{xs:Array Value}{Q:Value->A7->Prop}(hh:A.handled=none)(hi:IsIt tup s.heap it a i)(hs:Src tup s.heap a xs)(hx:xs[i]? =none)
  (hE: ∀h' e,Fz it s.heap h'->(∃o,h'.get? e=some o/\o.cls= .type "StopIteration")->E (.ref e) {s with heap:=h'}):wpAny (model prog w) A (B8 (.ref it)) Q E s:=by
 cases tup with
 |true=>exact zGU hh hi hs hx hE
 |false=>exact wpAny_nextOf_list_end hh hi hs hx hE
structure ZSt(t1 t2:Bool)(h:Heap)(z p q i1 i2 a b:Addr)(k:Nat)(f0:Value):Prop where
 zip:IsZip h z p q f0
 its:IsPair h p (.ref i1) (.ref i2)
 res: ∃u v,IsPair h q u v
 one:IsIt t1 h i1 a k
 two:IsIt t2 h i2 b k
theorem zON{t1 t2:Bool}{z p q i1 i2 a b:Addr}{k:Nat}{xs ys:Array Value}{x y:Value}{Q:Value->A7->Prop}(D:Ig z p q i1 i2 a b)(S:ZSt t1 t2 s.heap z p q i1 i2 a b k .none)
  (s1:Src t1 s.heap a xs) (s2:Src t2 s.heap b ys) (hx:xs[k]? =some x) (hy:ys[k]? =some y)
  (hQ: ∀h',ZSt t1 t2 h' z p q i1 i2 a b (k+1) (rawInt s.heap.objs.size)->IsPair h' s.heap.objs.size x y->h'.objs.size=s.heap.objs.size+1→
   (∀c o,c≠z->c≠q->c≠i1->c≠i2->s.heap.get? c=some o->h'.get? c=some o)->Q (.ref s.heap.objs.size) {s with heap:=h'}):
  wpAny (model prog w) A (J0.«zip.__next__» ⟨[.ref z],[]⟩) (fun fin s'=> ∃v,fin= .done (.ret v)/\Q v s') E s:=by
 obtain⟨gz,gi,⟨u,v,gr⟩,g1,g2⟩:=S
 show wpAny _ _ (field (Ax z) 2>>=_) _ _ _
 refine A0 (Cs gz rfl (x:= .bool false) rfl ?_)
 show wpAny _ _ (field (Ax z) 3>>=_) _ _ _
 refine A0 (Cs gz rfl (x:= .ref p) rfl (A0 (D6 gi rfl ?_)))
 show wpAny _ _ (Cd (Ax z)>>=_) _ _ _
 refine A0 ?_
 (unfold Cd)
 refine A0 (Cs gz rfl (x:= .none) rfl (A9 ?_))
 simp only[if_true]
 refine A0 (F3 (A0 (Cs gz rfl (x:= .ref q) rfl (A0 (Dj gz (by simp) fun ha za ba=>A0 ?_)))))
 have za:IsZip ha z p q .ellipsis:=za
 simp only[Ks,K7,Im,Fx]
 refine A0 (A0 (Gz ?_))
 show wpAny _ _ (B8 (Ax i1)>>=_) _ _ _
 refine A0 (zG3 (g1.ext ba.extBut D.i1z) (s1.ext ba.extBut D.l1z) hx fun hb n1 bb=>A9 ?_)
 have rb:IsPair hb q u v:=bb.extBut _ _ D.TOi1 (ba.extBut _ _ D.TOz gr)
 refine A0 (D6 rb rfl (A0 (Fe rb fun hc rc bc=>A0 (Kt (A9 ?_)))))
 have rc:IsPair hc q x v:=rc
 refine A0 (A0 (Gz ?_))
 show wpAny _ _ (B8 (Ax i2)>>=_) _ _ _
 refine A0 (zG3 (((g2.ext ba.extBut D.i2z).ext bb.extBut D.i12.symm).ext bc.extBut D.TOi2.symm) (((s2.ext ba.extBut D.l2z).ext bb.extBut D.l2i1).ext bc.extBut D.l2TO) hy fun hd n2 bd=>A9 ?_)
 have rd:IsPair hd q x v:=bd.extBut _ _ D.TOi2 rc
 refine A0 (D6 rd rfl (A0 (Fe rd fun he re be=>A0 (Kt (A9 (A9 ?_))))))
 have re:IsPair he q x y:=re
 refine A0 (D6 re rfl (A0 (wpAny_newTuple ?_)))
 have size:he.objs.size=s.heap.objs.size:=by rw[be.1,bd.1,bc.1,bb.1,ba.1]
 have ze:IsZip he z p q .ellipsis:=be.extBut _ _ D.TOz.symm (bd.extBut _ _ D.i2z.symm (bc.extBut _ _ D.TOz.symm (bb.extBut _ _ D.i1z.symm za)))
 have ke: ∀c o,c≠z->c≠q->c≠i1->c≠i2->s.heap.get? c=some o->he.get? c=some o:=fun c o c1 c2 c3 c4 g=>be.extBut _ _ c2 (bd.extBut _ _ c4 (bc.extBut _ _ c2 (bb.extBut _ _ c3 (ba.extBut _ _ c1 g))))
 have e1:IsIt t1 he i1 a (k+1):=((n1.ext bc.extBut D.TOi1.symm).ext bd.extBut D.i12).ext be.extBut D.TOi1.symm
 have e2:IsIt t2 he i2 b (k+1):=n2.ext be.extBut D.TOi2.symm
 have ie:IsPair he p (.ref i1) (.ref i2):=ke _ _ D.TIz D.TITO D.TIi1 D.TIi2 gi
 have zlt:z<he.objs.size:=Ac ze
 show wpAny _ _ (Ed (Ax z) (.ref he.objs.size)>>=_) _ _ _
 refine A0 ?_
 (unfold Ed)
 have zf:IsZip (he.push {cls:= .type "tuple",data:= .seq #[x,y]}) z p q .ellipsis:=A1 _ ze
 refine A0 (Dj zf (by simp) fun hg zg bg=> ?_)
 have zg:IsZip hg z p q (rawInt he.objs.size):=zg
 refine Dj zg (by simp) fun hk zk bk=> ?_
 have zk:IsZip hk z p q (rawInt he.objs.size):=zk
 have up: ∀c o,c≠z->he.get? c=some o->hk.get? c=some o:=fun c o c1 g=>bk.extBut _ _ c1 (bg.extBut _ _ c1 (A1 _ g))
 have tk:IsPair hk he.objs.size x y:=bk.extBut _ _ (Eg zlt) (bg.extBut _ _ (Eg zlt) (Ai _ rfl))
 have szk:hk.objs.size=he.objs.size+1:=by rw[bk.1,bg.1,Cj]
 rw[size] at zk tk szk
 refine A9 ⟨_,rfl,?_⟩
 show Q (.ref he.objs.size) _
 rw[size]
 exact hQ hk ⟨zk,up _ _ D.TIz ie,⟨x,y,up _ _ D.TOz re⟩,e1.at fun o g=>up _ o D.i1z g,e2.at fun o g=>up _ o D.i2z g⟩ tk szk fun c o c1 c2 c3 c4 g=>up c o c1 (ke c o c1 c2 c3 c4 g)
theorem zRX{t1 t2:Bool}{z p q i1 i2 a b:Addr}{k:Nat}{xs ys:Array Value}{Q:Fin->A7->Prop}(hh:A.handled=none)(D:Ig z p q i1 i2 a b)(S:ZSt t1 t2 s.heap z p q i1 i2 a b k .none)
  (s1:Src t1 s.heap a xs) (s2:Src t2 s.heap b ys) (du:xs[k]? =none∨ys[k]? =none)
  (hE: ∀h' e,(∀c o,c≠z->c≠q->c≠i1->c≠i2->s.heap.get? c=some o->h'.get? c=some o)->(∃o,h'.get? e=some o/\o.cls= .type "StopIteration")->E (.ref e) {s with heap:=h'}):
  wpAny (model prog w) A (J0.«zip.__next__» ⟨[.ref z],[]⟩) Q E s:=by
 obtain⟨gz,gi,⟨u,v,gr⟩,g1,g2⟩:=S
 show wpAny _ _ (field (Ax z) 2>>=_) _ _ _
 refine A0 (Cs gz rfl (x:= .bool false) rfl ?_)
 show wpAny _ _ (field (Ax z) 3>>=_) _ _ _
 refine A0 (Cs gz rfl (x:= .ref p) rfl (A0 (D6 gi rfl ?_)))
 show wpAny _ _ (Cd (Ax z)>>=_) _ _ _
 refine A0 ?_
 (unfold Cd)
 refine A0 (Cs gz rfl (x:= .none) rfl (A9 ?_))
 simp only[if_true]
 refine A0 (F3 (A0 (Cs gz rfl (x:= .ref q) rfl (A0 (Dj gz (by simp) fun ha za ba=>A0 ?_)))))
 have za:IsZip ha z p q .ellipsis:=za
 simp only[Ks,K7,Im,Fx]
 refine A0 (A0 (Gz ?_))
 show wpAny _ _ (B8 (Ax i1)>>=_) _ _ _
 cases hx:xs[k]? with
 |none=>
  refine A0 (zKL hh (g1.ext ba.extBut D.i1z) (s1.ext ba.extBut D.l1z) hx fun hb e bb ⟨oe,ge,ce⟩=> ?_)
  have zb:IsZip hb z p q .ellipsis:=bb _ _ D.i1z.symm za
  have ne:e≠z:=fun w=>by subst w;rw[zb] at ge;cases ge;simp at ce
  exact Dj zb (by simp) fun hc _ bc=>hE hc e (fun c o c1 _ c3 _ g=>bc.extBut _ _ c1 (bb _ _ c3 (ba.extBut _ _ c1 g))) ⟨oe,bc.extBut _ _ ne ge,ce⟩
 |some x=>
  have hy:ys[k]? =none:=du.resolve_left fun w=>by rw[hx] at w;cases w
  refine A0 (zG3 (g1.ext ba.extBut D.i1z) (s1.ext ba.extBut D.l1z) hx fun hb n1 bb=>A9 ?_)
  have rb:IsPair hb q u v:=bb.extBut _ _ D.TOi1 (ba.extBut _ _ D.TOz gr)
  refine A0 (D6 rb rfl (A0 (Fe rb fun hc rc bc=>A0 (Kt (A9 (A0 (A0 (Gz ?_))))))))
  show wpAny _ _ (B8 (Ax i2)>>=_) _ _ _
  refine A0 (zKL hh (((g2.ext ba.extBut D.i2z).ext bb.extBut D.i12.symm).ext bc.extBut D.TOi2.symm) (((s2.ext ba.extBut D.l2z).ext bb.extBut D.l2i1).ext bc.extBut D.l2TO) hy fun hd e bd ⟨oe,ge,ce⟩=> ?_)
  have zd:IsZip hd z p q .ellipsis:=bd _ _ D.i2z.symm (bc.extBut _ _ D.TOz.symm (bb.extBut _ _ D.i1z.symm za))
  have ne:e≠z:=fun w=>by subst w;rw[zd] at ge;cases ge;simp at ce
  exact Dj zd (by simp) fun hf _ bf=>hE hf e (fun c o c1 c2 c3 c4 g=>bf.extBut _ _ c1 (bd _ _ c4 (bc.extBut _ _ c2 (bb.extBut _ _ c3 (ba.extBut _ _ c1 g))))) ⟨oe,bf.extBut _ _ ne ge,ce⟩
theorem zOA{t1 t2:Bool}{z p q i1 i2 a b:Addr}{k:Nat}{xs ys:Array Value}{x y:Value}{Q:Option Value->A7->Prop}(D:Ig z p q i1 i2 a b)(S:ZSt t1 t2 s.heap z p q i1 i2 a b k .none)
  (s1:Src t1 s.heap a xs) (s2:Src t2 s.heap b ys) (hx:xs[k]? =some x) (hy:ys[k]? =some y)
  (hQ: ∀h',ZSt t1 t2 h' z p q i1 i2 a b (k+1) (rawInt s.heap.objs.size)->IsPair h' s.heap.objs.size x y->h'.objs.size=s.heap.objs.size+1→
   (∀c o,c≠z->c≠q->c≠i1->c≠i2->s.heap.get? c=some o->h'.get? c=some o)->Q (some (.ref s.heap.objs.size)) {s with heap:=h'}):wpAny (model prog w) A (pyNext (.ref z)) Q E s:=by
 have ty:s.TypeIs (.ref z) "zip":=⟨_,S.zip,rfl⟩
 (unfold pyNext)
 exact A0 (Ja (C8 (name:=Av "__next__") ty G2 (Cv G2 ty K8 (zON D S s1 s2 hx hy fun h' a1 a2 a3 a4=>A9 (hQ h' a1 a2 a3 a4)) (Jr _))))
theorem zQN{t1 t2:Bool}{z p q i1 i2 a b:Addr}{k:Nat}{xs ys:Array Value}{Q:Option Value->A7->Prop}(hh:A.handled=none)(D:Ig z p q i1 i2 a b)(S:ZSt t1 t2 s.heap z p q i1 i2 a b k .none)
  (s1:Src t1 s.heap a xs) (s2:Src t2 s.heap b ys) (du:xs[k]? =none∨ys[k]? =none)
  (hQ: ∀h',(∀c o,c≠z->c≠q->c≠i1->c≠i2->s.heap.get? c=some o->h'.get? c=some o)->Q none {s with heap:=h'}):wpAny (model prog w) A (pyNext (.ref z)) Q E s:=by
 have ty:s.TypeIs (.ref z) "zip":=⟨_,S.zip,rfl⟩
 (unfold pyNext)
 refine A0 (Ja (C8 (name:=Av "__next__") ty G2 (Cv G2 ty K8 (zRX hh D S s1 s2 du fun h' e kk ⟨o,ge,ce⟩=> ?_) (Jr _))))
 exact A0 (wpAny_isInstance (T:= "StopIteration") (b:=true) ⟨o,ge,ce⟩ isSubtype_stop (A9 (hQ _ kk)))
end
noncomputable def yEL(tup:Bool):String:=if tup=true then "tuple_iterator" else "list_iterator"
noncomputable abbrev zO(tup:Bool)(a:Addr):Obj:={cls:= .type (yEL tup),data:= .fields #[.ref a,.int 0 0]}
theorem yAZ{prog:Aw}{w:World}{A:C3}{E:Value->A7->Prop}{s:A7}{tup:Bool}{a:Addr}{xs:Array Value}{Q:Value->A7->Prop}(h:Src tup s.heap a xs)(hQ:Q (.ref s.heap.objs.size) {s with heap:=s.heap.push (zO tup a)}):
  wpAny (model prog w) A (pyIter (.ref a)) Q E s:=by
 cases tup with
 |true=>exact Em h hQ
 |false=>exact E8 h hQ
theorem Src.push{tup:Bool}{h:Heap}{a:Addr}{xs:Array Value}(x:Src tup h a xs)(o:Obj):Src tup (h.push o) a xs:=by
 cases tup with
 |true=>obtain⟨o,e,r⟩:=x;exact⟨o,A1 _ e,r⟩
 |false=>obtain⟨o,e,r⟩:=x;exact⟨o,A1 _ e,r⟩
theorem zRW(t1 t2:Bool)(a b:Addr)(xs ys:Array Value):
  Meets (J0.«zip.__new__» ⟨[.type "zip",.ref a,.ref b],[]⟩) (fun _ R s=>Src t1 s.heap a xs/\Src t2 s.heap b ys/\ ∀h1 h2 h3 h4 h5,h1=s.heap.push (zO t1 a)->h2=h1.push (zO t2 b)->h3=h2.push {cls:= .type "tuple",data:= .seq #[.ref s.heap.objs.size,.ref h1.objs.size]}→
   h4=h3.push {cls:= .type "tuple",data:= .seq #[.none,.none]}->h5=h4.push {cls:= .type "zip",data:= .fields #[.none,.bool false,.bool false,.ref h2.objs.size,.ref h3.objs.size]}->R (.ok (.ret (.ref h4.objs.size))) {s with heap:=h5}):=by
 refine .of_wp fun prog w A R s h=> ?_
 obtain⟨hp,g,d,tk,os⟩:=s
 obtain⟨g1,g2,h⟩:=h
 have hs:=sub_zip
 have k1:Src t1 (Kr ⟨hp,g,d,tk,os⟩) a xs:=g1
 have k2:Src t2 (Kr ⟨hp.push (zO t1 a),g,d,tk,os⟩) b ys:=Src.push g2 _
 wp_walk using yAZ k1,yAZ k2
 exact⟨_,rfl,h _ _ _ _ _ rfl rfl rfl rfl rfl⟩
theorem zRN{prog:Aw}{w:World}{A:C3}{E:Value->A7->Prop}{s:A7}{t1 t2:Bool}{a b:Addr}{xs ys:Array Value}{Q:Value->A7->Prop}(g1:Src t1 s.heap a xs)(g2:Src t2 s.heap b ys)
  (h: ∀h',ZSt t1 t2 h' (s.heap.objs.size+4) (s.heap.objs.size+2) (s.heap.objs.size+3) s.heap.objs.size (s.heap.objs.size+1) a b 0 .none->(∀c o,s.heap.get? c=some o->h'.get? c=some o)->Q (.ref (s.heap.objs.size+4)) {s with heap:=h'}):
  wpAny (model prog w) A (call (.type "zip") [.ref a,.ref b]) Q E s:=by
 refine callType_new F.called_zip (by decide) (F.typeCall_zip_2 _ _) (F.newCall_zip_2 _ _) (fun obj=>F.args_object_init_3 obj _ _) F.entry_zip_new (zRW t1 t2 a b xs ys) ⟨g1,g2,?_⟩
 rintro h1 h2 h3 h4 h5 e1 e2 e3 e4 e5
 have z1:h1.objs.size=s.heap.objs.size+1:=by rw[e1,Cj]
 have z2:h2.objs.size=s.heap.objs.size+2:=by rw[e2,Cj,z1]
 have z3:h3.objs.size=s.heap.objs.size+3:=by rw[e3,Cj,z2]
 have z4:h4.objs.size=s.heap.objs.size+4:=by rw[e4,Cj,z3]
 have u4: ∀c o,h4.get? c=some o->h5.get? c=some o:=fun c o q=>by rw[e5];exact A1 _ q
 have u3: ∀c o,h3.get? c=some o->h5.get? c=some o:=fun c o q=>u4 c o (by rw[e4];exact A1 _ q)
 have u2: ∀c o,h2.get? c=some o->h5.get? c=some o:=fun c o q=>u3 c o (by rw[e3];exact A1 _ q)
 have u1: ∀c o,h1.get? c=some o->h5.get? c=some o:=fun c o q=>u2 c o (by rw[e2];exact A1 _ q)
 have u0: ∀c o,s.heap.get? c=some o->h5.get? c=some o:=fun c o q=>u1 c o (by rw[e1];exact A1 _ q)
 have o5:h5.get? h4.objs.size=some {cls:= .type "zip",data:= .fields #[.none,.bool false,.bool false,.ref h2.objs.size,.ref h3.objs.size]}:=by rw[e5];exact Ai _ rfl
 have o4:h5.get? h3.objs.size=some {cls:= .type "tuple",data:= .seq #[.none,.none]}:=u4 _ _ (by rw[e4];exact Ai _ rfl)
 have o3:h5.get? h2.objs.size=some {cls:= .type "tuple",data:= .seq #[.ref s.heap.objs.size,.ref h1.objs.size]}:=u3 _ _ (by rw[e3];exact Ai _ rfl)
 have o2:h5.get? h1.objs.size=some (zO t2 b):=u2 _ _ (by rw[e2];exact Ai _ rfl)
 have o1:h5.get? s.heap.objs.size=some (zO t1 a):=u1 _ _ (by rw[e1];exact Ai _ rfl)
 show _/\_
 rw[z2,z3,z4] at o5
 rw[z3] at o4
 rw[z1,z2] at o3
 rw[z1] at o2
 rw[z4]
 refine⟨⟨_,o5,rfl⟩,h _ ⟨o5,o3,⟨_,_,o4⟩,?_,?_⟩ u0⟩
 ·cases t1 with
  |true=>exact⟨_,o1,rfl,rfl⟩
  |false=>exact⟨_,o1,rfl,rfl⟩
 ·cases t2 with
  |true=>exact⟨_,o2,rfl,rfl⟩
  |false=>exact⟨_,o2,rfl,rfl⟩
theorem zX5(n a b:Nat)(ha:a<n)(hb:b<n):Ig (n+4) (n+2) (n+3) n (n+1) a b:=by
 have f: ∀x y:Nat,x<y∨y<x->x≠y:=fun x y h=>by omega
 exact⟨f _ _ (by omega),f _ _ (by omega),f _ _ (by omega),f _ _ (by omega),f _ _ (by omega),f _ _ (by omega),f _ _ (by omega),f _ _ (by omega),f _ _ (by omega),f _ _ (by omega),f _ _ (by omega),f _ _ (by omega),f _ _ (by omega),f _ _ (by omega),f _ _ (by omega),f _ _ (by omega),f _ _ (by omega),f _ _ (by omega)⟩
noncomputable def Itz(K:Ad)(t1 t2:Bool)(a b:Addr):It:=
  ⟨fun i H => ∃ xs ys x y,SqA K t1 H a xs /\ SqA K t2 H b ys /\ xs[i]? = some x /\ ys[i]? = some y,
   fun i H v H'=> ∃p x y,(∀xs,SqA K t1 H a xs->xs[i]? =some x)/\(∀ys,SqA K t2 H b ys->ys[i]? =some y)/\H p=none/\H'=upd H p (.tup [x,y])/\v= .ref p,
   fun i H=> ∃xs ys,SqA K t1 H a xs/\SqA K t2 H b ys/\(xs.length<=i∨ys.length<=i)⟩
theorem zSE{P:Aw}{w:World}{K:Ad}{es:List Expr}{k:Nat}{pos:Pos}(t1 t2:Bool)(z p q i1 i2 a b:Addr)(D:Ig z p q i1 i2 a b):
  Turn P w K (.Tuple es k pos) (Itz K t1 t2 a b) [z,p,q,i1,i2] z (fun i h=>ZSt t1 t2 h z p q i1 i2 a b i .none) where
 mem := by simp
 obj := fun i h st c hc => by
  simp only[A8,Aj,or_false] at hc
  rcases hc with rfl|rfl|rfl|rfl|rfl
  ·exact ⟨_,st.zip,fun v e => by cases e⟩
  ·exact ⟨_,st.its,fun v e => by cases e⟩
  ·obtain⟨u,v,g⟩:=st.res
   exact⟨_,g,fun v e=>by cases e⟩
  ·exact st.one.obj
  ·exact st.two.obj
 keep:=fun i h h' st kk=>by
  obtain⟨u,v,g⟩:=st.res
  exact⟨kk z (by simp) _ st.zip,kk p (by simp) _ st.its,⟨u,v,kk q (by simp) _ g⟩,st.one.at fun o e=>kk i1 (by simp) o e,st.two.at fun o e=>kk i2 (by simp) o e⟩
 item:=by
  intro X hP hw hK hc i a6 s σ H E I hf st hg
  subst hP hw hK
  obtain⟨xs,ys,x,y,hq1,hq2,hx,hy⟩:=hg
  obtain⟨us,r1,g1,_⟩:=I.srcA hq1
  obtain⟨vs,r2,g2,_⟩:=I.srcA hq2
  obtain⟨u,hu,ru⟩:=r1.get hx
  obtain⟨v,hv,rv⟩:=r2.get hy
  refine zOA D st g1 g2 (by simpa using hu) (by simpa using hv) fun h1 st1 hp hsz hk=>⟨_,rfl,?_⟩
  refine wpAny_letOwnedTupleGo_zip (s:={s with heap:=h1}) st1.zip fun h2 z2 sb=> ?_
  have sb:Dt z h1 h2:=sb
  have lt: ∀c∈[z,p,q,i1,i2],c<s.heap.objs.size:=fun c hc=>by
   simp only[A8,Aj,or_false] at hc
   rcases hc with rfl|rfl|rfl|rfl|rfl
   ·exact Ac st.zip
   ·exact Ac st.its
   ·obtain⟨u,v,g⟩:=st.res
    exact Ac g
   ·obtain⟨o,e,_⟩:=st.one.obj
    exact Ac e
   ·obtain⟨o,e,_⟩:=st.two.obj
    exact Ac e
  have up: ∀c o,c≠z->h1.get? c=some o->h2.get? c=some o:=fun c o hcz e=>(sb.2 c hcz).trans e
  have st2:ZSt t1 t2 h2 z p q i1 i2 a b (i+1) .none:=by
   obtain⟨u',v',g⟩:=st1.res
   exact⟨z2,up _ _ D.TIz st1.its,⟨u',v',up _ _ D.TOz g⟩,st1.one.at fun o e=>up _ o D.i1z e,st1.two.at fun o e=>up _ o D.i2z e⟩
  have cp:h2.get? s.heap.objs.size=some {cls:= .type "tuple",data:= .seq #[u,v]}:=up _ _ (Eg (lt z (by simp))) hp
  have ay:H s.heap.objs.size=none:=I.hok.fresh (Ae _)
  have I0:Inv X a6 σ (upd H s.heap.objs.size (.tup [x,y])) {s with heap:=s.heap.push {cls:= .type "tuple",data:= .seq #[u,v]},toks:=s.toks}:=
   I.laid (fun c o e=>A1 _ e) (Ae _) ⟨by show 2<=sizeLine;decide,[u,v],.cons ru (.cons rv .nil),Gj _ _⟩
  have I1:Inv X a6 σ (upd H s.heap.objs.size (.tup [x,y])) {s with heap:=h2,toks:=s.toks}:=by
   refine Inv.turnedL (s:={s with heap:=s.heap.push {cls:= .type "tuple",data:= .seq #[u,v]},toks:=s.toks}) (h':=h2) (t':=s.toks) (fp:=[z,p,q,i1,i2]) I0 (fun c o hc e=> ?_) (fun c hc=> ?_) fun c hc=>⟨by rw[zAV (Au (lt c hc))];exact(hf c hc).1,(hf c hc).2⟩
   ·by_cases hcn:c=s.heap.objs.size
    ·subst hcn
     have e:(s.heap.push {cls:= .type "tuple",data:= .seq #[u,v]}).get? s.heap.objs.size=some o:=e
     rw[Ai _ rfl] at e
     cases e
     exact cp
    ·have e':=(F8 _ _ _ hcn).symm.trans e
     exact up c o (fun w=>hc (by simp[w])) (hk c o (fun w=>hc (by simp[w])) (fun w=>hc (by simp[w])) (fun w=>hc (by simp[w])) (fun w=>hc (by simp[w])) e')
   ·simp only[A8,Aj,or_false] at hc
    rcases hc with rfl|rfl|rfl|rfl|rfl
    ·exact⟨_,st2.zip⟩
    ·exact⟨_,st2.its⟩
    ·obtain⟨u,v,g⟩:=st2.res
     exact⟨_,g⟩
    ·obtain⟨o,e,_⟩:=st2.one.obj
     exact⟨o,e⟩
    ·obtain⟨o,e,_⟩:=st2.two.obj
     exact⟨o,e⟩
  exact⟨.ref s.heap.objs.size,_,I1,rfl,⟨_,x,y,fun zs hz=>by rw[I.sq_inj hz hq1];exact hx,fun zs hz=>by rw[I.sq_inj hz hq2];exact hy,ay,rfl,rfl⟩,st2,fun c hc=>by
   rw[zAV (Au (lt c hc))]
   exact(hf c hc).1⟩
 done:=by
  intro X hP hw hK hc i a6 s σ H E I hf st hg
  subst hP hw hK
  obtain⟨xs,ys,hq1,hq2,du⟩:=hg
  obtain⟨us,r1,g1,_⟩:=I.srcA hq1
  obtain⟨vs,r2,g2,_⟩:=I.srcA hq2
  have l1:=r1.length
  have l2:=r2.length
  have he:us.toArray[i]? =none∨vs.toArray[i]? =none:=by
   rcases du with z|z
   ·exact .inl (by simp;omega)
   ·exact .inr (by simp;omega)
  refine zQN (I.ok.hd hc) D st g1 g2 he fun h1 hk=>⟨rfl,?_⟩
  have fq: ∀c∈[z,q,i1,i2],c∈[z,p,q,i1,i2]:=fun c hc=>by
   simp only[A8,Aj,or_false] at hc⊢
   rcases hc with w|w|w|w<;>simp[w]
  have I':=Inv.turnedL' (s:=s) (h':=h1) (t':=s.toks) (fp:=[z,q,i1,i2]) I (fun c o hc e=>hk c o (fun w=>hc (by simp[w])) (fun w=>hc (by simp[w])) (fun w=>hc (by simp[w])) (fun w=>hc (by simp[w])) e) fun c hc=>hf c (fq c hc)
  exact I'
 self:=fun _ i _ _ _ st h=>wpAny_pyIter_zip st.zip h
section
variable{X:Cx}{K:Ad}{ml:List Nat}{l m:Expr}{pa ta ia pb tb ib:Bool}{f g:VF}{p pos cb:Pos}{es:List Expr}{tk:Nat}{δ:Ev}
def iZp(K:Ad)(tl tm:TE):TI:=fun σ H R=>tl σ H fun x H1=>tm σ H1 fun y H2=> ∃a b t1 t2,x= .ref a/\y= .ref b/\(∃xs,SqA K t1 H2 a xs)/\(∃ys,SqA K t2 H2 b ys)/\R (Itz K t1 t2 a b) H2
theorem zYS{tl tm:TE}(hg:Gl X "zip") (hm:X.mg "zip"=none) (hl:PE X l tl) (hr:PE X m tm) (he:A2 (l::[m]) X.env=(false,eval l X.env)::A2 [m] X.env:=by rfl) (he2:A2 (m::[]) X.env=(false,eval m X.env)::A2 [] X.env:=by rfl)
  (hpl : (Dc pos (A2 [m] X.env)).any (·.1) = false := by rfl) : PI X (.Tuple es tk cb) (.Call (.Name "zip" p) [l,m] [] pos) (iZp X.K tl tm) := by
 intro a6 s σ H R I h
 refine Dg (zHQ I hg hm yBD ?_ (by decide) (by decide))
 refine Cp (thn (zAO hl (zAO hr zBT he2) he pos a6 s σ H (fun vs H1=>match vs with
  |[x,y]=> ∃a b t1 t2,x= .ref a/\y= .ref b/\(∃xs,SqA X.K t1 H1 a xs)/\(∃ys,SqA X.K t2 H1 b ys)/\R (Itz X.K t1 t2 a b) H1
  |_=>False) I h) fun us s1 ⟨vs,H1,I1,r1,q1⟩=> ?_) he hpl
 match vs,r1,q1 with
 |[x,y],r1,q1=>
  obtain⟨a,b,t1,t2,rfl,rfl,⟨xs,hq1⟩,⟨ys,hq2⟩,hR⟩:=q1
  obtain⟨u,v,rfl,ru,rv⟩:=zSC r1
  cases ru
  cases rv
  obtain⟨us,w1,g1,_⟩:=I1.srcA hq1
  obtain⟨vs,w2,g2,_⟩:=I1.srcA hq2
  refine zRN g1 g2 fun h' st kp=> ?_
  have I2:Inv X a6 σ H1 {s1 with heap:=h'}:=I1.kept (t':=s1.toks) kp
  have ha:=g1.lt
  have hb:=g2.lt
  have D:Ig (s1.heap.objs.size+4) (s1.heap.objs.size+2) (s1.heap.objs.size+3) s1.heap.objs.size (s1.heap.objs.size+1) a b:=by exact zX5 _ a b ha hb
  refine wpAny_pyIter_zip st.zip ⟨s1.heap.objs.size+4,[s1.heap.objs.size+4,s1.heap.objs.size+2,s1.heap.objs.size+3,s1.heap.objs.size,s1.heap.objs.size+1],_,Itz X.K t1 t2 a b,H1,rfl,I2,zSE t1 t2 _ _ _ _ _ a b D,st,fun c hc=> ?_,hR⟩
  have hc':s1.heap.objs.size<=c:=by
   simp only[A8,Aj,or_false] at hc
   rcases hc with w|w|w|w|w<;>rw[w]<;>first|exact Nat.le_add_right _ _|exact Ae _
  exact I1.fpOk hc' (I1.hok.fresh hc')
theorem yEG(h:X.K=K){tl tm:TE}(hg:Gl X "zip") (hm:X.mg "zip"=none) (hl:PE X l tl) (hr:PE X m tm) (he:A2 (l::[m]) X.env=(false,eval l X.env)::A2 [m] X.env:=by rfl) (he2:A2 (m::[]) X.env=(false,eval m X.env)::A2 [] X.env:=by rfl)
  (hpl:(Dc pos (A2 [m] X.env)).any (·.1)=false:=by rfl):PI X (.Tuple es tk cb) (.Call (.Name "zip" p) [l,m] [] pos) (iZp K tl tm):=by subst h;exact zYS hg hm hl hr he he2 hpl
noncomputable def zipD:List Dat->List Dat->List Dat
 |d::ds,e::es=> .tup [d,e]::zipD ds es
 |_,_=>[]
noncomputable def iZip(f g:VF):VI:=fun δ=>(f δ).bind fun p=>(g p.2).bind fun q=>(seqD p.1).bind fun ds=>(seqD q.1).map fun es=>(zipD ds es,q.2)
theorem zM9: ∀{ds es:List Dat} {i:Nat} {d:Dat},(zipD ds es)[i]? =some d-> ∃x y,ds[i]? =some x/\es[i]? =some y/\d= .tup [x,y]
 |[],_,_,_,h=>by simp[zipD] at h
 |_::_,[],_,_,h=>by simp[zipD] at h
 |x::ds,y::es,0,d,h=>by simp[zipD] at h;exact⟨x,y,rfl,rfl,h.symm⟩
 |x::ds,y::es,i+1,d,h=>by
  obtain⟨x',y',h1,h2,h3⟩:=zM9 (ds:=ds) (es:=es) (i:=i) (d:=d) (by simpa[zipD] using h)
  exact⟨x',y',by simpa using h1,by simpa using h2,h3⟩
theorem zM8: ∀{ds es:List Dat},ds.length<=(zipD ds es).length∨es.length<=(zipD ds es).length
 |[],_=> .inl (Cc _)
 |_::_,[]=> .inr (Cc _)
 |x::ds,y::es=>by
  rcases zM8 (ds:=ds) (es:=es) with h|h
  ·exact .inl (K9 h)
  ·exact .inr (K9 h)
noncomputable def yEM:Dat->Bool
 | .tup _=>true
 |_=>false
theorem Rep.sqA{N M:Addr->Prop}{H:Hp}{v:V}{d:Dat}{ds:List Dat}(h:Rep K N H M v d)(e:seqD d=some ds): ∃a tup xs,v= .ref a/\SqA K tup H a xs/\RepA K N H xs ds/\tup=yEM d:=by
  cases d<;>first
    | (cases e
       obtain⟨a,xs,h1,h2,h3⟩:=h.tupE
       exact⟨a,true,xs,h1,h2,h3,rfl⟩)
    | (cases e
       obtain⟨a,xs,h1,h2,h3⟩:=h.lstE
       exact⟨a,false,xs,h1,h2,h3,rfl⟩)
    |cases e
theorem zTX(hK:X.K=K)(hg:Gl X "zip") (hm:X.mg "zip"=none) (h:PE X l (TV K ml pa true true f)) (h':PE X m (TV K ml pb true true g)) (he:A2 (l::[m]) X.env=(false,eval l X.env)::A2 [m] X.env:=by rfl) (he2:A2 (m::[]) X.env=(false,eval m X.env)::A2 [] X.env:=by rfl)
  (hpl : (Dc pos (A2 [m] X.env)).any (·.1) = false := by rfl) : PI X (.Tuple es tk cb) (.Call (.Name "zip" p) [l,m] [] pos) (TIV K ml (pa && pb) (iZip f g)) := (yEG (K := K) hK hg hm h h' he he2 hpl).imp fun σ H R ⟨B,O,δ,ds,δ2,S,q,k⟩ => by
 unfold iZip at q
 cases h1:f δ with
 | none => rw [h1] at q;cases q
 |some p1=>
  obtain⟨x,δ1⟩:=p1
  rw[h1] at q
  cases h2:g δ1 with
  | none => simp [h2] at q
  |some p2=>
   obtain⟨y,δ3⟩:=p2
   simp only[Aa,h2] at q
   cases h3:seqD x with
   | none => rw [h3] at q;cases q
   |some xs=>
    rw[h3] at q
    have q:(seqD y).map (fun es=>(zipD xs es,δ3))=some (ds,δ2):=q
    cases h4:seqD y with
    | none => rw [h4] at q;cases q
    |some ys=>
     rw[h4] at q
     cases q
     refine⟨B,O,δ,x,δ1,S,h1,fun v1 H1 R1=>⟨B,O,δ1,y,_,R1.sta,h2,fun v2 H2 R2=> ?_⟩⟩
     have r1:=R1.rep.fr R2.frm (fun a z=> .inr z) fun a z=> .inr z
     obtain⟨a,t1,us,e1,q1,w1,et1⟩:=r1.sqA h3
     obtain⟨b,t2,vs,e2,q2,w2,et2⟩:=R2.rep.sqA h4
     refine⟨a,b,t1,t2,e1,e2,⟨us,q1⟩,⟨vs,q2⟩,k _ [(v1,x),(v2,y)] H2 (R2.sta.keepV fun z hz=> ?_) (R1.frm.trans R2.frm) (fun z=> ?_) ?_⟩
     ·simp only[A8,Aj,or_false] at hz
      rcases hz with rfl|rfl
      ·exact r1
      ·exact R2.rep
     ·obtain⟨z1,z2⟩:=(A3 _ _).mp z
      exact(R1.pur z1).trans (R2.pur z2)
     ·intro N H h
      obtain⟨a',t1',us',f1,f2,f3,f4⟩:=(h (v1,x) (by simp)).sqA h3
      obtain⟨b',t2',vs',g1,g2,g3,g4⟩:=(h (v2,y) (by simp)).sqA h4
      have f1:v1= .ref a':=f1
      have g1:v2= .ref b':=g1
      rw[e1] at f1
      rw[e2] at g1
      cases f1
      cases g1
      have:t1'=t1:=f4.trans et1.symm
      subst this
      have:t2'=t2:=g4.trans et2.symm
      subst this
      refine⟨fun i d e=> ?_,us',vs',f2,g2,?_⟩
      ·obtain⟨dx,dy,hx,hy,rfl⟩:=zM9 e
       obtain⟨ux,ex,rx⟩:=f3.get hx
       obtain⟨uy,ey,ry⟩:=g3.get hy
       refine⟨⟨us',vs',ux,uy,f2,g2,ex,ey⟩,fun z H' hz=> ?_⟩
       obtain⟨pp,x',y',c1,c2,hp,rfl,rfl⟩:=hz
       have d1:=c1 us' f2
       have d2:=c2 vs' g2
       rw[ex] at d1
       rw[ey] at d2
       cases d1
       cases d2
       exact⟨zA5 hp,.tup (SqT.of zAH) (.cons (rx.same (zA5 hp)) (.cons (ry.same (zA5 hp)) .nil))⟩
      ·rcases zM8 (ds:=xs) (es:=ys) with w|w
       ·exact .inl (by rw[f3.length];exact w)
       ·exact .inr (by rw[g3.length];exact w)
end
end L2
namespace L2
open PySem PySem.Spec PyProof.Rows PySem.W
section
variable{prog:Aw}{w:World}{A:C3}{E:Value->A7->Prop}{s:A7}
theorem zO1{t:Addr}{items:Array Value}{Q:List Value->A7->Prop}(hh:A.handled=none)(ht:IsTup s.heap t items)(h1:1<=items.size)(hz:items.size<=16777216)
  (hQ: ∀(x:Value) (hb:Heap) (tk:Nat),items[0]? =some x->(∀b o,s.heap.get? b=some o->hb.get? b=some o)->Q [x,.ref hb.objs.size] {s with heap:=hb.push {cls:= .type "list",data:= .seq (items.toList.drop 1).toArray},toks:=tk}):
  wpAny (model prog w) A (Fp (.ref t) 2 (some 1)) Q E s:=by
 have hne:t≠s.heap.objs.size:=by obtain⟨o,e,_⟩:=ht;exact Au (Ac e)
 (unfold Fp)
 refine A0 ?_
 (unfold notIterableAtAll)
 refine A0 (wpAny_specialOf ht.typeIs slot_tuple_iter.lookup (A9 ?_))
 simp only[Di,if_false]
 refine A0 (Be (iter_tuple ht (A0 (Be (draw_tuple hne 1 0 _ _ ⟨_,Ai _ rfl,rfl,rfl⟩ (ht.push _) (by omega) fun ha ia ba=> ?_)))))
 have ta:IsTup ha t items:=(ht.push _).extBut ba.extBut hne
 have ia:ha.IsTupleIter s.heap.objs.size t 1:=ia
 obtain⟨oi,gi,_⟩:=id ia
 obtain⟨ot,gt,_⟩:=id ta
 have hsz:ha.objs.size=s.heap.objs.size+1:=by rw[ba.1,Cj]
 have mo:((items.toList.drop 0).take 1).length=1:=by simp;omega
 rw[if_neg (show¬((items.toList.drop 0).take 1).length<1 by rw[mo];exact Bo _)]
 refine A0 (Be (kun_collect (s:={s with heap:=ha}) (T:= "tuple_iterator") (.inr (.inr (.inr rfl))) (Walks.tuple (A:=A.in1) hh s.heap.objs.size t hne items) (fun j u st=>st.1.typeIs) (k:=1) h1 ⟨ia,ta⟩ (Ac gi) (Ac gt) (fun hb tk kb=> ?_) (by rw[Bt];exact hz)))
 have oa:(items.toList.drop 1).length=items.size - 1:=by simp
 show wpAny _ _ (if(items.toList.drop 1).length<2 - 1 - 1 then _ else _) _ _ _
 rw[if_neg (Ku _)]
 show wpAny _ _ (newList ((items.toList.drop 1).take ((items.toList.drop 1).length - (2 - 1 - 1)))>>=fun d=>pure ((items.toList.drop 0).take 1++[d]++(items.toList.drop 1).drop ((items.toList.drop 1).length - (2 - 1 - 1)))) _ _ _
 have e1:(items.toList.drop 1).take ((items.toList.drop 1).length - (2 - 1 - 1))=items.toList.drop 1:=Bm (Ae _)
 have e2:(items.toList.drop 1).drop ((items.toList.drop 1).length - (2 - 1 - 1))=[]:=Dv
 rw[e1,e2]
 refine A0 (C6 (A9 ?_) (by show _<=sizeLine;rw[Bt];simp;omega))
 obtain⟨x,hx⟩: ∃x,items[0]? =some x:=⟨items[0],by simp[show 0<items.size by omega]⟩
 have e3:(items.toList.drop 0).take 1=[x]:=by
  rw[Il]
  have:items.toList[0]? =some x:=by simpa using hx
  cases hl:items.toList with
  |nil=>rw[hl] at this;cases this
  |cons y r=>rw[hl] at this;cases this;rfl
 rw[e3]
 have keep: ∀b o,s.heap.get? b=some o->hb.get? b=some o:=fun b o e=>kb b o (Au (Ac e)) (ba.extBut b o (Au (Ac e)) (A1 _ e))
 exact hQ x hb tk hx keep
end
section
variable{X:Cx}{K:Ad}{ml:List Nat}{e a b c:Expr}{es:List Expr}{pa ta ia pb tb ib pc tc ic pu bt bi ps bs:Bool}{fa fb fc f:VF}{B B':Bs}{O:Nat->Option Addr}{H H0 H1 H':Hp}{σ:St}{δ δ':Ev}{v:V}{d:Dat}{p:Addr}{pos:Pos}
def yET(K:Ad)(i j:Nat):TG:=fun v σ H Q=> ∃a x xs,v= .ref a/\SqT K H a (x::xs)/\ ∀p,H p=none->Q ((σ.set i (some x)).set j (some (.ref p))) (upd H p (.lst xs))
theorem zVZ{i j:Nat}{x y:Str}{px py ps tp:Pos}{k:Nat}(hc:X.calm=true)(hN:X.N.Nodup)(hi:X.N[i]? =some x)(hj:X.N[j]? =some y)(hx:Loc X.env.scope x)(hy:Loc X.env.scope y)
  (fx:X.fn x=true∨X.env.scope.names.lookup x=some .local) (fy:X.fn y=true∨X.env.scope.names.lookup y=some .local)
  (hl:(assignEach [.Name x px,.Starred (.Name y py) ps] X.env).map (·.2)=[assign (.Name x px) X.env,assign (.Name y py) X.env]) (hn:(assignEach [.Name x px,.Starred (.Name y py) ps] X.env).length=2) (hst:(assignEach [.Name x px,.Starred (.Name y py) ps] X.env).findIdx? (·.1)=some 1):
  PG X (.Tuple [.Name x px,.Starred (.Name y py) ps] k tp) (yET X.K i j):=by
 intro a6 s σ H v u Q I r hw
 obtain⟨a,z,zs,e1,hq,q⟩:=hw
 subst e1
 cases r
 obtain⟨its,rv,ht,hz⟩:=I.tuple hq
 rw[assign_Tuple]
 refine A0 (E7 ?_)
 (unfold unpack)
 rw[hn,hst]
 have a9:=rv.length
 rw[B0] at a9
 have hz':its.length<=16777216:=by rw[<- Bt,<- a9];exact hz
 refine A0 (Be (zO1 (I.ok.hd hc) ht (by rw[Af];omega) (by rw[Af];exact hz') fun u hb tk hu kp=> ?_))
 rw[hl]
 cases rv with
 | @cons _ w _ ws rz rzs=>
  have hu:some w=some u:=by simpa using hu
  cases hu
  have I1:Inv X a6 σ H {s with heap:=hb,toks:=tk}:=I.kept kp
  have I2:=Inv.lnew (s:={s with heap:=hb,toks:=tk}) (t':=tk) I1 rzs (by rw[Bt];simp only[B0] at hz' a9;have:=rzs.length;omega)
  refine Ck (F1 (zD1 I2 hN hi hx rz (fun s3 I3=> ?_) fx))
  refine Ck (F1 (zD1 I3 hN hj hy (v:= .ref hb.objs.size) rfl (fun s4 I4=>F2 ⟨_,_,I4,q _ (I1.hok.fresh (Ae _))⟩) fy))
noncomputable def zO3(i j:Nat)(f:VF):VS:=fun δ=>(f δ).bind fun p=>match p.1 with
 | .tup (d::ds)=>some (.nx ((p.2.set i (.va d)).set j (.va (.lst ds))))
 |_=>none
theorem zOO{i j:Nat}{x y:Str}{px py sp tp:Pos}{k:Nat}(hK:X.K=K)(hc:X.calm=true)(hN:X.N.Nodup)(hi:X.N[i]? =some x)(hj:X.N[j]? =some y)(hij:i≠j)(hx:Loc X.env.scope x)(hy:Loc X.env.scope y)(he:PE X e (TV K ml pu true true f))
  (hmi : i ∉ ml := by decide) (hmj : j ∉ ml := by decide)
  (fx : X.fn x = true ∨ X.env.scope.names.lookup x = some .local := by first | exact .inl rfl | exact .inr rfl | assumption) (fy : X.fn y = true ∨ X.env.scope.names.lookup y = some .local := by first | exact .inl rfl | exact .inr rfl | assumption)
  (hl : (assignEach [.Name x px,.Starred (.Name y py) sp] X.env).map (·.2) = [assign (.Name x px) X.env,assign (.Name y py) X.env] := by rfl) (hn : (assignEach [.Name x px,.Starred (.Name y py) sp] X.env).length = 2 := by rfl) (hst : (assignEach [.Name x px,.Starred (.Name y py) sp] X.env).findIdx? (·.1) = some 1 := by rfl)
  (hs : D4 [.Tuple [.Name x px,.Starred (.Name y py) sp] k tp] e pos.line X.env = pure false := by rfl) (hw : D5 [.Tuple [.Name x px,.Starred (.Name y py) sp] k tp] e X.env = pure none := by rfl)
  (h1 : (assignEach [.Tuple [.Name x px,.Starred (.Name y py) sp] k tp] X.env).map (·.2) = [assign (.Tuple [.Name x px,.Starred (.Name y py) sp] k tp) X.env] := by rfl) :
  PS X (.Assign [.Tuple [.Name x px,.Starred (.Name y py) sp] k tp] e pos) (TSt K ml (zO3 i j f)):=by
 subst hK
 refine(zKF he (zVZ hc hN hi hj hx hy fx fy hl hn hst) hs hw h1).imp fun D σ H ⟨B,O,δ,o,S,q,k⟩=> ?_
 unfold zO3 at q
 cases h1:f δ with
 | none => rw [h1] at q;cases q
 |some p1=>
  obtain⟨z,δ1⟩:=p1
  rw[h1] at q
  refine⟨B,O,δ,z,δ1,S,h1,fun v H1 R=> ?_⟩
  cases z with
  |tup ds=>
   cases ds with
   | nil => cases q
   |cons d ds=>
    cases q
    obtain⟨a,xs,rfl,sq,r⟩:=R.rep.tupE
    cases r with
    | @cons v0 vs _ _ r1 r2=>
     refine⟨a,v0,vs,rfl,sq,fun p hp=> ?_⟩
     have S1:=(R.sta.same (zA5 (o:= .lst vs) hp)).setVa hmi (r1.same (zA5 (o:= .lst vs) hp))
     have N1: ∀c,Nn B (fun j=>if j=i then none else O j) c->Nn B O c:=zKK (o:=none)
     refine k _ _ _ (S1.setVa hmj (.lst zAH (fun z=>R.sta.new hp (N1 _ z)) ((r2.same (zA5 hp)).mono N1)))
  |_=>cases q
end
end L2
namespace L2
open PySem PySem.Spec PyProof.Rows
section
variable{X:Cx}{K:Ad}{ml:List Nat}{e a b c:Expr}{es:List Expr}{pa ta ia pb tb ib pc tc ic pu bt bi ps bs:Bool}{fa fb fc f:VF}{B B':Bs}{O:Nat->Option Addr}{H H0 H1 H':Hp}{σ:St}{δ δ':Ev}{v:V}{d:Dat}{p:Addr}{pos:Pos}
def rInD(K:Ad)(neg:Bool):R2:=fun x y H Q=> ∃d e ds,Dp K H x d/\Dp K H y e/\(e= .list ds∨e= .tuple ds)/\Cz d=true/\Cz e=true/\Q (.bl (if neg then !ds.any (fun z=>Fk z d) else ds.any fun z=>Fk z d)) H
theorem zGO{d:Ik}(h:Cz d=true):d.canLay0=true/\d.depth<=64:=by
 unfold Cz at h
 simp only[A3,decide_eq_true_eq] at h
 exact h
theorem zUF(neg:Bool)(hu:X.A.units+64<cLine):OpR X (C0 (if neg then .NotIn else .In)) (rInD X.K neg):=by
 intro a6 s σ H x y v u Q I rx ry h
 obtain⟨d,e,ds,hd,he,hk,sd,se,q⟩:=h
 obtain⟨as,h1⟩:=I.reads hd rx
 obtain⟨bs,h2⟩:=I.reads he ry
 obtain⟨c1,d1⟩:=zGO sd
 obtain⟨c2,d2⟩:=zGO se
 have fin: ∀k,(k=if neg then !ds.any (fun z=>Fk z d) else ds.any fun z=>Fk z d)->EP X a6 σ Q (.bool k) s:=fun k hk=>by subst hk;exact⟨.bl _,H,I,rfl,q⟩
 rcases hk with rfl|rfl
 ·have hc : F9 ds = true := by simpa [Dw] using c2
  have o0:D8 ds<=63:=by simp only[Fc] at d2;omega
  have hm:X.A.units+1+min (D8 ds) d.depth<cLine:=by have:=Kv (D8 ds) d.depth;omega
  cases neg with
  |false=>exact SeqAt.in_list_reads h2 h1 hc c1 hm (fin _ rfl)
  |true=>exact SeqAt.notIn_list_reads h2 h1 hc c1 hm (fin _ rfl)
 ·have hc : F9 ds = true := by simpa [Dw] using c2
  have o0:D8 ds<=63:=by simp only[Fc] at d2;omega
  have hm:X.A.units+1+min (D8 ds) d.depth<cLine:=by have:=Kv (D8 ds) d.depth;omega
  cases neg with
  |false=>exact SeqAt.in_tuple_reads h2 h1 hc c1 hm (fin _ rfl)
  |true=>exact SeqAt.notIn_tuple_reads h2 h1 hc c1 hm (fin _ rfl)
theorem kInD(h:X.K=K)(hu:X.A.units+64<cLine):OpR X (C0 .In) (rInD K false):=by subst h;exact zUF false hu
theorem zHU(h:X.K=K)(hu:X.A.units+64<cLine):OpR X (C0 .NotIn) (rInD K true):=by subst h;exact zUF true hu
noncomputable def inE(d:Dat)(ds:List Dat):Bool:=(pds ds).any fun z=>Fk z d.pd
noncomputable def oInD(neg:Bool)(d e:Dat):Option Dat:=(seqD e).bind fun ds=>if(okD d && okD e)=true then some (.bl (if neg then !inE d ds else inE d ds)) else none
theorem zCY{neg:Bool}:OpS K (rInD K neg) (oInD neg):=by
 intro H N N' M M' x y d e c Q hx hy h k
 unfold oInD at h
 cases hs:seqD e with
 | none => rw [hs] at h;cases h
 |some ds=>
  rw[hs] at h
  have h:(if(okD d && okD e)=true then some (Dat.bl (if neg then !inE d ds else inE d ds)) else none)=some c:=h
  split at h
  ·rename_i hh
   cases h
   simp only[okD,A3] at hh
   refine⟨d.pd,e.pd,pds ds,hx.dp hh.1.1,hy.dp hh.2.1,?_,hh.1.2,hh.2.2,k _ fun _ _ _=> .bl _⟩
   cases e<;>first
    |(cases hs;exact .inr rfl)
    |(cases hs;exact .inl rfl)
    |cases hs
  ·cases h
def yC7(K:Ad)(td ty:TE):TE:=fun σ H Q=>td σ H fun x H1=> ∃a,x= .ref a/\((IsD H1 a/\ty σ H1 fun y H2=> ∃o,DGet H2 a y o/\Q (o.getD .non) H2)∨ ∃D,KTab K a D/\ty σ H1 fun y H2=> ∃k,y= .str k/\Q ((Dm k D).getD .non) H2)
theorem zT0{aj a8:Pos}{td ty:TE}(hu:X.A.units+1<cLine)(ho:PE X a td)(he:PE X e ty)(m:M1 X a "get" aj e a8):PE X (.Call (.Attribute a "get" aj) [e] [] a8) (yC7 X.K td ty):=by
 intro a6 s σ H Q I h
 refine Jk m.base m.few m.line Gx Cf Hw (thn (ho a6 s σ H _ I h) fun u s1 ⟨x,H1,I1,rx,l,ex,q1⟩=> ?_)
 subst ex
 obtain rfl:u=Ax l:=rx
 rcases q1 with⟨hd,q1⟩|⟨D,T,q1⟩
 ·obtain⟨t1,t2,_⟩:=zUN I1 hd
  refine⟨t1,t2,?_⟩
  rw[m.trees]
  refine Dx rfl (Ea (E1 (thn (he a6 s1 σ H1 _ I1 q1) fun iv s2 ⟨y,H2,I2,ry,ov,g,q2⟩=>F4 ?_)))
  exact yBA hu I2 g ry fun w' s3 I3 rw'=>⟨_,H2,I3,rw',q2⟩
 ·obtain⟨mw,o,oh,ep,hk,hex,c5,_⟩:=id T
  refine⟨⟨o,I1.kIn _ _ hk,hex.1⟩,fun b q=> ?_,?_⟩
  ·cases q
   exact⟨o,I1.kIn _ _ hk,hex.2.1⟩
  rw[m.trees]
  refine Dx rfl (Ea (E1 (thn (he a6 s1 σ H1 _ I1 q1) fun iv s2 ⟨y,H2,I2,ry,k,ey,q2⟩=>F4 ?_)))
  subst ey
  obtain⟨t,rfl⟩:=ry
  have hT:s2.TypeIs (.ref l) "dict":=⟨o,I2.kIn _ _ hk,hex.1⟩
  refine Cv Cf hT Db ?_ (Eu _ _)
  show wpAny _ _ (dictGet l (.str k t)>>=_) _ _ s2
  refine A0 (zNC I2.kIn T (fun d' v' ha hv=>A9 ⟨v',rfl,?_⟩) fun hn=> ?_)
  ·rw[ha] at q2
   exact⟨d',H2,I2.tok _,hv,q2⟩
  ·rw[hn] at q2
   show wpAny _ _ (J1 l (.str k t)>>=_) _ _ _
   unfold J1
   rw[if_neg (by rw[mw];exact Cn)]
   exact A0 (A9 (A9 ⟨.none,rfl,.non,H2,I2.tok _,rfl,q2⟩))
noncomputable def yA8:Dat->Dat->Option Dat
 | .dct ks ds,.str x=>some ((zB4 ks ds (.inr x)).getD .non)
 |_,_=>none
theorem zV6{aj a8:Pos}(hK:X.K=K)(hu:X.A.units+1<cLine)(ha:PE X a (TV K ml pa ta ia fa))(hb:PE X b (TV K ml pb tb ib fb))(m:M1 X a "get" aj b a8) (hs:(pb || (ta && ia))=true:=by rfl):
  PE X (.Call (.Attribute a "get" aj) [b] [] a8) (TV K ml (pa && pb) ia ia (f2 yA8 fa fb)):=by
 subst hK
 refine(zT0 hu ha hb m).imp fun σ H Q ⟨B,O,δ,d,δ2,S,q,k⟩=> ?_
 obtain⟨x,δ1,y,h1,h2,h3⟩:=zIS q
 refine⟨B,O,δ,x,δ1,S,h1,fun v1 H1 R1=> ?_⟩
 have fin : ∀ v2 H2 (R2 : Res X.K ml B O H1 σ pb tb ib H2 δ2 v2 y) o,Rep X.K (av B O ia) H2 (av B O ia) o d -> Q o H2 := fun v2 H2 R2 o ho => k o H2 ⟨R2.sta,R1.frm.trans R2.frm,fun z => by
  obtain⟨z1,z2⟩:=(A3 _ _).mp z
  exact(R1.pur z1).trans (R2.pur z2),ho.mono (fun _ z=>z) yBJ⟩
 cases x with
 |dct ks ds=>
  cases y with
  |str z=>
   cases h3
   generalize hx:Dat.dct ks ds=dd at R1
   have r1:=R1.rep
   cases r1 with
   | @dct _ l kvs ds' qd n r=>
    cases hx
    refine⟨l,rfl,.inl ⟨.inl ⟨_,.inl qd⟩,B,O,δ1,_,δ2,R1.sta,h2,fun v2 H2 R2=> ?_⟩⟩
    have r2:=R2.rep
    cases r2
    have h4:H2 l=some (.dK kvs)/\RepA X.K (av B O ia) H2 (kvs.map C2) ds:=by
     cases pb with
     |true=>exact⟨R2.pur rfl _ _ qd,r.same (R2.pur rfl)⟩
     |false=>
      have hs:(ta && ia)=true:=by simpa using hs
      obtain⟨z1,z2⟩:=(A3 _ _).mp hs
      subst z1 z2
      exact⟨R2.frm _ _ qd fun w=>absurd (.inr w) n,r.fr R2.frm fun a z=> .inr z⟩
    refine⟨_,DGet.k (k:= .inr z) h4.1,fin _ _ R2 _ ?_⟩
    rcases zH9 (k:= .inr z) h4.2 with⟨v,d',g1,g2,g3⟩|⟨g1,g2⟩
    ·rw[g1,g2];exact g3
    ·rw[g1,g2];exact .non
   | @ktb _ l D ds' T r=>
    cases hx
    refine⟨l,rfl,.inr ⟨D,T,B,O,δ1,_,δ2,R1.sta,h2,fun v2 H2 R2=> ?_⟩⟩
    have r2:=R2.rep
    cases r2
    refine⟨z,rfl,fin _ _ R2 _ ?_⟩
    have r':RepA X.K (av B O ia) H2 (D.map C2) ds:=by
     cases pb with
     |true=>exact r.same (R2.pur rfl)
     |false=>
      have hs:(ta && ia)=true:=by simpa using hs
      obtain⟨z1,z2⟩:=(A3 _ _).mp hs
      subst z1 z2
      exact r.fr R2.frm fun a z=> .inr z
    rcases zI2 (k:=z) r' with⟨v,d',g1,g2,g3⟩|⟨g1,g2⟩
    ·rw[g1,g2];exact g3
    ·rw[g1,g2];exact .non
   |_=>cases hx
  |_=>cases h3
 |_=>cases h3
end
theorem zUU:As "all"=some (.builtin "all"):=by decide+kernel
theorem zX0:As "dict"=some (.type "dict"):=by decide+kernel
section
variable{X:Cx}{K:Ad}{ml:List Nat}{e a b c:Expr}{es:List Expr}{pa ta ia pb tb ib pc tc ic pu bt bi ps bs:Bool}{fa fb fc f:VF}{B B':Bs}{O:Nat->Option Addr}{H H0 H1 H':Hp}{σ:St}{δ δ':Ev}{v:V}{d:Dat}{p:Addr}{pos:Pos}
theorem zX2{ks:List Bool}{us:List Value}(r:Vals (ks.map V.bl) us){i:Nat}{u:Value}(h:us[i]? =some u): ∃k,ks[i]? =some k/\u= .bool k:=by
 have hl:=r.length
 rw[Bi] at hl
 have hi:i<us.length:=(A5.mp h).1
 have e:(ks.map V.bl)[i]? =some (.bl ks[i]):=by simp[hl▸hi]
 obtain⟨w,h1,h2⟩:=r.get e
 rw[h] at h1
 cases h1
 exact⟨ks[i],by simp[hl▸hi],h2⟩
theorem zPW{ks:List Bool}:(At ks.length).all (fun i=>(ks[i]?).getD true)=ks.all id:=by
 induction ks with
 |nil=>rfl
 |cons k ks ih=>
  rw[B0,Hj,Lo,Ly,Lo,<- ih]
  rfl
def zSQ(K:Ad)(g:List Bool->Bool):RC:=fun xs H Q=> ∃p ks,xs=[.ref p]/\SqL K H p (ks.map V.bl)/\Q (.bl (g ks)) H
theorem zSF{prog:Aw}{w:World}{A:C3}{ks:List Bool}{us:List Value}(r:Vals (ks.map V.bl) us):TruthOf prog w A (fun i v=>us.toArray[i]? =some v) fun i=>(ks[i]?).getD true:=by
 intro i v s Q E hP hQ
 obtain⟨k,h1,rfl⟩:=zX2 r (by simpa using hP)
 have hQ:Q ((ks[i]?).getD true) s:=hQ
 rw[h1] at hQ
 exact D7 hQ
theorem zRQ(hc:X.calm=true):zBW X (.builtin "all") (zSQ X.K fun ks=>ks.all id):=by
 intro a6 s σ H xs us Q I r h
 obtain⟨l,ks,rfl,hq,q⟩:=h
 obtain⟨u,rfl,rx⟩:=zH0 r
 cases rx
 obtain⟨its,rv,pl,hz⟩:=I.list hq
 have hl:=pl.isList
 have hne:l≠s.heap.objs.size:=by obtain⟨o,g,_⟩:=hl;exact Au (Ac g)
 have a9:=rv.length
 rw[Bi] at a9
 refine call_all_walk (E8 hl ⟨_,_,_,_,_,_,_,rfl,Walks.list (show X.A.in1.handled=none from I.ok.hd hc) s.heap.objs.size l hne its.toArray,⟨⟨_,Ai _ rfl,rfl,rfl⟩,?_⟩,zSF rv,fun h' tk hk=> ?_⟩)
 ·obtain⟨o,g,r⟩:=hl
  exact⟨o,A1 _ g,r⟩
 ·rw[Af,<- a9,zPW]
  exact⟨.bl _,H,I.kept (t':=tk) fun b o g=>hk b o (by simp;exact Au (Ac g)) (A1 _ g),rfl,q⟩
theorem kAll(h:X.K=K)(hc:X.calm=true):zBW X (.builtin "all") (zSQ K fun ks=>ks.all id):=by subst h;exact zRQ hc
noncomputable def blsD:List Dat->Option (List Bool)
 |[]=>some []
 | .bl k::ds=>(blsD ds).map fun ks=>k::ks
 |_=>none
theorem zRT{N:Addr->Prop}: ∀{xs:List V} {ds:List Dat} {ks:List Bool},RepA K N H xs ds->blsD ds=some ks->xs=ks.map V.bl
 | _,_,_,.nil,h => by cases h;rfl
 | _,_,_,@RepA.cons _ _ _ v vs d ds h t,e => by
  cases d with
  |bl k=>
   cases h
   have e:(blsD ds).map (fun ks=>k::ks)=some _:=e
   cases h2:blsD ds with
   |none=>rw[h2] at e;cases e
   |some ks'=>
    rw[h2] at e
    cases e
    rw[zRT t h2,An]
  |_=>cases e
noncomputable def zWC(g:List Bool->Bool):Dat->Option Dat
 | .lst ds=>(blsD ds).map fun ks=> .bl (g ks)
 |_=>none
noncomputable abbrev oAll:=zWC fun ks=>ks.all id
theorem zY3{g:List Bool->Bool}:CalS K (zSQ K g) (zWC g):=by
 intro H N M x d c Q hx h k
 cases d with
 |lst ds=>
  have h:(blsD ds).map (fun ks=>Dat.bl (g ks))=some c:=h
  cases h1:blsD ds with
  |none=>rw[h1] at h;cases h
  |some ks=>
   rw[h1] at h
   cases h
   obtain⟨a,xs,rfl,sq,r⟩:=hx.lstE
   have:=zRT r h1
   subst this
   exact⟨a,ks,rfl,sq,k _ fun _ _ _=> .bl _⟩
 |_=>cases h
theorem zY4:CalS K (zSQ K fun ks=>ks.all id) oAll:=zY3
noncomputable def zE9:List Dat->Option (List Int)
 |[]=>some []
 | .int i::ds=>(zE9 ds).map fun ns=>i::ns
 |_=>none
theorem zHA{N:Addr->Prop}: ∀{xs:List V} {ds:List Dat} {ns:List Int},RepA K N H xs ds->zE9 ds=some ns->xs=ns.map V.int
 | _,_,_,.nil,h => by cases h;rfl
 | _,_,_,@RepA.cons _ _ _ v vs d ds h t,e => by
  cases d with
  |int k=>
   cases h
   have e:(zE9 ds).map (fun ks=>k::ks)=some _:=e
   cases h2:zE9 ds with
   |none=>rw[h2] at e;cases e
   |some ks'=>
    rw[h2] at e
    cases e
    rw[zHA t h2,An]
  |_=>cases e
theorem zJA{N:Addr->Prop}: ∀ns:List Int,RepA K N H (ns.map V.int) (ns.map Dat.int)
 |[]=> .nil
 |i::ns=> .cons (.int i) (zJA ns)
noncomputable def zJ6(ns:List Int):List Int:=ns.mergeSort (fun a b=>decide (a<=b))
theorem zML{ms ns:List Int}(h1:ms.Perm ns)(h2:ms.Pairwise (· <= ·)):ms=zJ6 ns:=by
 have p:(zJ6 ns).Perm ns:=List.mergeSort_perm _ _
 have s:(zJ6 ns).Pairwise (fun a b=>decide (a<=b)=true):=List.pairwise_mergeSort (fun a b c h1 h2=>by simp at h1 h2⊢;omega) (fun a b=>by simp;omega) ns
 have s':(zJ6 ns).Pairwise (· <= ·):=s.imp fun h=>of_decide_eq_true h
 exact List.Perm.eq_of_pairwise (fun a b _ _ h1 h2=>Int.le_antisymm h1 h2) h2 s' (h1.trans p.symm)
noncomputable def zQK:Dat->Option Dat
 | .lst ds=>(zE9 ds).bind fun ns=>if ns.length<64 then some (.lst ((zJ6 ns).map Dat.int)) else none
 |_=>none
def zUB(K:Ad):RC:=fun xs H Q=> ∃(p:Addr) (ns:List Int),xs=[.ref p]/\SqL K H p (ns.map V.int)/\ns.length<64/\ ∀(l:Addr) (ms:List Int),H l=none->ms.Perm ns->ms.Pairwise (· <= ·)->Q (.ref l) (upd H l (.lst (ms.map V.int)))
theorem yAT(h:X.K=K):zBW X (.builtin "sorted") (zUB K):=zWN h
theorem zWG:CalN K (zUB K) zQK:=by
 intro H N M x d c Q hx h k
 cases d with
 |lst ds=>
  have h:((zE9 ds).bind fun ns=>if ns.length<64 then some (Dat.lst ((zJ6 ns).map Dat.int)) else none)=some c:=h
  cases h1:zE9 ds with
  | none => rw [h1] at h;cases h
  |some ns=>
   rw[h1] at h
   have h:(if ns.length<64 then some (Dat.lst ((zJ6 ns).map Dat.int)) else none)=some c:=h
   split at h
   ·rename_i hl
    cases h
    obtain⟨a,xs,rfl,sq,r⟩:=hx.lstE
    have:=zHA r h1
    subst this
    refine⟨a,ns,rfl,sq,hl,fun l ms hl' h2 h3=> ?_⟩
    have:=zML h2 h3
    subst this
    exact k l _ _ hl' (zJA _) rfl
   ·cases h
 |_=>cases h
theorem rngI{a:Int}{n:Nat}{acc:Array Value}(h:ItemsOf (fun i v=> ∃t,v= .int (a+i*1) t) acc n):Vals ((At n).map fun i:Nat=>V.int (a+i)) acc.toList:=by
 obtain⟨h1,h2⟩:=h
 have go: ∀(m:Nat) (us:List Value),us.length=m-> ∀k:Nat,(∀(i:Nat) (v:Value),us[i]? =some v-> ∃t,v= .int (a+((k+i:Nat):Int)*1) t)->Vals ((At m).map fun i:Nat=>V.int (a+((k+i:Nat):Int))) us:=by
  intro m
  induction m with
  | zero => intro us hl k _;rw [Du.mp hl];exact .nil
  |succ m ih=>
   intro us hl k hu
   cases us with
   | nil => cases hl
   |cons u us=>
    rw[Hj,An,Jz]
    obtain⟨t,ht⟩:=hu 0 u rfl
    refine .cons ⟨t,by rw[ht];simp⟩ ?_
    have:=ih us (by simpa using hl) (k+1) fun i v e=>by
     obtain⟨t,h⟩:=hu (i+1) v (by simpa using e)
     exact⟨t,by rw[h,show k+(i+1)=k+1+i by omega]⟩
    have e:((fun i:Nat=>V.int (a+((k+i:Nat):Int)))∘Nat.succ)=fun i:Nat=>V.int (a+((k+1+i:Nat):Int)):=by
     funext i
     simp only[Lp,Nat.succ_eq_add_one]
     rw[show k+(i+1)=k+1+i by omega]
    rw[e]
    exact this
 have:=go n acc.toList (by simpa using h1) 0 fun i v e=>by
  have:=h2 i v (by simpa using e)
  simpa using this
 simpa using this
theorem zM3:zBW X (.type "range") (fun xs H Q=> ∃j,xs=[.int j]/\ ∀p,H p=none->Q (.ref p) (upd H p (.ext (rngP p 0 j 1)))):=by
 intro a6 s σ H xs us Q I r h
 obtain⟨j,rfl,q⟩:=h
 obtain⟨u,rfl,t,rfl⟩:=zH0 r
 refine call_range_1 ?_
 have hn:=I.hok.fresh (Ae s.heap.objs.size)
 refine⟨.ref s.heap.objs.size,_,I.laid (a:=s.heap.objs.size) (o:= .ext (rngP s.heap.objs.size 0 j 1)) (t':=s.toks+1+1) (fun _ _ z=>A1 _ z) (Ae _) ?_,rfl,q _ hn⟩
 exact⟨⟨_,_,_,Kk ..⟩,⟨_,Ai _ rfl⟩,fun h1 h2 ⟨t,u,v,z⟩ k=>⟨t,u,v,k _ z⟩⟩
theorem zJR(hc:X.calm=true):zBW X (.type "list") (fun xs H Q=> ∃(p:Addr) (j:Int),xs=[.ref p]/\H p=some (.ext (rngP p 0 j 1))/\(0<=j/\j<=16777216)/\ ∀l,H l=none->Q (.ref l) (upd H l (.lst ((At j.toNat).map fun i:Nat=>V.int (0+i))))):=by
 intro a6 s σ H xs us Q I r h
 obtain⟨p,j,rfl,hp,hj,q⟩:=h
 obtain⟨u,rfl,rx⟩:=zH0 r
 cases rx
 obtain⟨⟨t,u,v,z⟩,_⟩:=I.hok p _ hp
 have hn:Co 0 j 1=(j.toNat:Int):=by
  unfold Co
  rw[if_pos (by decide)]
  split
  ·rw[Int.ediv_one]
   omega
  ·omega
 have p62:(2:Int) ^ 62=4611686018427387904:=by decide
 have p24:(2:Nat) ^ 24=16777216:=by decide
 have sm:M6 0 j 1=true:=small_one (a:=0) (b:=j) (by rw[p62];decide) (by rw[p62];decide) (by rw[p62];omega) (by rw[p62];omega)
 refine call_list_range (I.ok.hd hc) z sm hn (by rw[p24];omega) fun h' tk acc c kp hS hI=> ?_
 have rv:=rngI hI
 refine⟨.ref s.heap.objs.size,_,I.laid (a:=s.heap.objs.size) (o:= .lst ((At j.toNat).map fun i:Nat=>V.int (0+i))) (t':=tk) kp (Ae _) ⟨?_,acc.toList,c,rv,by simpa using hS⟩,rfl,q _ (I.hok.fresh (Ae _))⟩
 rw[Bi,F7,Bt]
 omega
noncomputable def zGD(f:VF):VF:=fun δ=>(f δ).bind fun p=>match p.1 with
 | .int j=>if 0<=j/\j<=16777216 then some (.lst (rngD 0 j.toNat),p.2) else none
 |_=>none
theorem zVJ{N:Addr->Prop}(lo:Int)(n:Nat):RepA K N H ((At n).map fun i:Nat=>V.int (lo+i)) (rngD lo n):=by
 unfold rngD
 induction (At n) with
 |nil=>exact .nil
 |cons x xs ih=>exact .cons (.int _) ih
theorem zOR{p1 p2 cg:Pos}(hc:X.calm=true)(hg:Gl X "list") (hm:X.mg "list"=none) (hv:As "list"=some (.type "list")) (hg2:Gl X "range") (hm2:X.mg "range"=none) (hv2:As "range"=some (.type "range")) (ha:PE X a (TV K ml pa ta ia fa))
  (he : A2 (a :: []) X.env = (false,eval a X.env) :: A2 [] X.env := by rfl) (he2 : A2 (.Call (.Name "range" p2) [a] [] cg :: []) X.env = (false,eval (.Call (.Name "range" p2) [a] [] cg) X.env) :: A2 [] X.env := by rfl) :
  PE X (.Call (.Name "list" p1) [.Call (.Name "range" p2) [a] [] cg] [] pos) (TN K ml pa (zGD fa)):=
 (zDA (zJR hc) hg hm hv (zAO (zDA zM3 hg2 hm2 hv2 (zAO ha zBT he) (by decide) (by decide) he) zBT he2) (by decide) (by decide) he2).imp fun σ H Q q0 => by
  obtain⟨B,O,δ,d,δ',S,q,k⟩:=q0
  unfold zGD at q
  cases h1:fa δ with
  | none => rw [h1] at q;cases q
  |some p1=>
   obtain⟨x,δ1⟩:=p1
   rw[h1] at q
   cases x with
   |int j=>
    have q:(if 0<=j/\j<=16777216 then some (Dat.lst (rngD 0 j.toNat),δ1) else none)=some (d,δ'):=q
    split at q
    ·rename_i hj
     cases q
     refine⟨B,O,δ,_,_,S,h1,fun v1 H1 R1=> ?_⟩
     have r1:=R1.rep
     cases r1
     refine⟨j,rfl,fun p hp=>⟨p,j,rfl,zAH,hj,fun l hl=> ?_⟩⟩
     have sm:Same H1 (upd H1 p (.ext (rngP p 0 j 1))):=zA5 hp
     exact k l _ (mkN (R1.sta.same sm) (R1.frm.trans sm.fr) (fun z=>(R1.pur z).trans sm) hl (zVJ 0 j.toNat))
    ·cases q
   |_=>cases q
end
section
variable{X:Cx}{K:Ad}{ml:List Nat}{e a b c:Expr}{es:List Expr}{pa ta ia pb tb ib pc tc ic pu bt bi ps bs:Bool}{fa fb fc f:VF}{B B':Bs}{O:Nat->Option Addr}{H H0 H1 H':Hp}{σ:St}{δ δ':Ev}{v:V}{d:Dat}{p:Addr}{pos:Pos}
noncomputable def posI(n:Int):List Int->Option Nat
 |[]=>none
 |i::ns=>if i=n then some 0 else(posI n ns).map (· +1)
theorem zKG{n:Int}: ∀{ns:List Int} {j:Nat},posI n ns=some j->ns[j]? =some n/\ ∀m,m<j->ns[m]? ≠some n
 | [],_,h => by cases h
 | i :: ns,j,h => by
  unfold posI at h
  split at h
  ·rename_i hi
   cases h
   exact⟨by rw[hi];rfl,fun m hm=>absurd hm (Ku _)⟩
  ·rename_i hi
   cases h1:posI n ns with
   |none=>rw[h1] at h;cases h
   |some k=>
    rw[h1] at h
    cases h
    obtain⟨h2,h3⟩:=zKG h1
    refine⟨by simpa using h2,fun m hm=> ?_⟩
    cases m with
    |zero=>simpa using hi
    |succ m=>simpa using h3 m (Nat.lt_of_succ_lt_succ hm)
theorem zMG{ns:List Int}{us:List Value}(r:Vals (ns.map V.int) us){m:Nat}{u:Value}(h:us[m]? =some u): ∃i t,ns[m]? =some i/\u= .int i t:=by
 have hl:=r.length
 rw[Bi] at hl
 have hm:m<us.length:=(A5.mp h).1
 have e:(ns.map V.int)[m]? =some (.int ns[m]):=by simp[hl▸hm]
 obtain⟨u',e1,t,e2⟩:=r.get e
 rw[h] at e1
 cases e1
 exact⟨ns[m],t,by simp[hl▸hm],e2⟩
noncomputable def zKO(n:Int):Value->Bool
 | .int i _=>i==n
 |_=>false
theorem zUP{ns:List Int}{its:List Value}{n:Int}{j:Nat}(r:Vals (ns.map V.int) its)(h:posI n ns=some j):
  ∃hj:j<its.toArray.size,zKO n its.toArray[j]=true/\(∀m (hm:m<its.toArray.size),m<j->zKO n its.toArray[m]=false):=by
 obtain⟨h1,h2⟩:=zKG h
 have hl:=r.length
 rw[Bi] at hl
 have hj:j<ns.length:=(A5.mp h1).1
 have at_: ∀(m:Nat) (hm:m<its.toArray.size),∃i t,ns[m]? =some i/\its.toArray[m]= .int i t:=fun m hm=>by
  have hm':m<its.length:=by simpa using hm
  exact zMG r (u:=its.toArray[m]) (by simp[hm'])
 refine⟨by simpa[<- hl] using hj,?_,fun m hm hmj=> ?_⟩
 ·obtain ⟨i,t',e1,e2⟩ := at_ j (by simpa [<- hl] using hj)
  rw[h1] at e1
  cases e1
  rw[e2]
  simp[zKO]
 ·obtain⟨i,t',e1,e2⟩:=at_ m hm
  have:=h2 m hmj
  rw[e1] at this
  rw[e2]
  exact beq_eq_false_iff_ne.mpr fun z=>this (by rw[z])
theorem zUO{ns:List Int}{its:List Value}(r:Vals (ns.map V.int) its){y:Value}(hy:y∈its.toArray): ∃i t,y= .int i t:=by
 obtain⟨m,hm,rfl⟩:=Array.mem_iff_getElem.mp hy
 have hm':m<its.length:=by simpa using hm
 obtain⟨i,t,_,e⟩:=zMG r (m:=m) (u:=its.toArray[m]) (by simp[hm'])
 exact⟨i,t,e⟩
def zUC(K:Ad):V->List V->Hp->VK->Prop:=fun x vs H Q=> ∃(l:Addr) (ns:List Int) (n:Int) (j:Nat),x= .ref l/\vs=[.int n]/\SqL K H l (ns.map V.int)/\posI n ns=some j/\Q (.int j) H
theorem zQP:MtM X "list.index" (zUC X.K):=by
 intro a6 s σ H x vs v us Q I rx rv h
 obtain⟨l,ns,n,j,rfl,rfl,hq,hj,q⟩:=h
 cases rx
 obtain⟨u,rfl,t,rfl⟩:=rv.one
 obtain⟨its,r,⟨o,c,e,hc,hd,c5⟩,hz⟩:=I.list hq
 obtain⟨cls,dd,data,sl⟩:=o
 simp only at hc hd c5
 subst hc hd c5
 obtain⟨hjs,h1,h2⟩:=zUP r hj
 have hl:=r.length
 refine Ji F.slot_list_index ⟨_,e,rfl⟩ F.entry_list_index (F.args_list_index_2 _ _) (SeqAt.list_indexAt l its.toArray c none sl (.int n t) (zKO n) j hjs (by
  have h3:its.length<=16777216:=by rw[<- hl,<- Bt];exact hz
  have h4:j<its.length:=by simpa using hjs
  omega) h1 h2) ⟨e,?_,?_⟩
 ·intro y hy
  obtain⟨i,t',rfl⟩:=zUO r hy
  exact SeqAt.EqAt.int_int i t' n t
 ·exact⟨.int j,H,I.tok _,⟨_,rfl⟩,q⟩
theorem yAU(h:X.K=K):MtM X "list.index" (zUC K):=by subst h;exact zQP
noncomputable def zQL:Dat->Dat->Option Dat
 | .lst ds,.int n=>(zE9 ds).bind fun ns=>(posI n ns).map fun j=> .int j
 |_,_=>none
theorem zS5{aj a8:Pos}(hK:X.K=K)(ha:PE X a (TV K ml pa ta ia fa))(hb:PE X b (TV K ml pb tb ib fb))
  (b9 : Es a "index" X.env (eval a X.env) = eval a X.env := by rfl)
  (cq : ((Dc a8 (A2 (b :: []) X.env)).all (fun x => !x.1) && (J7 a8 (Fu [] X.env)).all (fun x => x.1.isSome)
   && decide ((b :: ([] : List Expr)).length + ([] : List Fv).length + (if ([] : List Fv).isEmpty then 0 else 1) < 30)) = true := by rfl)
  (b8 : (aj.endLine == a8.line) = true := by rfl) (hs : A2 (b :: []) X.env = (false,eval b X.env) :: A2 [] X.env := by rfl) (au : (Dc a8 (A2 [] X.env)).any (·.1) = false := by rfl) (hl : (pb || (ta && ia)) = true := by rfl) :
  PE X (.Call (.Attribute a "index" aj) [b] [] a8) (TV K ml (pa && pb) true true (f2 zQL fa fb)):=
 (kBm (K := K) hK Gy PySem.F.slot_list_index PySem.F.type_list_index (yAU hK) ha (zAO hb zBT hs) b9 cq b8 hs au).imp fun σ H Q q0 => by
  obtain⟨B,O,δ,d,δ2,S,q,k⟩:=q0
  obtain⟨x,δ1,y,h1,h2,h3⟩:=zIS q
  refine⟨B,O,δ,x,δ1,S,h1,fun v1 H1 R1=> ?_⟩
  cases x with
  |lst ds=>
   cases y with
   |int n=>
    have h3:((zE9 ds).bind fun ns=>(posI n ns).map fun j=>Dat.int j)=some d:=h3
    cases h4:zE9 ds with
    | none => rw [h4] at h3;cases h3
    |some ns=>
     rw[h4] at h3
     have h3:(posI n ns).map (fun j=>Dat.int j)=some d:=h3
     cases h5:posI n ns with
     | none => rw [h5] at h3;cases h3
     |some j=>
      rw[h5] at h3
      cases h3
      obtain⟨l,xs,rfl,sq,_⟩:=R1.rep.lstE
      refine⟨.inl ⟨rfl,xs,sq⟩,B,O,δ1,_,δ2,R1.sta,h2,fun v2 H2 R2=> ?_⟩
      have r2:=R2.rep
      cases r2
      obtain⟨l',xs',e1,sq',r'⟩:=(R2.live hl R1.rep).lstE
      cases e1
      have:=zHA r' h4
      subst this
      exact⟨l,ns,n,j,rfl,rfl,sq',h5,k _ H2 ⟨R2.sta,R1.frm.trans R2.frm,fun z=>by
       obtain⟨z1,z2⟩:=(A3 _ _).mp z
       exact(R1.pur z1).trans (R2.pur z2),.int _⟩⟩
   |_=>cases h3
  |_=>cases h3
def zPY:V->List V->Hp->VK->Prop:=fun x vs H Q=> ∃(l:Addr) (ns:List Int) (n:Int) (j:Nat),x= .ref l/\vs=[.int n]/\H l=some (.lst (ns.map V.int))/\posI n ns=some j/\Q .non (upd H l (.lst ((ns.eraseIdx j).map V.int)))
theorem zKW{α β:Type}(g:α->β): ∀(l:List α) (j:Nat),(l.map g).eraseIdx j=(l.eraseIdx j).map g
 |[],_=>by simp
 |_::_,0=>by simp
 |x::l,j+1=>by simp[zKW g l j]
theorem zQO:MtM X "list.remove" zPY:=by
 intro a6 s σ H x vs v us Q I rx rv h
 obtain⟨l,ns,n,j,rfl,rfl,hH,hj,q⟩:=h
 cases rx
 obtain⟨u,rfl,t,rfl⟩:=rv.one
 obtain⟨z,its,c,r,hl,e⟩:=I.lstM hH
 obtain⟨hjs,h1,h2⟩:=zUP r hj
 refine Ji F.slot_list_remove ⟨_,e,rfl⟩ F.entry_list_remove (F.args_list_remove_2 _ _) (MeetsSeq.list_remove l its.toArray c (.int n t) (zKO n) (fun y hy=> ?_) j hjs h1 h2 (by rw[Af,<- hl];exact z)) ⟨e,?_⟩
 ·obtain⟨i,t',rfl⟩:=zUO r hy
  exact M0 i n t' t
 ·have hlj : j < its.length := by simpa using hjs
  refine⟨.non,_,I.lset (its':=its.eraseIdx j) hH e (by simp[Go,hlj]) (ys:=(ns.eraseIdx j).map V.int) ?_ ?_,rfl,q⟩
  ·have:=Vals.eraseIdx j r
   rwa[zKW] at this
  ·rw[Bi]
   have h1:=List.length_eraseIdx_le ns j
   rw[Bi] at z
   omega
noncomputable def mRem:List Dat->List Dat->Option (List Dat)
 |ds,[.int n]=>(zE9 ds).bind fun ns=>(posI n ns).map fun j=>(ns.eraseIdx j).map Dat.int
 |_,_=>none
theorem yAE:MuV K zPY mRem:=by
 intro H N l xs vs ds es ds' Q hl hN rx re h k
 cases re with
 | nil => cases h
 | @cons v vs d es hd t=>
  cases t with
  | cons _ _ => cases d <;> cases h
  |nil=>
   cases d with
   |int n=>
    cases hd
    have h:((zE9 ds).bind fun ns=>(posI n ns).map fun j=>(ns.eraseIdx j).map Dat.int)=some ds':=h
    cases h4:zE9 ds with
    | none => rw [h4] at h;cases h
    |some ns=>
     rw[h4] at h
     have h:(posI n ns).map (fun j=>(ns.eraseIdx j).map Dat.int)=some ds':=h
     cases h5:posI n ns with
     |none=>rw[h5] at h;cases h
     |some j=>
      rw[h5] at h
      cases h
      have:=zHA rx h4
      subst this
      exact⟨l,ns,n,j,rfl,rfl,hl,h5,k _ _ (zJA _)⟩
   |_=>cases h
end
section
variable{X:Cx}{K:Ad}{ml:List Nat}{e:Expr}{es:List Expr}{pu bt bi bs:Bool}{f:VF}{fs:VFs}
theorem zA7(h:PE X e (TV K ml pu bt bi f))(hb:(bt && bi)=true:=by rfl):PE X e (TV K ml pu true true f):=by
 obtain⟨h1,h2⟩:=(A3 _ _).mp hb
 subst h1 h2
 exact h
theorem zS6(h:PE X e (TV K ml pu bt bi f))(hb:bi=true:=by rfl):PE X e (TV K ml pu bt true f):=by
 subst hb
 exact h
theorem zAM(h:PA X es (TAV K ml pu bs fs))(hb:bs=true:=by rfl):PA X es (TAV K ml pu true fs):=by
 subst hb
 exact h
theorem zME{st:Stmt}:PS X st (TSt K ml fun _=>none):=fun _ _ _ _ _ _ ⟨_,_,_,_,_,q,_⟩=>nomatch q
variable{a b c:Expr}{pa ta ia pb tb ib pc tc ic:Bool}{fa fb fc:VF}{pos:Pos}{δ:Ev}
noncomputable def zDQ(i j k:Int):Int:=if i<j then(j - i - 1)/k+1 else 0
noncomputable def zNK(fa fb fc:VF):VF:=fun δ=>(fa δ).bind fun p=>(fb p.2).bind fun q=>(fc q.2).bind fun r=>match p.1,q.1,r.1 with
 | .int i,.int j,.int k=>if(0<k/\k<1073741824)/\zDQ i j k<9223372036854775808 then some (.int (zDQ i j k),r.2) else none
 |_,_,_=>none
theorem zJ9{i j k:Int}(hk:0<k):0<=zDQ i j k:=by
 unfold zDQ
 split
 ·have := Ic (show 0 <= j - i - 1 by omega) (show 0 <= k by omega)
  omega
 ·omega
theorem zS4{p1 p2 cg:Pos}(hg:Gl X "len") (hm:X.mg "len"=none) (hv:As "len"=some (.builtin "len")) (hg2:Gl X "range") (hm2:X.mg "range"=none) (hv2:As "range"=some (.type "range"))
  (ha:PE X a (TV K ml pa ta ia fa)) (hb:PE X b (TV K ml pb tb ib fb)) (hc:PE X c (TV K ml pc tc ic fc))
  (he : A2 (a :: [b,c]) X.env = (false,eval a X.env) :: A2 [b,c] X.env := by rfl) (he2 : A2 (b :: [c]) X.env = (false,eval b X.env) :: A2 [c] X.env := by rfl) (he3 : A2 (c :: []) X.env = (false,eval c X.env) :: A2 [] X.env := by rfl) (hpl : (Dc cg (A2 [b,c] X.env)).any (·.1) = false := by rfl)
  (he4 : A2 (.Call (.Name "range" p2) [a,b,c] [] cg :: []) X.env = (false,eval (.Call (.Name "range" p2) [a,b,c] [] cg) X.env) :: A2 [] X.env := by rfl) :
  PE X (.Call (.Name "len" p1) [.Call (.Name "range" p2) [a,b,c] [] cg] [] pos) (TV K ml (pa && pb && pc) true true (zNK fa fb fc)):=
 (zH8 zL7 hg hm hv (zAO (zDA zM2 hg2 hm2 hv2 (zAO ha (zAO hb (zAO hc zBT he3) he2) he) (by decide) (by decide) he hpl) zBT he4) (by decide) (by decide) he4).imp fun σ H Q q0 => by
  obtain⟨B,O,δ,d,δ3,S,q,k⟩:=q0
  unfold zNK at q
  cases h1:fa δ with
  | none => rw [h1] at q;cases q
  |some p1=>
   obtain⟨x,δ1⟩:=p1
   rw[h1] at q
   cases h2:fb δ1 with
   | none => simp [h2] at q
   |some p2=>
    obtain⟨y,δ2⟩:=p2
    simp only[Aa,h2] at q
    cases h3:fc δ2 with
    | none => simp [h3] at q
    |some p3=>
     obtain⟨z,δ4⟩:=p3
     simp only[Aa,h3] at q
     cases x with
     |int i=>
      cases y with
      |int j=>
       cases z with
       |int kk=>
        have q:(if(0<kk/\kk<1073741824)/\zDQ i j kk<9223372036854775808 then some (Dat.int (zDQ i j kk),δ4) else none)=some (d,δ3):=q
        split at q
        ·rename_i hh
         cases q
         refine⟨B,O,δ,_,δ1,S,h1,fun v1 H1 R1=>⟨B,O,δ1,_,δ2,R1.sta,h2,fun v2 H2 R2=>⟨B,O,δ2,_,_,R2.sta,h3,fun v3 H3 R3=> ?_⟩⟩⟩
         have e1:v1= .int i:=by
          have r:=R1.rep
          cases r
          rfl
         have e2:v2= .int j:=by
          have r:=R2.rep
          cases r
          rfl
         have e3:v3= .int kk:=by
          have r:=R3.rep
          cases r
          rfl
         subst e1 e2 e3
         refine⟨i,j,kk,rfl,hh.1.1,hh.1.2,fun p hp=> ?_⟩
         obtain⟨n,hn⟩:=Int.eq_ofNat_of_zero_le (zJ9 (i:=i) (j:=j) hh.1.1)
         have hr:Co i j kk=(n:Int):=by
          rw[<- hn]
          unfold Co zDQ
          rw[if_pos hh.1.1]
         have sm:Same H3 (upd H3 p (.ext (rngP p i j kk))):=zA5 hp
         refine⟨p,i,j,kk,n,rfl,zAH,hr,?_,?_⟩
         ·have : (2 : Int) ^ 63 = 9223372036854775808 := by decide
          omega
         ·rw[<- hn]
          exact k _ _ ⟨R3.sta.same sm,((R1.frm.trans R2.frm).trans R3.frm).trans sm.fr,fun z=>by
           simp only[A3] at z
           exact(((R1.pur z.1.1).trans (R2.pur z.1.2)).trans (R3.pur z.2)).trans sm,.int _⟩
        ·cases q
       |_=>cases q
      |_=>cases q
     |_=>cases q
end
section
variable{X:Cx}{K:Ad}{ml:List Nat}{e a b c:Expr}{pa ta ia pb tb ib pu:Bool}{fa fb fc f:VF}{B:Bs}{O:Nat->Option Addr}{H H':Hp}{σ:St}{δ δ':Ev}{v:V}{d:Dat}{p:Addr}{pos:Pos}{ks:List (Option Expr)}{vs:List Expr}
theorem zHP: ∀{more acc:List (Key×V)},((acc++more).map Bh).Nodup->zER acc more=acc++more
 | [],acc,_ => by simp [zER]
 | (k,v) :: more,acc,nd => by
  have hk: ∀q∈acc,q.1≠k:=fun q hq z=>by
   rw[Ex,An] at nd
   exact(List.nodup_append.mp nd).2.2 q.1 (List.mem_map_of_mem hq) k (by simp) z
  have hn:valV acc k=none:=by
   unfold valV
   rw[List.find?_eq_none.mpr fun q hq=>by simpa using hk q hq]
   rfl
  show zER (putK acc k v) more=_
  rw[zST v hn,zHP (by simpa using nd)]
  simp
abbrev VPr:=Ev->Option (List (Key×Dat)×Ev)
def TPD(K:Ad)(ml:List Nat)(pu:Bool)(f:VPr)(σ:St)(H:Hp)(Q:List (V×V)->Hp->Prop):Prop:= ∃B O δ kds δ',Sta K ml B O H σ δ/\f δ=some (kds,δ')∧
 ∀(kvs:List (Key×V)) H',Sta K ml B O H' σ δ'->Fr (OA O) H H'->(pu=true->Same H H')->kvs.map Bh=kds.map Bh->RepA K (Nn B O) H' (kvs.map C2) (kds.map C2)->Q (kvs.map fun kv=>(kV kv.1,kv.2)) H'
def PPV(X:Cx)(K:Ad)(ml:List Nat)(pu:Bool)(pos:Pos)(ks:List (Option Expr))(vs:List Expr)(f:VPr):Prop:= ∃trs,PPs X pos ks vs trs/\ ∀σ H Q,TPD K ml pu f σ H Q->zMJ trs σ H Q
noncomputable def zVS:VPr:=fun δ=>some ([],δ)
noncomputable def zIG(fk fv:VF)(fs:VPr):VPr:=fun δ=>(fk δ).bind fun p=>(keyD p.1).bind fun k=>(fv p.2).bind fun q=>(fs q.2).map fun r=>((k,q.1)::r.1,r.2)
theorem zV3:PPV X K ml true pos [] [] zVS:=⟨[],zVT,fun σ H Q q0=>by
 obtain⟨B,O,δ,kds,δ',S,q,k⟩:=q0
 cases q
 exact k [] H S (Fr.refl _ _) (fun _=>Same.refl _) rfl .nil⟩
theorem zJ0{fs:VPr}(hk:PE X a (TV K ml pa ta ia fa))(hv:PE X b (TV K ml pb true true fb))(hr:PPV X K ml pu pos ks vs fs):PPV X K ml (pa && pb && pu) pos (some a::ks) (b::vs) (zIG fa fb fs):=by
 obtain⟨trs,h1,h2⟩:=hr
 refine⟨_,zSW hk hv h1,fun σ H Q ⟨B,O,δ,kds,δ3,S,q,k⟩=> ?_⟩
 unfold zIG at q
 cases e1:fa δ with
 | none => rw [e1] at q;cases q
 |some p1=>
  obtain⟨x,δ1⟩:=p1
  rw[e1] at q
  cases e2:keyD x with
  | none => simp [e2] at q
  |some kk=>
   simp only[Aa,e2] at q
   cases e3:fb δ1 with
   | none => simp [e3] at q
   |some p3=>
    obtain⟨y,δ2⟩:=p3
    simp only[Aa,e3] at q
    cases e4:fs δ2 with
    |none=>simp[e4] at q
    |some p4=>
     obtain⟨aa,δ4⟩:=p4
     simp only[e4] at q
     cases q
     refine⟨B,O,δ,x,δ1,S,e1,fun v1 H1 R1=>⟨B,O,δ1,y,δ2,R1.sta,e3,fun v2 H2 R2=>h2 _ _ _ ⟨B,O,δ2,aa,_,R2.sta,e4,fun kvs H3 S3 f3 p3 hk3 r3=> ?_⟩⟩⟩
     have ek:=R1.rep.key e2
     subst ek
     refine k ((kk,v2)::kvs) H3 S3 ((R1.frm.trans R2.frm).trans f3) (fun z=> ?_) (by simp[hk3]) (.cons (R2.rep.fr f3 (fun a z=> .inr z) fun a z=> .inr z) r3)
     simp only[A3] at z
     exact((R1.pur z.1.1).trans (R2.pur z.1.2)).trans (p3 z.2)
noncomputable def zTP(fs:VPr):VF:=fun δ=>(fs δ).bind fun p=>if(p.1.map Bh).Nodup/\p.1.length<=15 then some (.dct (p.1.map Bh) (p.1.map C2),p.2) else none
theorem zV4{fs:VPr}(h:PPV X K ml pu pos ks vs fs)(cu:ks.all (·.isSome)=true)(hl:ks.length=vs.length)(h0:ks≠[])(h15:ks.length<=15):PE X (.Dict ks vs pos) (TN K ml pu (zTP fs)):=by
 obtain⟨trs,h1,h2⟩:=h
 refine(zW1 h1 cu hl h0 h15).imp fun σ H Q ⟨B,O,δ,d,δ',S,q,k⟩ p hp=> ?_
 unfold zTP at q
 cases e1:fs δ with
 | none => rw [e1] at q;cases q
 |some z=>
  obtain⟨kds,δ1⟩:=z
  rw[e1] at q
  have q:(if(kds.map Bh).Nodup/\kds.length<=15 then some (Dat.dct (kds.map Bh) (kds.map C2),δ1) else none)=some (d,δ'):=q
  split at q
  ·rename_i hh
   cases q
   have S1:=S.laid (o:= .dK []) hp
   refine h2 _ _ _ ⟨B.add p,O,δ,kds,_,S1,e1,fun kvs H2 S2 f2 p2 hk r=> ?_⟩
   have hpO: ¬OA O p:=fun⟨i,w⟩=>(S2.old i p w).1 (.inr rfl)
   have hp2:H2 p=some (.dK []):=f2 _ _ zAH fun w=>absurd w hpO
   have a9:kvs.length=kds.length:=by
    have:=congrArg List.length hk
    simpa using this
   refine⟨hp2,kvs,rfl,by rw[a9];exact hh.2,?_⟩
   have hm:zER [] kvs=kvs:=zHP (acc:=[]) (by simpa[hk] using hh.1)
   rw[hm]
   have hZ:(B.add p).Z p:= .inr rfl
   have fw:Fr (fun b=>b=p) H2 (upd H2 p (.dK kvs)):=fun b u q n=>by
    by_cases hb:b=p
    ·subst hb
     rw[hp2] at q
     cases q
     exact absurd (n rfl) fun z=>z
    ·rw[zAV hb]
     exact q
   have hN: ∀b,b=p->Nn (B.add p) O b:=fun b w=> .inl (w▸hZ)
   have w:Own K (Nn (B.add p) O) (upd H2 p (.dK kvs)) p (.dct (kvs.map Bh) (kds.map C2)):= .dct zAH (r.fr fw hN)
   rw[hk] at w
   have S3:Sta K ml (B.add p) O (upd H2 p (.dK kvs)) σ δ':=by
    have hin: ∀b,(∃u,H2 b=some u)-> ∃u,upd H2 p (.dK kvs) b=some u:=fun b q0=>by
     obtain⟨u,q⟩:=q0
     by_cases hb:b=p
     ·exact ⟨_,by rw [hb];exact zAH⟩
     ·exact ⟨u,by rw [zAV hb];exact q⟩
    refine⟨S2.len,fun i d q=> ?_,fun i d q=> ?_,S2.dom,S2.inj,S2.old,fun b h=>hin b (S2.zin b h),fun b u q n=> ?_,S2.par,fun b h=>hin b (S2.pin b h),fun z hz=>(S2.kep z hz).fr fw hN hN⟩
    ·obtain⟨v,e,r⟩:=S2.va i d q
     exact⟨v,e,r.fr fw hN hN⟩
    ·obtain⟨a,e,e2,w⟩:=S2.ow i d q
     exact⟨a,e,e2,w.fr fw hN fun z=>(S2.old i a e).1 (z▸hZ)⟩
    ·have hb : b ≠ p := fun z => by
      have q:B.H0 b=some u:=q
      rw[z,S.fresh hp] at q
      cases q
     rw[zAV hb]
     exact S2.frm b u q n
   refine k p _ ⟨S3,fun b o e n=> ?_,fun z=> ?_,w,S.new hp,S.fresh hp⟩
   ·have hb : b ≠ p := fun z => by rw [z,hp] at e;cases e
    rw[zAV hb]
    exact f2 b o (zA5 hp _ _ e) n
   ·intro b o e
    have hb:b≠p:=fun z=>by rw[z,hp] at e;cases e
    rw[zAV hb]
    exact p2 z b o (zA5 hp _ _ e)
  ·cases q
end
theorem zI5: ∀(names:List (Str×NameKind)) (n:Nat) (acc:List (Str×Addr)),cellsFrom n names acc=cellsFrom n names []++acc
 | [],_,_ => rfl
 | (x,k) :: r,n,acc => by
  unfold cellsFrom
  split
  ·rw[zI5 r (n+1) ((x,n)::acc),zI5 r (n+1) [(x,n)]]
   simp
  ·exact zI5 r n acc
theorem zRK: ∀{names:List (Str×NameKind)} {n:Nat} {x:Str} {c:Addr},(x,c)∈cellsFrom n names []->(x,Bk)∈names
 | [],_,_,_,h => nomatch h
 | (y,k) :: r,n,x,c,h => by
  unfold cellsFrom at h
  split at h
  ·rename_i hk
   rw[zI5] at h
   rcases B5.mp h with h|h
   ·exact Ag _ (zRK h)
   ·cases Ah.mp h
    rw[show k=Bk from beq_iff_eq.mp hk]
    exact Ak
  ·exact Ag _ (zRK h)
theorem zRL: ∀{names:List (Str×NameKind)} {n:Nat} {x:Str},(x,Bk)∈names-> ∃c,(x,c)∈cellsFrom n names []
 | (y,k) :: r,n,x,h => by
  unfold cellsFrom
  rcases A8.mp h with e|h
  ·cases e
   rw[if_pos (by decide),zI5]
   exact⟨n,Ay _ (Ah.mpr rfl)⟩
  ·split
   ·rw[zI5]
    obtain⟨c,hc⟩:=zRL (n:=n+1) h
    exact⟨c,Bb _ hc⟩
   ·exact zRL h
theorem zIM: ∀{l:List (Str×Addr)} {x:Str} {c:Addr},(x,c)∈l-> ∃c',l.lookup x=some c'
 | (y,d) :: r,x,c,h => by
  rw[Bn]
  cases hb:x==y with
  | true => exact ⟨d,rfl⟩
  |false=>
   rcases A8.mp h with e|h
   ·cases e
    simp at hb
   ·exact zIM h
theorem zCP: ∀{l m:List (Str×Addr)} {x:Str} {c:Addr},(l++m).lookup x=some c->l.lookup x=some c∨(l.lookup x=none/\m.lookup x=some c)
 |[],_,_,_,h=> .inr ⟨rfl,h⟩
 |(y,d)::r,m,x,c,h=>by
  rw[Ee,Bn] at h
  rw[Bn]
  cases hb:x==y with
  |true=>rw[hb] at h;exact .inl h
  |false=>rw[hb] at h;exact zCP h
theorem zGH: ∀{l m:List (Str×Addr)} {x:Str},l.lookup x=none->(l++m).lookup x=m.lookup x
 |[],_,_,_=>rfl
 |(y,d)::r,m,x,h=>by
  rw[Bn] at h
  rw[Ee,Bn]
  cases hb:x==y with
  |true=>rw[hb] at h;cases h
  |false=>rw[hb] at h;exact zGH h
theorem zLQ{M:Model}{A:C3}{E:Value->A7->Prop}{s:A7}{scope:Scope}{globals:Addr}{cx:List (Str×Addr)}{qual:Str}{outer:Env}{Q:Env->A7->Prop}
  (hQ:Q (newEnv scope s.heap.objs.size globals (cellsFrom (s.heap.objs.size+1) scope.names cx) qual none .none (some outer) builtinsNs) {s with heap:=Kw (s.heap.push {cls:= .type "dict",data:= .dict #[]}) scope.names}):
  wpAny M A (Io scope globals cx [] qual none .none (some outer)) Q E s:=by
 simp only[Io,J8,if_true]
 refine A0 (wpAny_alloc ?_)
 refine A0 (wpAny_layCells _ (fun name kind cells=>by cases hkc:kind==Bk<;>simp[hkc]) _ _ _ _ ?_)
 rw[show({s with heap:=s.heap.push {cls:= .type "dict",data:= .dict #[]}}:A7).heap.objs.size=s.heap.objs.size+1 from Cj ..]
 rw[Im]
 exact A0 (A9 (A9 hQ))
theorem zEY: ∀{l m:List (Str×Addr)} {x:Str} {c:Addr},l.lookup x=some c->(l++m).lookup x=some c
 |(y,d)::r,m,x,c,h=>by
  rw[Bn] at h
  rw[Ee,Bn]
  cases hb:x==y with
  |true=>rw[hb] at h;exact h
  |false=>rw[hb] at h;exact zEY h
structure zJU(X:Cx)(N':List Str)(ix:List Nat)(scope:Scope):Prop where
 kind:scope.kind= .function
 cel: ∀y∈scope.names,y.2= .cell->scope.names.lookup y.1=some .cell
 names: ∀y∈scope.names,y.2= .local->scope.names.lookup y.1=some .local
 free: ∀y∈scope.names,y.2= .free->X.env.kindOf y.1=some .cell∨X.env.kindOf y.1=some .free
 nd:N'.Nodup
 cap: ∀j,j<ix.length->N'[j]? =(ix[j]?).bind fun i=>X.N[i]?
 capf: ∀x∈N'.take ix.length,scope.names.lookup x=some .free
noncomputable def zC8(X:Cx)(N':List Str)(scope:Scope)(cl:List (Str×Addr))(s1:A7)(H1:Hp)(fp:List Addr):Cx:=
 {X with N:=N',s₀:=s1,H₀:=H1,env:=compEnvC scope cl s1.heap.objs.size X.env,outer:=X.stack,stack:=X.stack,ex:=fp,fn:=fun x=>scope.names.lookup x==some Bk,pn:=[],xe:=fun _ _=>False}
theorem zE5{env:Env}{x:Str}: ∀{l:List (Str×NameKind)},
  ((l.map fun (n,k) => if (k == Az && env.scope.kind == .function && env.kindOf n == some .cell) then (n,Bk) else (n,k)).lookup x = some .cell ∨
  (l.map fun (n,k) => if (k == Az && env.scope.kind == .function && env.kindOf n == some .cell) then (n,Bk) else (n,k)).lookup x = some .free) -> (x,Az) ∈ l ∨ (x,Bk) ∈ l
 | [],h => by rcases h with z | z <;> cases z
 | (n,k) :: r,h => by
  have h:Iy x ((if(k==Az && env.scope.kind== .function && env.kindOf n==some .cell)=true then(n,Bk) else(n,k))::r.map fun(n,k)=>if(k==Az && env.scope.kind== .function && env.kindOf n==some .cell) then(n,Bk) else(n,k))=some .cell∨
   Iy x ((if(k==Az && env.scope.kind== .function && env.kindOf n==some .cell)=true then(n,Bk) else(n,k))::r.map fun(n,k)=>if(k==Az && env.scope.kind== .function && env.kindOf n==some .cell) then(n,Bk) else(n,k))=some .free:=h
  by_cases hc:(k==Az && env.scope.kind== .function && env.kindOf n==some .cell)=true
  ·rw[if_pos hc] at h
   by_cases hx:x=n
   ·subst hx
    have hk:k= .free:=by
     simp only[A3] at hc
     exact beq_iff_eq.mp hc.1.1
    subst hk
    exact .inl Ak
   ·have hb:(x==n)=false:=beq_eq_false_iff_ne.mpr hx
    simp only[Bn,hb] at h
    rcases zE5 (env:=env) h with z|z
    ·exact .inl (Ag _ z)
    ·exact .inr (Ag _ z)
  ·rw[if_neg hc] at h
   by_cases hx:x=n
   ·subst hx
    rw[Cg] at h
    rcases h with z|z
    ·cases z;exact .inr Ak
    ·cases z;exact .inl Ak
   ·have hb:(x==n)=false:=beq_eq_false_iff_ne.mpr hx
    simp only[Bn,hb] at h
    rcases zE5 (env:=env) h with z|z
    ·exact .inl (Ag _ z)
    ·exact .inr (Ag _ z)
theorem zIT{X:Cx}{a6:List (Addr×Obj)}{σ:St}{H2:Hp}{s2:A7}{E:Value->A7->Prop}{tg iter elt:Expr}{ifs:List Expr}{scope:Scope}{pos:Pos}{N':List Str}{ix:List Nat}{nl:Nat}{g:TG}{tt:TT}{te:TE}
  {cl:List (Str×Addr)} {J:It} {fp:List Addr} {it:Addr} {tn:Nat->Heap->Prop} {Q:V->Hp->Prop} {RR:Value->Addr->Result->A7->Prop}
  (hc:X.calm=true) (S:zJU X N' ix scope) (hnl:N'.length=ix.length+nl)
  (cr: ∀x c,cl.lookup x=some c->X.env.cells.lookup x=some c) (ls: ∀x,(x,Az)∈scope.names-> ∃c,cl.lookup x=some c)
  (blk: ∀(cl:List (Str×Addr)) (s1:A7) (H1:Hp) (fp:List Addr),Blk (zC8 X N' scope cl s1 H1 fp) tg ifs elt g tt te)
  (I2:Inv X a6 σ H2 s2) (T:Turn X.prog X.w X.K tg J fp it tn) (st2:tn 0 s2.heap) (f2: ∀b∈fp,FpOk X a6 H2 b)
  (h : ∀ D,H2 D = none -> yBM D ix nl J g tt te σ H2 fun H' => Q (.ref D) H')
  (fin: ∀(D C:Addr) (s':A7) (H':Hp),Inv X a6 σ H' s'->(∃m,s'.heap.Ns C m)->C≠X.env.locals->(∀x c,X.env.cells.lookup x=some c->c≠C)→
   (∀(σ':St) (s'':A7) (h'':Heap),Inv X a6 σ' H' s''->Dt C s''.heap h''->Inv X a6 σ' H' {s'' with heap:=h''})->Q (.ref D) H'->RR (.ref D) C (.ok .next) s'):
  wpAny (model X.prog X.w) X.A (newList []) (fun acc s₃=>wpAny (model X.prog X.w) X.A (Io scope X.env.globals cl [] X.env.qual none .none (some X.env)) (fun ly s₄=>
   Iu (model X.prog X.w) X.A (.compStart (.ListComp elt [⟨tg,iter,ifs,0⟩] scope pos) 0 (.ref it) acc {ly with scope:=relabel scope X.env}) (RR acc ly.locals) s₄) E s₃) E s2:=by
 refine C6 (zLQ ?_)
 dsimp only
 have I1:Inv X a6 σ (upd H2 s2.heap.objs.size (.lst [])) {s2 with heap:=s2.heap.push {cls:= .type "list",dict:=none,data:= .seq ([]:List Value).toArray}}:=
  I2.lnew (t':=s2.toks) (ys:=[]) (its:=[]) .nil (Cc _)
 have hDn:H2 s2.heap.objs.size=none:=I2.hok.fresh (Ae _)
 obtain⟨W,⟨m0,w0⟩,turn⟩:=h _ hDn
 generalize hs1:({s2 with heap:=s2.heap.push {cls:= .type "list",dict:=none,data:= .seq ([]:List Value).toArray}}:A7)=s1 at I1
 have dr:s2.heap.push {cls:= .type "list",dict:=none,data:= .seq ([]:List Value).toArray}=s1.heap:=by rw[<- hs1]
 rw[dr]
 have old: ∀b o,s1.heap.get? b=some o->(Kw (s1.heap.push {cls:= .type "dict",data:= .dict #[]}) scope.names).get? b=some o:=fun b o e=>pushCells_keeps _ _ _ _ (A1 _ e)
 have hns₁:(Kw (s1.heap.push {cls:= .type "dict",data:= .dict #[]}) scope.names).Ns s1.heap.objs.size (fun _=>none):=(Heap.Ns.new s1.heap (.type "dict")).keeps fun b o e=>pushCells_keeps _ _ _ _ e
 have okc:=cellsFrom_ok scope.names (s1.heap.push {cls:= .type "dict",data:= .dict #[]}) (s1.heap.objs.size+1) [] ⟨fun _ _ hm=>(nomatch hm),Jm⟩ (by rw[Cj];exact Ae _)
 rw[Cj] at okc
 generalize hz1:Kw (s1.heap.push {cls:= .type "dict",data:= .dict #[]}) scope.names=h₁ at old hns₁ okc
 rw[zI5]
 generalize hnc:cellsFrom (s1.heap.objs.size+1) scope.names []=nc at okc
 have ncm: ∀x c,nc.lookup x=some c->(x,Bk)∈scope.names/\h₁.IsCell c none/\s1.heap.objs.size+1<=c:=fun x c e=>by
  have hm:=Bu e
  exact⟨zRK (n:=s1.heap.objs.size+1) (by rw[hnc];exact hm),okc.empty x c hm⟩
 have nch: ∀x,(x,Bk)∈scope.names-> ∃c,nc.lookup x=some c:=fun x h=>by
  obtain⟨c,hc⟩:=zRL (n:=s1.heap.objs.size+1) h
  rw[hnc] at hc
  exact zIM hc
 have i6: ∀b∈fp,b<s2.heap.objs.size:=fun b hb=>by
  obtain⟨o,e,_⟩:=T.obj _ _ st2 b hb
  exact Ac e
 have lh:s1.heap.objs.size=s2.heap.objs.size+1:=by rw[<- dr,Cj]
 have ma: ∀b o,s2.heap.get? b=some o->s1.heap.get? b=some o:=fun b o e=>by rw[<- dr];exact A1 _ e
 have dz: ∀x c,cl.lookup x=some c->c<s1.heap.objs.size:=fun x c e=>by
  obtain⟨v,q⟩:=I1.cell x c (cr x c e)
  exact q.lt
 have og: ∀b∈frs X.stack,b<s1.heap.objs.size:=fun b hb=>by
  obtain⟨_,o,ho,_⟩:=(I1.stack).mem hb
  exact Ac ho
 have okY:(zC8 X N' scope (nc++cl) s1 (upd H2 s2.heap.objs.size (.lst [])) fp).Ok:=by
  refine⟨I1.ok.mod,S.kind,I1.ok.glob,I1.ok.blt,Ae _,fun x y c e1 e2=> ?_,fun x hx=> ?_,fun x c hf e=> ?_,I1.ok.hd,I1.ok.frames,.inl rfl,fun b hb=>⟨?_,fun x c e=> ?_⟩,fun b o e=> ?_,
   Df I1.ok.bsz I1.sz,fun b o e hb=> ?_,fun b hb hb2=> ?_,I1.stack,I1.stkFree⟩
  ·rcases zCP e1 with n1|⟨_,o1⟩
   ·rcases zCP e2 with n2|⟨_,o2⟩
    ·exact PySem.name_of_addr okc.apart (Bu n1) (Bu n2)
    ·exact absurd (Aq (dz y c o2) (Fa (ncm x c n1).2.2)) (Bo _)
   ·rcases zCP e2 with n2|⟨_,o2⟩
    ·exact absurd (Aq (dz x c o1) (Fa (ncm y c n2).2.2)) (Bo _)
    ·exact I1.ok.inj x y c (cr x c o1) (cr y c o2)
  ·cases q:nc.lookup x with
   | some c => exact ⟨c,zEY q⟩
   |none=>
    rcases zE5 hx with h|h
    ·obtain⟨c,hc⟩:=ls x h
     exact⟨c,(zGH q).trans hc⟩
    ·obtain⟨c,hc⟩:=nch x h
     rw[q] at hc
     cases hc
  ·have hx:(x,Bk)∈scope.names:=Bu (beq_iff_eq.mp hf)
   obtain⟨c',hc'⟩:=nch x hx
   have:=zEY (m:=cl) hc'
   have e:(nc++cl).lookup x=some c:=e
   rw[this] at e
   cases e
   exact Fa (ncm x c hc').2.2
  ·exact Au (Aq (i6 b hb) (by show s2.heap.objs.size <= s1.heap.objs.size;rw [lh];exact E3 _))
  ·rcases zCP e with n1|⟨_,o1⟩
   ·have h1:=i6 b hb
    have h2:=(ncm x c n1).2.2
    rw[lh] at h2
    exact fun z=>absurd (z▸h2) (Nat.not_le_of_lt (Aq h1 (Df (E3 _) (E3 _))))
   ·exact(f2 b hb).2.2.2.2.1 x c (cr x c o1)
  ·exact I1.bs b o e
  ·have:=(f2 b hb)
   obtain⟨o',e',_⟩:=T.obj _ _ st2 b hb
   have hlt:=Aq (Ac e) I1.ok.bsz
   rcases this.2.2.2.1 with z|z
   ·exact I1.ok.noex b o e z
   ·exact absurd (Aq hlt z) (Bo _)
  ·rcases A8.mp (I1.stkSub b hb2) with z|z
   ·exact(f2 b hb).2.1 z
   ·exact(f2 b hb).2.2.1 z
 have gu : (caps ix σ ++ B4 nl none).length = N'.length := by rw [Bg,Hs,hnl];simp [caps]
 have IY:Inv (zC8 X N' scope (nc++cl) s1 (upd H2 s2.heap.objs.size (.lst [])) fp) [] (caps ix σ++B4 nl none) (upd H2 s2.heap.objs.size (.lst [])) {s2 with heap:=h₁}:=by
  refine⟨okY,?_,I2.bare,Un.kept old,⟨_,hns₁,fun j x v e1 e2 e3=> ?_⟩,fun x c e=> ?_,I1.hok.fresh (Ae _),fun x c e=> ?_,fun p hp=>absurd (show p∈([]:List (Addr×Obj)) from hp) (by simp),I1.hok.kept old,gu⟩
  ·show s2.os=s1.os
   rw[<- hs1]
  ·have hj:j<ix.length:=by
    by_cases hj:j<ix.length
    ·exact hj
    ·exfalso
     have hl:(caps ix σ).length=ix.length:=by simp[caps]
     rw[Ar (by rw[hl];omega),Cr] at e2
     split at e2<;>cases e2
   have hl:(caps ix σ).length=ix.length:=by simp[caps]
   rw [A6 (by rw [hl];exact hj)] at e2
   have hci:=S.cap j hj
   obtain⟨i,hi⟩: ∃i,ix[j]? =some i:=⟨ix[j],by simp[hj]⟩
   rw[hi] at hci
   have hNi:X.N[i]? =some x:=by
    have:N'[j]? =X.N[i]? :=hci
    rw[<- this];exact e1
   have hσ:σ[i]? =some (some v):=by
    unfold caps at e2
    rw[C7,hi] at e2
    have e2':(σ[i]?).join=some v:=by simpa using e2
    cases q:σ[i]? with
    | none => rw [q] at e2';cases e2'
    | some o => rw [q] at e2';rw [show o = some v from e2']
   have hfl:scope.names.lookup x=some .free:=S.capf x (by
    rw[Ib]
    exact⟨j,by rw[C1 hj];exact e1⟩)
   have ay:(x,Az)∈scope.names:=Bu hfl
   have hpk:X.env.kindOf x=some .cell∨X.env.kindOf x=some .free:=by exact S.free (x,.free) ay rfl
   have mv:Vis X.env.scope x:=by
    rcases hpk with z|z
    ·exact .inr (.inl z)
    ·exact .inr (.inr z)
   obtain⟨m,hn,nu⟩:=I1.loc
   obtain⟨u,ru,l⟩:=nu i x v hNi hσ mv
   refine⟨u,ru,?_⟩
   rcases l with⟨hk,_⟩|⟨hk,c,ec,z⟩
   ·rcases hpk with q|q<;>rw[hk] at q<;>cases q
   ·obtain⟨c',hc'⟩:=ls x ay
    have:c'=c:=by
     have:=cr x c' hc'
     rw[ec] at this;exact(Ba this).symm
    subst this
    have ni:nc.lookup x=none:=by
     cases q:nc.lookup x with
     |none=>rfl
     |some d=>
      have:=S.cel (x,.cell) (ncm x d q).1 rfl
      rw[hfl] at this
      cases this
    refine .inr ⟨zGR hfl,c',(zGH ni).trans hc',?_⟩
    ·obtain⟨o,ho,hd⟩:=z
     exact⟨o,old _ _ ho,hd⟩
  ·rcases zCP e with n1|⟨_,o1⟩
   ·exact⟨none,(ncm x c n1).2.1⟩
   ·obtain⟨v,o,ho,hd⟩:=I1.cell x c (cr x c o1)
    exact⟨v,o,old _ _ ho,hd⟩
  ·rcases zCP e with n1|⟨_,o1⟩
   ·exact I1.hok.fresh (Fa (ncm x c n1).2.2)
   ·exact I1.freeC x c (cr x c o1)
 have o7: ∀{pY:List (Addr×Obj)} {σ':St} {H':Hp} {s':A7},Inv (zC8 X N' scope (nc++cl) s1 (upd H2 s2.heap.objs.size (.lst [])) fp) pY σ' H' s'->Inv X a6 σ H' s':=fun{pY σ' H' s'} J'=>
  I1.call' J'.os J'.base J'.hok J'.bare fun b hb=>⟨(f2 b hb).2.2.2.1,(f2 b hb).2.1,(f2 b hb).2.2.2.2.1,(f2 b hb).2.2.2.2.2⟩
 have stat: ∀{H':Hp} {pY:List (Addr×Obj)},(∀b∈fp,H' b=none)->pY=[]-> ∀b∈fp,FpOk (zC8 X N' scope (nc++cl) s1 (upd H2 s2.heap.objs.size (.lst [])) fp) pY H' b:=fun{H' pY} hn hp b hb=>by
  subst hp
  refine⟨hn b hb,(okY.exf b hb).1,okY.exfs b hb,.inl hb,(okY.exf b hb).2,fun p hp=>absurd (show p∈([]:List (Addr×Obj)) from hp) (by simp)⟩
 have st1:tn 0 h₁:=T.keep 0 s2.heap h₁ st2 fun b hb o e=>old b o (ma b o e)
 have fr1: ∀b∈fp,(upd H2 s2.heap.objs.size (.lst [])) b=none:=fun b hb=>by
  rw[zAV (Au (i6 b hb))]
  exact(f2 b hb).1
 have loop: ∀s₃:A7,s₃={s2 with heap:=h₁}→
   Iu (model X.prog X.w) X.A (.compLoop (.ListComp elt [⟨tg,iter,ifs,0⟩] scope pos) 0 (.ref it) (.ref s2.heap.objs.size) (compEnvC scope (nc++cl) s1.heap.objs.size X.env)) (RR (.ref s2.heap.objs.size) s1.heap.objs.size) s₃:=by
  rintro s₃ rfl
  refine zRH (fun n s'=> ∃i σ' H' acc,Inv (zC8 X N' scope (nc++cl) s1 (upd H2 s2.heap.objs.size (.lst [])) fp) [] σ' H' s'/\σ'.take ix.length=caps ix σ/\tn i s'.heap/\(∀b∈fp,H' b=none)/\W i n acc H') ?_ m0
   ⟨0,_,_,[],IY,by rw [Bw (by simp [caps])];exact Bm (by simp [caps]),st1,fr1,w0⟩
  rintro n s' ⟨i,σ',H',acc,J',hσ,st',fr',w'⟩
  have Jc:Inv (zC8 X N' scope (nc++cl) s1 (upd H2 s2.heap.objs.size (.lst [])) fp) [] (caps ix σ++B4 nl none) H' s':=by
   refine J'.weak (by rw[gu];exact J'.len.symm) fun j v e=> ?_
   have hl:(caps ix σ).length=ix.length:=by simp[caps]
   by_cases hj:j<ix.length
   ·rw [A6 (by rw [hl];exact hj),<- hσ,C1 hj] at e
    exact e
   ·rw [Ar (by rw [hl];omega),Cr] at e
    split at e<;>cases e
  rcases turn i n acc H' w' with⟨stop,q⟩|⟨go,N,hN,step⟩
  ·refine Br (T.done (zC8 X N' scope (nc ++ cl) s1 (upd H2 s2.heap.objs.size (.lst [])) fp) rfl rfl rfl hc i [] s' _ H' (fun _ _ => False) Jc (stat fr' rfl) st' stop) (fun r s4 ⟨hr,I4⟩ => ?_) fun _ _ z => z
   subst hr
   have IX:=o7 I4
   obtain⟨m,hm,_⟩:=I4.loc
   exact fin _ _ s4 H' IX ⟨m,hm⟩ (Eg I1.lt) (fun x c e z=>by
    obtain⟨v,q⟩:=I1.cell x c e
    have:=q.lt
    rw[z] at this
    exact Bo _ this) (fun σ'' s'' h'' I'' sb=>Inv.offNew I1 I'' I4.free fun b o hb e=>(sb.2 b hb).trans e) q
  ·refine Br (T.item (zC8 X N' scope (nc ++ cl) s1 (upd H2 s2.heap.objs.size (.lst [])) fp) rfl rfl rfl hc i [] s' _ H' (fun _ _ => False) Jc (stat fr' rfl) st' go) (fun r s4 ⟨u,hr,h4⟩ => ?_) fun _ _ z => z
   subst hr
   refine Br h4 (fun _ s5 ⟨x,H5,I5,r5,y5,st5,fr5⟩=> ?_) fun _ _ z=>z
   have I5':=I5.pinned (stat fr5 rfl) (T.obj _ _ st5)
   obtain⟨btg,bts,bel⟩:=blk (nc++cl) s1 (upd H2 s2.heap.objs.size (.lst [])) fp
   refine Br (btg _ s5 _ H5 x u _ I5' r5 (step x H5 y5)) (fun _ s6 ⟨σ6,H6,I6,hσ6,q6⟩=> ?_) fun _ _ z=>z
   have zDZ: ∀{H7:Hp} {s7:A7} {ar:List V},Inv (zC8 X N' scope (nc++cl) s1 (upd H2 s2.heap.objs.size (.lst [])) fp) ([]++zKH fp s5.heap) σ6 H7 s7->N ar H7→
     ∃m,m<n/\ ∃i σ' H' acc,Inv (zC8 X N' scope (nc++cl) s1 (upd H2 s2.heap.objs.size (.lst [])) fp) [] σ' H' s7/\σ'.take ix.length=caps ix σ/\tn i s7.heap/\(∀b∈fp,H' b=none)/\W i m acc H':=fun{H7 s7 ar} I7 n7=>by
    obtain⟨m',hm,w7⟩:=hN ar H7 n7
    refine⟨m',hm,i+1,σ6,H7,ar,I7.unpinned,hσ6,T.keep _ _ _ st5 fun b hb o e=>(I7.pin (b,o) (Ay _ (Ay _ (zEJ hb e)))).1,fun b hb=> ?_,w7⟩
    obtain⟨o,e,d⟩:=T.obj _ _ st5 b hb
    exact(I7.pin (b,o) (Ay _ (Ay _ (zEJ hb e)))).2.1
   refine Br (bts _ s6 σ6 H6 _ I6 q6) (fun okb s7 ⟨H7,I7,q7⟩=> ?_) fun _ _ z=>z
   cases okb with
   | false => exact zDZ I7 q7
   |true=>
    refine Br (bel _ s7 σ6 H7 _ I7 q7) (fun v s8 ⟨y,H8,I8,r8,hD8,hz8,n8⟩=> ?_) fun _ _ z=>z
    refine Br (zB8 (X:=zC8 X N' scope (nc++cl) s1 (upd H2 s2.heap.objs.size (.lst [])) fp) _ s8 σ6 H8 (.ref s2.heap.objs.size) [y] (.ref s2.heap.objs.size) [v] (fun _ H9=>N (acc++[y]) H9) I8 rfl (.cons r8 .nil)
     ⟨s2.heap.objs.size,acc,y,rfl,rfl,hD8,hz8,n8⟩) (fun _ s9 ⟨_,H9,I9,_,n9⟩=>zDZ I9 n9) fun _ _ z=>z
 have he:({newEnv scope s1.heap.objs.size X.env.globals (nc++cl) X.env.qual none .none (some X.env) builtinsNs with scope:=relabel scope X.env}:Env)=compEnvC scope (nc++cl) s1.heap.objs.size X.env:=rfl
 exact codeAny_compStart_list (loop _ rfl) (T.self _ 0 _ _ _ st1 (loop _ rfl))
theorem zT3{X:Cx}{tg iter elt:Expr}{ifs:List Expr}{scope:Scope}{pos:Pos}{N':List Str}{ix:List Nat}{nl:Nat}{wi:TI}{g:TG}{tt:TT}{te:TE}
  (hc:X.calm=true) (S:zJU X N' ix scope) (hnl:N'.length=ix.length+nl) (hi:PI X tg iter wi)
  (blk: ∀(cl:List (Str×Addr)) (s1:A7) (H1:Hp) (fp:List Addr),Blk (zC8 X N' scope cl s1 H1 fp) tg ifs elt g tt te)
  (hs: ∀x,foldedSetIterable iter X.env x=pure x:=by intro _;rfl):PE X (.ListComp elt [⟨tg,iter,ifs,0⟩] scope pos) (zSI ix nl wi g tt te):=by
 intro a6 s σ H Q I h
 rw[eval_ListComp]
 obtain⟨cl,e1,e2,e3⟩:=zRI (env:=X.env) (scope:=scope) fun y hy hf=>I.ok.has y.1 (S.free y hy hf)
 refine Gp (use:=none) (cl:=cl) rfl hs e1 S.kind S.names (Br (hi a6 s σ H _ I h) (fun xv s₁ h₁=>Br h₁ (fun itv s₂ h₂=> ?_) fun _ _ e=>e) fun _ _ e=>e)
 obtain⟨it,fp,tn,J,H2,e,I2,T,st2,f2,q⟩:=h₂
 subst e
 refine zIT (Q:=Q) (RR:=fun acc C=>compPost (model X.prog X.w) X.A X.xe none (EP X a6 σ Q) acc C) hc S hnl e2 e3 blk I2 T st2 f2 q ?_
 intro D C s' H' I' hm hC1 hC2 hb hq
 obtain⟨m,hm⟩:=hm
 exact⟨m,hm,fun h'' sb=>⟨.ref D,H',hb σ s' h'' I' sb,rfl,hq⟩⟩
section
variable{X:Cx}{K:Ad}{ml:List Nat}{pi pt pe pu:Bool}{pos:Pos}{ix:List Nat}{nl:Nat}{f:VF}
noncomputable def zL0(N N':List Str)(ix:List Nat)(names:List (Str×NameKind))(k:Str->Option NameKind):Bool:=
 names.all (fun y=>y.2 != .cell || names.lookup y.1==some .cell) && (names.all (fun y=>y.2 != .local || names.lookup y.1==some .local) && (names.all (fun y=>y.2 != .free || (k y.1==some .cell || k y.1==some .free)) &&
  (decide N'.Nodup && ((At ix.length).all (fun j=>N'[j]? ==(ix[j]?).bind fun i=>N[i]?) && (N'.take ix.length).all fun x=>names.lookup x==some .free))))
theorem zDR{N':List Str}{scope:Scope}(hk:scope.kind= .function)(h:zL0 X.N N' ix scope.names X.env.kindOf=true):zJU X N' ix scope:=by
 unfold zL0 at h
 simp only[A3,Fd,Ew,bne_iff_ne,beq_iff_eq,decide_eq_true_eq,Bx] at h
 obtain⟨h1,h2,h3,h4,h5,h6⟩:=h
 exact⟨hk,fun y hy e=>(h1 y hy).resolve_left fun z=>z e,fun y hy e=>(h2 y hy).resolve_left fun z=>z e,fun y hy e=>(h3 y hy).resolve_left fun z=>z e,h4,h5,h6⟩
abbrev BlkC(X:Cx)(K:Ad)(N':List Str)(ix:List Nat)(scope:Scope)(tg:Expr)(ifs:List Expr)(elt:Expr)(gg:VG)(pt:Bool)(tb:VB)(pe:Bool)(fe:VF):Prop:=N'.Nodup-> ∀(cl:List (Str×Addr)) (s1:A7) (H1:Hp) (fp:List Addr),Blk (zC8 X N' scope cl s1 H1 fp) tg ifs elt (TGV K (At ix.length) gg) (TB K (At ix.length) pt tb) (TV K (At ix.length) pe true true fe)
theorem zC5{tg iter elt:Expr}{ifs:List Expr}{scope:Scope}{fi:VI}{gg:VG}{tb:VB}{fe:VF}(N':List Str)(ix:List Nat)(nl:Nat)(hi:PI X tg iter (TIV K ml pi fi))(blk:BlkC X K N' ix scope tg ifs elt gg pt tb pe fe)(hc:X.calm=true:=by rfl)(hk:scope.kind= .function:=by rfl)(hok:zL0 X.N N' ix scope.names X.env.kindOf=true:=by rfl)(hnl:N'.length=ix.length+nl:=by rfl)(hnd:ix.Nodup:=by decide)
  (hs: ∀x,foldedSetIterable iter X.env x=pure x:=by intro _;rfl):PE X (.ListComp elt [⟨tg,iter,ifs,0⟩] scope pos) (TN K ml (pi && pt && pe) (zCV ix nl fi gg tb fe)):=
 (zT3 hc (zDR hk hok) hnl hi (blk (zDR hk hok).nd) hs).imp fun _ _ _ h=>zOY hnd h
theorem zMZ{i:Nat}{y:Str}{py cf:Pos}{tg iter elt:Expr}{ifs:List Expr}{scope:Scope}{N':List Str}{wi:TI}{g:TG}{tt:TT}{te:TE}
  (hN:X.N.Nodup) (hi':X.N[i]? =some y) (hy:X.env.scope.names.lookup y=some .local)
  (hc:X.calm=true) (S:zJU X N' ix scope) (hnl:N'.length=ix.length+nl) (hi:PI X tg iter wi)
  (blk: ∀(cl:List (Str×Addr)) (s1:A7) (H1:Hp) (fp:List Addr),Blk (zC8 X N' scope cl s1 H1 fp) tg ifs elt g tt te)
  (hsw:El (.ListComp elt [⟨tg,iter,ifs,0⟩] scope pos) (some (.Name y py)) cf.line X.env=pure true:=by rfl)
  (hs: ∀x,foldedSetIterable iter X.env x=pure x:=by intro _;rfl):PS X (.Assign [.Name y py] (.ListComp elt [⟨tg,iter,ifs,0⟩] scope pos) cf) (tAsg (zSI ix nl wi g tt te) (zTO i)):=by
 intro a6 s σ H D I h
 rw[exec_Assign_Name_used _ _ _ _ hsw]
 refine A0 (E7 (A0 ?_))
 show wpAny _ X.A (do let _<- comprehension (.ListComp elt [⟨tg,iter,ifs,0⟩] scope pos) scope X.env _ (newList []) false (eval iter X.env) (some (assign (.Name y py) X.env))) _ _ s
 obtain⟨cl,e1,e2,e3⟩:=zRI (env:=X.env) (scope:=scope) fun y hy hf=>I.ok.has y.1 (S.free y hy hf)
 refine A0 (Br (Gp (use:=some (assign (.Name y py) X.env)) (cl:=cl) (Q:=fun _ s'=>SP X a6 D .next s') rfl hs e1 S.kind S.names
  (Br (hi a6 s σ H _ I h) (fun xv s₁ h₁=>Br h₁ (fun itv s₂ h₂=> ?_) fun _ _ e=>e) fun _ _ e=>e)) (fun _ s' hq=>A9 (A9 hq)) fun _ _ e=>e)
 obtain⟨it,fp,tn,J,H2,e,I2,T,st2,f2,q⟩:=h₂
 subst e
 refine zIT (Q:=fun v H'=>D.nx (σ.set i (some v)) H') (RR:=fun acc C=>compPost (model X.prog X.w) X.A X.xe (some (assign (.Name y py) X.env)) (fun _ s'=>SP X a6 D .next s') acc C) hc S hnl e2 e3 blk I2 T st2 f2 q ?_
 intro Dl C s' H' I' hm hC1 hC2 hb hq
 obtain⟨m,hm⟩:=hm
 show wpAny _ X.A (assign (.Name y py) X.env (.ref Dl)) _ _ _
 refine F1 (zK3 I' hN hi' (.inl hy) (v:= .ref Dl) rfl (fun s'' I'' ⟨a,hsb,ha⟩=> ?_) (.inr hy))
 have hCa:C≠a:=by
  rcases ha with z|z
  ·rw[z];exact hC1
  ·exact C9 (hC2 y a z)
 exact⟨m,hm.sameBut hsb hCa,fun h'' sb=>⟨_,H',hb _ s'' h'' I'' sb,hq⟩⟩
theorem zS2{i:Nat}{y:Str}{py cf:Pos}{tg iter elt:Expr}{ifs:List Expr}{scope:Scope}{fi:VI}{gg:VG}{tb:VB}{fe:VF}(o:Bool)(hN:X.N.Nodup)(N':List Str)(ix:List Nat)(nl:Nat)(hi:PI X tg iter (TIV K ml pi fi))(blk:BlkC X K N' ix scope tg ifs elt gg pt tb pe fe)(hi':X.N[i]? =some y:=by rfl)(hy:X.env.scope.names.lookup y=some .local:=by rfl)
  (hc:X.calm=true:=by rfl) (hk:scope.kind= .function:=by rfl) (hok:zL0 X.N N' ix scope.names X.env.kindOf=true:=by rfl) (hnl:N'.length=ix.length+nl:=by rfl) (hnd:ix.Nodup:=by decide) (hm:i∉ml:=by decide)
  (hsw:El (.ListComp elt [⟨tg,iter,ifs,0⟩] scope pos) (some (.Name y py)) cf.line X.env=pure true:=by rfl)
  (hs: ∀x,foldedSetIterable iter X.env x=pure x:=by intro _;rfl):PS X (.Assign [.Name y py] (.ListComp elt [⟨tg,iter,ifs,0⟩] scope pos) cf) (TSt K ml (sSet i (if o then xO (zCV ix nl fi gg tb fe) else xV (zCV ix nl fi gg tb fe)))):=
 (zMZ hN hi' hy hc (zDR hk hok) hnl hi (blk (zDR hk hok).nd) hsw hs).imp fun D σ H h=>zTY (fun σ H Q z=>zOY hnd (zXC (pu:=pi && pt && pe) z)) hm h
end
section
variable{X:Cx}{K:Ad}{ml:List Nat}{e a b c:Expr}{es:List Expr}{pi pt pe pu bt bi ps bs:Bool}{f:VF}{B B':Bs}{O:Nat->Option Addr}{H H0 H1 H':Hp}{σ:St}{δ δ':Ev}{v:V}{d:Dat}{p:Addr}{pos:Pos}{ix:List Nat}{nl:Nat}
def yFG(K:Ad)(N:Addr->Prop)(J:It)(H:Hp)(ds:List Dat):Prop:= ∃xs:List V,RepA K N H xs ds/\ ∀H2,Same H H2->(∀(i:Nat) (x:V),xs[i]? =some x->J.go i H2/\ ∀y H3,J.yld i H2 y H3->H3=H2/\y=x)/\J.stop xs.length H2
def TIVp(K:Ad)(ml:List Nat)(f:VI):TI:=fun σ H R=> ∃B O δ ds δ',Sta K ml B O H σ δ/\f δ=some (ds,δ')/\ ∀J H',Sta K ml B O H' σ δ'->Same H H'->yFG K (Nn B O) J H' ds->R J H'
theorem zSD{fi:VI}{gg:VG}{tb:VB}{fe:VF}(hnd:ix.Nodup){Q:VK}(h:TN K ml true (zCV ix nl fi gg tb fe) σ H Q):
  zSI ix nl (TIVp K ml fi) (TGV K (At ix.length) gg) (TB K (At ix.length) true tb) (TV K (At ix.length) true true true fe) σ H Q:=by
 obtain⟨B,O,δ,d,δ2,S,q,k⟩:=h
 unfold zCV at q
 cases h1:fi δ with
 | none => rw [h1] at q;cases q
 |some p=>
  obtain⟨ds,δ1⟩:=p
  rw[h1] at q
  have q : ((zC2 ix.length nl gg tb fe ds [] (zBG ix δ1)).map fun q => (Dat.lst q.1,zDE ix q.2 δ1)) = some (d,δ2) := q
  cases h2:zC2 ix.length nl gg tb fe ds [] (zBG ix δ1) with
  | none => rw [h2] at q;cases q
  |some z=>
   obtain⟨res,δf⟩:=z
   rw[h2] at q
   cases q
   refine⟨B,O,δ,ds,δ1,S,h1,fun J H0 S0 p0 wk D hD=> ?_⟩
   obtain⟨els,rel,wk⟩:=wk
   have hDO : ∀ j,Oc ix O j ≠ some D := fun j e => by
    unfold Oc at e
    cases hi:ix[j]? with
    | none => rw [hi] at e;cases e
    |some i=>
     rw[hi] at e
     obtain⟨o,q⟩:=S0.nin (.inr ⟨i,e⟩)
     rw[hD] at q
     cases q
   have dn : ∀ kp j,ix.length <= j -> (Bc ix B O H0 D kp).mu j = none := fun kp j hj => by
    show(ix[j]?).bind O=none
    rw[Bp hj]
    rfl
   refine⟨fun i m acc H1=>m=ds.length - i/\i<=ds.length/\ ∃(ai:List Dat) (δc:Ev),δc.length=ix.length/\acc.length=ai.length∧
     Sta K (At ix.length) (Bc ix B O H0 D (acc.zip ai)) (Oc ix O) H1 (caps ix σ++B4 nl none) (δc++nos nl)/\H1 D=some (.lst acc)/\Same H0 H1∧
     zC2 ix.length nl gg tb fe (ds.drop i) ai δc=some (res,δf),
    ⟨ds.length,rfl,Cc _,[],zBG ix δ1,by simp [zBG],rfl,by
     rw[Jp]
     exact S0.inner hD hnd fun p hp=>(nomatch hp),zAH,zA5 hD,h2⟩,?_⟩
   rintro i m acc H1 ⟨rfl,hi,ai,δc,hlc,aq,S1,hD1,bz,hc⟩
   have w:=wk H1 bz
   have mf:RepA K (Nn (Bc ix B O H0 D (acc.zip ai)) (Oc ix O)) H1 els ds:=(rel.away hD _ _ zLP).same bz
   by_cases hlt:i<ds.length
   ·obtain ⟨ex,ex1,ex2⟩ := mf.get (i := i) (d := ds[i]) (by simp [hlt])
    obtain⟨go,yl⟩:=w.1 i ex ex1
    rw[Cy hlt] at hc
    simp only[zC2] at hc
    cases g1:gg ds[i] (δc++nos nl) with
    | none => rw [g1] at hc;cases hc
    |some δ3=>
     rw[g1] at hc
     simp only[Aa] at hc
     cases g2:tb δ3 with
     | none => rw [g2] at hc;cases hc
     |some z=>
      obtain⟨kk,δ4⟩:=z
      rw[g2] at hc
      simp only[Aa] at hc
      refine .inr ⟨go,fun ar H'=> ∃(ai:List Dat) (δc:Ev),δc.length=ix.length/\ar.length=ai.length∧
       Sta K (At ix.length) (Bc ix B O H0 D (ar.zip ai)) (Oc ix O) H' (caps ix σ++B4 nl none) (δc++nos nl)/\H' D=some (.lst ar)/\Same H0 H'∧
       zC2 ix.length nl gg tb fe (ds.drop (i + 1)) ai δc = some (res,δf),fun ar H' w' => ⟨ds.length - (i + 1),by omega,rfl,hlt,w'⟩,fun x H2 hy => ?_⟩
      obtain⟨rfl,rfl⟩:=yl x H2 hy
      have rx:=ex2
      have sm:=Same.refl H2
      refine⟨_,_,_,ds[i],δ3,S1.same sm,rx,g1,fun σ3 O3 S3 m3=> ?_⟩
      have ln3:ix.length<=σ3.length:=by
       by_cases hz:ix.length=0
       ·omega
       ·have hj : ix.length - 1 < ix.length := by omega
        have:=m3 (ix.length - 1) (Bx.mpr hj)
        have hs:(caps ix σ++B4 nl none)[ix.length - 1]? ≠none:=by
         rw [A6 (by rw [zDH];exact hj)]
         simp[caps,hj]
        rw[<- this] at hs
        have nr:ix.length - 1<σ3.length:=K6 fun z=>hs (Gg.mpr z)
        omega
      have hσ3:=zK2 ln3 m3
      refine⟨hσ3,_,_,δ3,kk,δ4,S3,g2,fun H4 R4=> ?_⟩
      have hD4 : H4 D = some (.lst acc) := R4.frm _ _ (sm _ _ hD1) fun z => by
       obtain⟨j,e⟩:=z
       have:=(R4.sta.old j D e).1
       exact absurd (.inl (.inr rfl)) this
      have ln4 : ix.length <= δ4.length := by rw [<- R4.sta.len];exact ln3
      cases kk with
      |false=>
       rw[if_neg Cn] at hc
       refine iteF ⟨ai,δ4.take ix.length,by rw[Bf];omega,aq,R4.sta.turn (dn _) (zDH ix σ) hσ3 ln4,hD4,?_,hc⟩
       exact(bz.trans sm).trans (R4.pur rfl)
      |true=>
       rw[if_pos rfl] at hc
       cases g3:fe δ4 with
       | none => rw [g3] at hc;cases hc
       |some z=>
        obtain⟨dv,δ5⟩:=z
        rw[g3] at hc
        simp only[Aa] at hc
        split at hc
        ·rename_i hz
         refine iteT ⟨_,_,δ4,dv,δ5,R4.sta,g3,fun v H5 R5=> ?_⟩
         have hD5:H5 D=some (.lst acc):=R5.frm _ _ hD4 fun z=>by
          obtain⟨j,e⟩:=z
          have:=(R5.sta.old j D e).1
          exact absurd (.inl (.inr rfl)) this
         have ln5:ix.length<=δ5.length:=by rw[<- R5.sta.len];exact ln3
         have S6:=R5.sta.turn (nl:=nl) (dn _) (zDH ix σ) hσ3 ln5
         have hv:Rep K (Nn (Bc ix B O H0 D (acc.zip ai)) (Oc ix O)) H5 (Nn (Bc ix B O H0 D (acc.zip ai)) (Oc ix O)) v dv:=by
          have hN: ∀a,Nn (Bc ix B O H0 D (acc.zip ai)) (Oc ix O) a->av (Bc ix B O H0 D (acc.zip ai)) O3 true a:=fun a h=>by
           rcases h with h|⟨j,h⟩
           ·exact .inl h
           ·refine .inr ⟨j,?_⟩
            have hj:j∈At ix.length:=R5.sta.par.1 j a h
            rw[R5.sta.par.2 j hj]
            exact h
          exact R5.rep.mono hN hN
         have S7:=S6.withKp (kp:=(acc++[v]).zip (ai++[dv])) fun p hp=>by
          rw[Kq aq] at hp
          rcases B5.mp hp with z|z
          ·exact S6.kep p z
          ·rw[Ah.mp (show p∈[(v,dv)] from z)]
           exact hv
         refine⟨hD5,by rw[aq,Bt];exact hz,ai++[dv],δ5.take ix.length,by rw[Bf];omega,by simp[aq],?_,zAH,?_,hc⟩
         ·exact S7.writeZ (.inl (.inr rfl)) hD5 hD
         ·intro b o e
          have hb:b≠D:=fun z=>by rw[z,hD] at e;cases e
          rw[zAV hb]
          exact((bz.trans sm).trans ((R4.pur rfl).trans (R5.pur rfl))) b o e
        ·cases hc
   ·have e : i = ds.length := by omega
    subst e
    rw[Dv] at hc
    cases hc
    refine .inl ⟨by rw[<- rel.length];exact w.2,k D H1 ?_⟩
    have fP:Fr (OA (Oc ix O)) H0 H1:=S1.frm
    have hPO: ∀a,OA (Oc ix O) a->OA O a:=fun a q0=>by
     obtain⟨j,e⟩:=q0
     unfold Oc at e
     cases hi:ix[j]? with
     | none => rw [hi] at e;cases e
     | some i => rw [hi] at e;exact ⟨i,e⟩
    have SL:=S0.laid (o:= .lst acc) hD
    have fL:Fr (OA (Oc ix O)) (upd H0 D (.lst acc)) H1:=fun b o e n=>by
     by_cases hb:b=D
     ·subst hb
      rw[zAH] at e
      cases e
      exact hD1
     ·rw[zAV hb] at e
      exact fP b o e n
    refine⟨SL.call (zEF) (fun i=> ?_) fL hPO,(p0.fr (P:=OA O)).trans (fP.mono hPO),fun z=> ?_,.lst hD1 (zG1 aq fun p hp=>(S1.kep p hp).mono zIK zIK),S0.new hD,S0.fresh hD⟩
    ·by_cases dq:i<δ1.length
     ·rcases zEG (ix:=ix) (ss:=δf) (δ:=δ1) i dq hlc.symm with⟨j,x,e1,e2,e3⟩|⟨e1,e2⟩
      ·have e4:(δf++nos nl)[j]? =some (.ow x):=by
        rw[A6 (A5.mp e2).1]
        exact e2
       obtain⟨a,e5,_,w⟩:=S1.ow j x e4
       refine .inr ⟨a,x,?_,e3,w.mono zIK⟩
       unfold Oc at e5
       rw[e1] at e5
       exact e5
      ·refine .inl ⟨e2,fun a ea ⟨j,ej⟩ => ?_⟩
       obtain⟨x,ex⟩:=S1.dom j a ej
       unfold Oc at ej
       cases hi:ix[j]? with
       |none=>rw[hi] at ej;cases ej
       |some i'=>
        rw[hi] at ej
        have:i=i':=S0.inj i i' a ea ej
        subst this
        have hj:j<δf.length:=by rw[hlc];exact(A5.mp hi).1
        rw[A6 hj] at ex
        exact e1 j x hi ex
     ·refine .inl ⟨?_,fun a ea => ?_⟩
      ·rw [Bp (by rw [zEF];omega),Bp (by omega)]
      ·obtain⟨x,ex⟩:=S0.dom i a ea
       exact absurd (A5.mp ex).1 dq
    ·exact p0.trans bz
theorem Same.sqT{a:Addr}{xs:List V}(s:Same H H')(h:SqT K H a xs):SqT K H' a xs:=Fr.tup (P:=fun _=>False) s.fr h
theorem zX7{tg:Expr}(hK:X.K=K)(h:PE X e (TV K ml true bt bi f))(hb:bi=true:=by rfl):PI X tg e (TIVp K ml (iSeq f)):=by
 subst hb
 refine((zUM (K:=K) hK h).or (yAL (K:=K) hK h)).imp fun σ H R ⟨B,O,δ,ds,δ',S,q,k⟩=> ?_
 unfold iSeq at q
 cases h1:f δ with
 | none => rw [h1] at q;cases q
 |some p=>
  obtain⟨x,δ1⟩:=p
  rw[h1] at q
  cases x with
  |lst ds'=>
   cases q
   refine .inl ⟨B,O,δ,_,δ1,S,h1,fun v H1 R1=> ?_⟩
   obtain⟨a,xs,rfl,sq,r⟩:=R1.rep.lstE
   refine⟨a,rfl,⟨xs,sq⟩,k _ H1 R1.sta (R1.pur rfl) ⟨xs,r,fun H2 sm=>⟨fun i x ex=>⟨⟨xs,x,sm.seq sq,ex⟩,fun y H3 hy=> ?_⟩,xs,sm.seq sq,Ae _⟩⟩⟩
   obtain⟨e2,e3⟩:=hy
   have:=e3 xs (sm.seq sq)
   rw[ex] at this
   cases this
   exact⟨e2,rfl⟩
  |tup ds'=>
   cases q
   refine .inr ⟨B,O,δ,_,δ1,S,h1,fun v H1 R1=> ?_⟩
   obtain⟨a,xs,rfl,sq,r⟩:=R1.rep.tupE
   refine⟨a,rfl,⟨xs,sq⟩,k _ H1 R1.sta (R1.pur rfl) ⟨xs,r,fun H2 sm=>⟨fun i x ex=>⟨⟨xs,x,sm.sqT sq,ex⟩,fun y H3 hy=> ?_⟩,xs,sm.sqT sq,Ae _⟩⟩⟩
   obtain⟨e2,e3⟩:=hy
   have:=e3 xs (sm.sqT sq)
   rw[ex] at this
   cases this
   exact⟨e2,rfl⟩
  |_=>cases q
theorem zS1{i:Nat}{y:Str}{py cf:Pos}{tg iter elt:Expr}{ifs:List Expr}{scope:Scope}{fi:VI}{gg:VG}{tb:VB}{fe:VF}(o:Bool)(hN:X.N.Nodup)(N':List Str)(ix:List Nat)(nl:Nat)(hi:PI X tg iter (TIVp K ml fi))(blk:BlkC X K N' ix scope tg ifs elt gg pt tb pe fe)(hi':X.N[i]? =some y:=by rfl)(hy:X.env.scope.names.lookup y=some .local:=by rfl)
  (hc:X.calm=true:=by rfl) (hk:scope.kind= .function:=by rfl) (hok:zL0 X.N N' ix scope.names X.env.kindOf=true:=by rfl) (hnl:N'.length=ix.length+nl:=by rfl) (hnd:ix.Nodup:=by decide) (hp:(pt && pe)=true:=by rfl) (hm:i∉ml:=by decide)
  (hsw:El (.ListComp elt [⟨tg,iter,ifs,0⟩] scope pos) (some (.Name y py)) cf.line X.env=pure true:=by rfl)
  (hs: ∀x,foldedSetIterable iter X.env x=pure x:=by intro _;rfl):PS X (.Assign [.Name y py] (.ListComp elt [⟨tg,iter,ifs,0⟩] scope pos) cf) (TSt K ml (sSet i (if o then xO (zCV ix nl fi gg tb fe) else xV (zCV ix nl fi gg tb fe)))):=by
 obtain⟨h1,h2⟩:=(A3 _ _).mp hp
 subst h1 h2
 exact(zMZ hN hi' hy hc (zDR hk hok) hnl hi (blk (zDR hk hok).nd) hsw hs).imp fun D σ H h=>zTY (fun σ H Q z=>zSD hnd (zXC (pu:=true) z)) hm h
end
section
variable{X:Cx}{K:Ad}{ml:List Nat}{e a b c:Expr}{es:List Expr}{pa ta ia pb tb ib pc tc ic pu bt bi ps bs:Bool}{fa fb fc f:VF}{B B':Bs}{O:Nat->Option Addr}{H H1 H':Hp}{σ:St}{δ δ':Ev}{v:V}{d:Dat}{p:Addr}{pos:Pos}
structure FunD(K:Ad)(x qual:Str)(st:Stmt)(dV:Value)(f:Addr)(fd:D9):Prop where
 ex: ∃(oc:Value) (od:Option Addr) (kV doc pm:Value) (an:Option Addr) (cdv ct:Value) (osl:Array (Option Value)),
  fd=Fs x qual (zC7 st) (zBP st) (zA6 st) dV kV doc pm an cdv ct/\K.lookup f=some ⟨oc,od,.func fd,osl⟩/\Ga K cdv qual=true
 kp:Ep K (.ref f)=true
theorem zWV{x qual:Str}{st:Stmt}{dV:Value}{f:Addr}{oc:Value}{od an:Option Addr}{osl:Array (Option Value)}{kV doc pm cdv ct:Value}(l:K.lookup f=some ⟨oc,od,.func (Fs x qual (zC7 st) (zBP st) (zA6 st) dV kV doc pm an cdv ct),osl⟩)
  (c:Ga K cdv qual=true) (k:Ep K (.ref f)=true):FunD K x qual st dV f (Fs x qual (zC7 st) (zBP st) (zA6 st) dV kV doc pm an cdv ct):=⟨⟨oc,od,kV,doc,pm,an,cdv,ct,osl,rfl,l,c⟩,k⟩
theorem FunD.okV{P:Aw}{w:World}{mg:Str->Option Value}{base:Heap}{x qual:Str}{st:Stmt}{dV:Value}{f:Addr}{fd:D9}{N ps:List Str}{k:Nat}{g:VS}(F:FunD K x qual st dV f fd)(S:zAF N ps (zA6 st))(hps:ps.length<=N.length)
  (az: ∀(cdv:Value) (A:C3) (outer:List Env) (s:A7) (H:Hp) (E:XK),Room k (A.deeper (Gk qual (zA6 st) s.heap.objs.size f cdv))→
   PSs (cxOf CX0 P w K mg base N qual (zA6 st) f cdv A outer s H E).nox (zBP st) (TSt K ml g)):FnOk P w K mg base CX0 (k+1) f fd ps (spV K ml ps.length (runV N.length ml g)):=by
 obtain⟨oc,od,kV,doc,pm,an,cdv,ct,osl,rfl,lk,hcd⟩:=F.ex
 refine yB4 lk hcd S (fun vs H Q E h=> ?_) fun A outer s H vs Q E hr hsp=>⟨_,(az cdv A outer s H E hr).nox,yBG hps hsp⟩
 obtain⟨Z,ds,r,os,hn,AV,_⟩:=h
 rw[AV.len,hn]
theorem FunD.binds{x qual:Str}{st:Stmt}{T f:Addr}{fd:D9}{ps:List Str}{o:Obj}{its:Array Value}{n m:Nat}{ds:List Value}(F:FunD K x qual st (.ref T) f fd)(ho:K.lookup T=some o)(hs:o.data= .seq its n)
  (h: ∀(kV doc pm:Value) (an:Option Addr) (cdv ct:Value) (us:List Value),us.length=m-> ∃k,bindArgs (Fs x qual (zC7 st) (zBP st) (zA6 st) (.ref T) kV doc pm an cdv ct) ⟨us,[]⟩=seqItems? (.ref T)>>=k/\k (some its)=pure (ps.zip (us++ds)))
  (hm:m+ds.length=ps.length:=by rfl):zJV K fd ps ds:=by
 obtain⟨oc,od,kV,doc,pm,an,cdv,ct,osl,rfl,lk,hcd⟩:=F.ex
 intro s us hK hl
 obtain⟨k,h1,h2⟩:=h kV doc pm an cdv ct us (by rw[Bg] at hl;omega)
 exact BindsTo.of_defaults rfl (hK _ _ ho) hs h1 h2
structure DefD(P:Aw)(w:World)(K:Ad)(mg:Str->Option Value)(base:Heap)(x:Str)(k:Nat)(ps:List Str)(sp:Sp)(f:Addr)(v0:V):Prop where
 at_:mg x=some (.ref f)
 ok: ∃fd u0,FnOk P w K mg base CX0 k f fd ps sp/\zJV K fd ps [u0]/\RelV v0 u0
 kp:Ep K (.ref f)=true
noncomputable def dflt(F:VFun)(d:Dat):VFun:=fun ds=>F (ds++[d])
theorem zSK{mF:List Nat}{m:Nat}{F:VFun}{vs:List V}{Q:VK}{E:XK}(hv: ∀N H M,Rep K N H M v d)(hn: ∀a,v≠ .ref a)(h:spV K mF m (dflt F d) vs H Q E):spV K mF (m+1) F (vs++[v]) H Q E:=by
 obtain⟨Z,ds,r,os,hl,A,hF,k⟩:=h
 have db: ∀(i:Nat) (a:Addr),(vs++[v])[i]? =some (.ref a)->vs[i]? =some (.ref a):=fun i a h=>by
  by_cases hi:i<vs.length
  ·rwa[A6 hi] at h
  ·rw [Ar (by omega)] at h
   cases hj:i - vs.length with
   |zero=>rw[hj] at h;cases h;exact absurd rfl (hn a)
   |succ j=>rw[hj] at h;simp at h
 have gk: ∀(i:Nat) (u:V),vs[i]? =some u->(vs++[v])[i]? =some u:=fun i u h=>by
  rw[A6 (A5.mp h).1]
  exact h
 have hP: ∀a,argP mF (vs++[v]) a->argP mF vs a:=fun a ⟨i,hi,e⟩=>⟨i,hi,db i a e⟩
 have hP': ∀a,argP mF vs a->argP mF (vs++[v]) a:=fun a ⟨i,hi,e⟩=>⟨i,hi,gk i _ e⟩
 have hZ: ∀a,Zp Z mF (vs++[v]) a->Zp Z mF vs a:=fun a h=>h.imp id (hP a)
 have hZ': ∀a,Zp Z mF vs a->Zp Z mF (vs++[v]) a:=fun a h=>h.imp id (hP' a)
 refine⟨Z,ds++[d],r,os,by simp[hl],⟨by simp[A.len],fun i hi=> ?_,fun i x hi e=> ?_,fun i x hi e=> ?_,fun i j a hi hj e1 e2=>A.inj i j a hi hj (db i a e1) (db j a e2),A.zin⟩,hF,fun u H' f w rr=>k u H' (f.mono hP) (fun kk i a o e1 e2 e3=>(w kk i a o e1 (gk i _ e2) e3).mono hZ') (rr.mono hZ' hZ')⟩
 ·have:=A.mem i hi
  simp
  omega
 ·by_cases hi':i<ds.length
  ·rw[A6 hi'] at e
   obtain⟨u,e1,r1⟩:=A.va i x hi e
   exact⟨u,gk i u e1,r1.mono hZ hZ⟩
  ·rw [Ar (by omega)] at e
   cases hj:i - ds.length with
   |zero=>
    rw[hj] at e
    cases e
    have:i=vs.length:=by have:=A.len;omega
    subst this
    exact⟨v,by rw[Ar (by omega)];simp,hv _ _ _⟩
   |succ j=>rw[hj] at e;simp at e
 ·have hi':=A.mem i hi
  rw[A6 hi'] at e
  obtain⟨u,e1,w1,z1⟩:=A.ow i x hi e
  exact⟨u,gk i _ e1,w1.mono hZ,z1⟩
theorem zSB{x:Str}{kk j m:Nat}{qs:List Str}{mF:List Nat}{F:VFun}{ff:Addr}{p':Pos}{fs:VFg}(hK:X.K=K)(D:DefD X.prog X.w K X.mg X.base x kk qs (spV K mF (m+1) F) ff v)(hv: ∀N H M,Rep K N H M v d)(hn: ∀a,v≠ .ref a)(hr:Room j X.A)(hk:kk<=j)(hg:Gl X x)(ha:PA X (e::es) (TAG K ml ps fs))(hdb:(x==("__debug__":Str))=false:=by decide)
  (he:A2 (e::es) X.env=(false,eval e X.env)::A2 es X.env:=by rfl) (hpl:(Dc pos (A2 es X.env)).any (·.1)=false:=by rfl):
  PE X (.Call (.Name x p') (e::es) [] pos) (TV K ml (ps && mF.isEmpty) true true (zAI m mF (dflt F d) fs)):=by
 subst hK
 obtain⟨fd,u0,F',Bd,hd⟩:=D.ok
 refine(zQD F' (hr.mono hk) hg D.at_ D.kp Bd (.cons hd .nil) zW4 ha hdb he hpl).imp fun σ H Q h=> ?_
 obtain⟨B,O,δ,as,δ',S,q,k⟩:=zJ5 h
 exact⟨B,O,δ,as,δ',S,q,fun vs H' R=>zSK hv hn (by have z:spV X.K mF m (dflt F d) (vs++[]) H' Q E0:=k vs H' R;rwa[Cq] at z)⟩
noncomputable def zEX:List (Str×VFun)->Str->Option VFun
 |[],_=>none
 |(y,F)::r,x=>if y=x then some F else zEX r x
def zTV(X:Cx)(K:Ad)(mF:List Nat)(n:Nat)(tb:List (Str×VFun)):Prop:= ∀x F a,zEX tb x=some F->Hz K mainGlobals x=some (some (.ref a))->FnAt X a (spV K mF n F)
theorem zV9{mF:List Nat}{n:Nat}:zTV X K mF n []:=fun _ _ _ h=>nomatch h
theorem zDU{x:Str}{kk j n:Nat}{qs:List Str}{mF:List Nat}{F:VFun}{ff:Addr}{tb:List (Str×VFun)}(hK:X.K=K)(hm: ∀x a,Hz K mainGlobals x=some (some (.ref a))->X.mg x=some (.ref a))(hr:Room j X.A)
  (D:Def X.prog X.w K X.mg X.base x kk qs (spV K mF n F) ff) (hk:kk<=j) (t:zTV X K mF n tb):zTV X K mF n ((x,F)::tb):=fun y G a h1 h2=>by
 unfold zEX at h1
 split at h1
 ·rename_i hxy
  subst hxy
  cases h1
  have e:=(hm x a h2).symm.trans D.at_
  cases e
  subst hK
  exact D.fnAt hr hk
 ·exact t y G a h1 h2
noncomputable def zKU(n:Nat)(mF:List Nat)(tb:List (Str×VFun))(i:Nat)(fs:VFg):VF:=fun δ=>match δ[i]? with
 |some (.va (.fn x))=>(zEX tb x).bind fun F=>zAI n mF F fs δ
 |_=>none
theorem zSA{y:Str}{i n:Nat}{mF:List Nat}{tb:List (Str×VFun)}{p':Pos}{fs:VFg}(ht:zTV X K mF n tb)(hf:PE X (.Name y p') (tVar i))(ha:PA X (e::es) (TAG K ml ps fs))
  (he : A2 (e :: es) X.env = (false,eval e X.env) :: A2 es X.env := by rfl) (hpl : (Dc pos (A2 es X.env)).any (·.1) = false := by rfl) :
  PE X (.Call (.Name y p') (e::es) [] pos) (TV K ml (ps && mF.isEmpty) true true (zKU n mF tb i fs)):=(zT5 hf ha he hpl).imp fun σ H Q h=>by
 obtain⟨B,O,δ,d,δ',S,q,k⟩:=h
 unfold zKU at q
 split at q
 ·rename_i x hx
  cases hF:zEX tb x with
  | none => rw [hF] at q;cases q
  |some F=>
   rw[hF] at q
   obtain⟨v,e1,r⟩:=S.va i _ hx
   cases r with
   |fn h=>
    refine⟨_,e1,_,_,rfl,ht x F _ hF h,?_⟩
    obtain⟨B,O,δ,as,δ',S,q,k⟩:=zJ5 (F:=F) (fs:=fs) (K:=K) (ml:=ml) (ps:=ps) (n:=n) (mF:=mF) (σ:=σ) (H:=H) (Q:=Q) ⟨B,O,δ,d,δ',S,q,k⟩
    exact⟨B,O,δ,as,δ',S,q,fun vs H' R=>by have z:spV K mF n F (vs++[]) H' Q E0:=k vs H' R;rwa[Cq] at z⟩
 ·cases q
end
section
variable{X:Cx}{K:Ad}{ml:List Nat}{e a b c:Expr}{es:List Expr}{pa ta ia pb tb ib pc tc ic pu bt bi ps bs:Bool}{fa fb fc f:VF}{B B':Bs}{O:Nat->Option Addr}{H H1 H':Hp}{σ:St}{δ δ':Ev}{v:V}{d:Dat}{p:Addr}{pos:Pos}
theorem Own.away{N N':Addr->Prop}{q:Addr}{o:HO}(hp:H p=none)(hN: ∀a,N' a->N a∨a=p)(w:Own K N H q d):Own K N' (upd H p o) q d:=by
 cases w with
 |lst q r=>exact .lst (zA5 hp _ _ q) ((r.away hp _ _ hN).same (zA5 hp))
 |dct q r=>exact .dct (zA5 hp _ _ q) ((r.away hp _ _ hN).same (zA5 hp))
end
section
variable{X:Cx}{K:Ad}{ml:List Nat}{e a b c:Expr}{es:List Expr}{pa ta ia pb tb ib pc tc ic pu bt bi ps bs:Bool}{fa fb fc f:VF}{pos p':Pos}{d:Dat}{x:Str}
theorem vv(i:Nat)(hN:X.N[i]? =some x:=by rfl)(hv:Vis X.env.scope x:=by first|exact Hx rfl|exact Hy (Hx rfl)|exact Hy (Hy rfl))(hd:(x==("__debug__":Str))=false:=by decide)
  (hcd:(x==("__classdict__":Str))=false:=by decide):PE X (.Name x pos) (TV K ml true true true (fV i)):=zX8 (zQB hN hv hd hcd)
theorem vo(i:Nat)(hN:X.N[i]? =some x:=by rfl)(hv:Vis X.env.scope x:=by first|exact Hx rfl|exact Hy (Hx rfl)|exact Hy (Hy rfl))(hd:(x==("__debug__":Str))=false:=by decide)
  (hcd:(x==("__classdict__":Str))=false:=by decide):PE X (.Name x pos) (TV K ml true false true (fO i)):=zX9 (zQB hN hv hd hcd)
theorem vix(hu:X.A.units+1<cLine)(ha:PE X a (TV K ml pa ta ia fa))(hb:PE X b (TV K ml pb tb ib fb))(hK:X.K=K:=by rfl)(hx:zM6 b:=by exact fun _ _=>rfl)(hs:(pb || (ta && ia))=true:=by rfl):PE X (.Subscript a b pos) (TV K ml (pa && pb) ia ia (f2 oIxA fa fb)):=
 yC2 (kIxA hK hu) yEN ha hb hx hs
theorem veq(hu:X.A.units+64<cLine)(ha:PE X a (TV K ml pa ta ia fa))(hb:PE X b (TV K ml pb tb ib fb))(hK:X.K=K:=by rfl)(hs:(pb || (ta && ia))=true:=by rfl):PE X (.Compare a [.Eq] [b] pos) (TV K ml (pa && pb) true true (f2 oEq fa fb)):=
 zE1 (kEqD hK hu) s_eq ha hb (zBF _) hs
theorem vteq(hu:X.A.units+64<cLine)(ha:PE X a (TV K ml pa ta ia fa))(hb:PE X b (TV K ml pb tb ib fb))(hK:X.K=K:=by rfl)(hs:(pb || (ta && ia))=true:=by rfl):PT X (.Compare a [.Eq] [b] pos) (TB K ml (pa && pb) (fB (f2 oEq fa fb))):=
 zAR (kEqD hK hu) s_eq ha hb (zBF _) hs
theorem vcal{kk j n:Nat}{qs:List Str}{mF:List Nat}{F:VFun}{ff:Addr}{fs:VFg}(D:Def X.prog X.w K X.mg X.base x kk qs (spV K mF n F) ff)(hr:Room j X.A)(ha:PA X (e::es) (TAG K ml ps fs))(hK:X.K=K:=by rfl)(hk:kk<=j:=by decide)(hg:Gl X x:=by rfl)(hdb:(x==("__debug__":Str))=false:=by decide)
  (he:A2 (e::es) X.env=(false,eval e X.env)::A2 es X.env:=by rfl) (hpl:(Dc pos (A2 es X.env)).any (·.1)=false:=by rfl):
  PE X (.Call (.Name x p') (e::es) [] pos) (TV K ml (ps && mF.isEmpty) true true (zAI n mF F fs)):=zV7 hK D hr hk hg ha hdb he hpl
theorem vlen(hm:X.mg "len"=none) (ha:PE X a (TV K ml pa ta ia fa)) (hK:X.K=K:=by rfl) (hg:Gl X "len":=by rfl) (he:A2 (a::[]) X.env=(false,eval a X.env)::A2 [] X.env:=by rfl):PE X (.Call (.Name "len" p') [a] [] pos) (TV K ml pa true true (f1 oLen fa)):=
 zV8 (yEJ hK) yCN hg hm zUT ha (by decide) (by decide) he
theorem vty{n:String}(hm:X.mg x=none)(hv:As x=some (.type n))(hg:Gl X x:=by rfl)(hn:x≠ "__name__":=by decide) (hd:(x==("__debug__":Str))=false:=by decide):PE X (.Name x pos) (TV K ml true true true (fC (.ty n))):=
 ve_c (zW3 (v:= .ty n) hg hm hv rfl hn hd) fun _ _ _=> .ty _
theorem visi(hm:X.mg "isinstance"=none) (ha:PE X a (TV K ml pa ta ia fa)) (hb:PE X b (TV K ml pb tb ib fb)) (hK:X.K=K:=by rfl) (hg:Gl X "isinstance":=by rfl)
  (he:A2 (a::[b]) X.env=(false,eval a X.env)::A2 [b] X.env:=by rfl) (he2:A2 (b::[]) X.env=(false,eval b X.env)::A2 [] X.env:=by rfl) (hpl:(Dc pos (A2 [b] X.env)).any (·.1)=false:=by rfl) (hs:(pb || (ta && ia))=true:=by rfl):
  PE X (.Call (.Name "isinstance" p') [a,b] [] pos) (TV K ml (pa && pb) true true (f2 oIsi fa fb)):=zNX (kIsi hK) yCO hg hm zJS ha hb (by decide) (by decide) he he2 hpl hs
end
def A4(K:Ad)(x:Str)(st:Stmt)(f:Addr):Prop:= ∃(oc:Value) (od:Option Addr) (kV doc pm:Value) (an:Option Addr) (cdv ct:Value) (osl:Array (Option Value)),Hz K mainGlobals x=some (some (.ref f))∧
 K.lookup f=some ⟨oc,od,.func (Fs x x (zC7 st) (zBP st) (zA6 st) .none kV doc pm an cdv ct),osl⟩/\Ga K cdv x=true/\Ep K (.ref f)=true
theorem a4{K:Ad}{x:Str}{st:Stmt}{f:Addr}{oc:Value}{od:Option Addr}{kV doc pm:Value}{an:Option Addr}{cdv ct:Value}{osl:Array (Option Value)}(a:Hz K mainGlobals x=some (some (.ref f)))
  (b:K.lookup f=some ⟨oc,od,.func (Fs x x (zC7 st) (zBP st) (zA6 st) .none kV doc pm an cdv ct),osl⟩) (c:Ga K cdv x=true) (d:Ep K (.ref f)=true):A4 K x st f:=⟨oc,od,kV,doc,pm,an,cdv,ct,osl,a,b,c,d⟩
theorem A4.ns{K:Ad}{x:Str}{st:Stmt}{f:Addr}(p:A4 K x st f):Hz K mainGlobals x=some (some (.ref f)):=by
 obtain⟨_,_,_,_,_,_,_,_,_,a,_⟩:=p
 exact a
theorem mkDf{P:Aw}{w:World}{K:Ad}{mg:Str->Option Value}{base h:Heap}{x:Str}{st:Stmt}{f:Addr}{ps:List Str}{sp:Sp}{k:Nat}(X:K.In h)(G:h.Ns mainGlobals mg)(p:A4 K x st f)(ok: ∀{fd:D9},Fun K x x st f fd->FnOk P w K mg base CX0 k f fd ps sp)
  (hb: ∀{kV doc pm:Value} {an:Option Addr} {cdv ct:Value} (us:List Value),us.length=ps.length->bindArgs (Fs x x (zC7 st) (zBP st) (zA6 st) .none kV doc pm an cdv ct) ⟨us,[]⟩=pure (ps.zip us)):Def P w K mg base x k ps sp f:=by
 obtain⟨oc,od,kV,doc,pm,an,cdv,ct,osl,a,b,c,d⟩:=p
 have U:=zUQ (st:=st) b c d
 exact⟨Ef X G a,⟨_,ok U,U.binds fun _ _ _ _ _ _=>hb⟩,d⟩
theorem okW(P:Aw)(w:World)(K:Ad)(mg:Str->Option Value)(base:Heap){x qual:Str}{st:Stmt}{f:Addr}{fd:D9}(N ps:List Str)(k:Nat)(g:VS)(ml:List Nat)(F:Fun K x qual st f fd)(S:zAF N ps (zA6 st))
  (az: ∀(cdv:Value) (A:C3) (outer:List Env) (s:A7) (H:Hp) (E:XK) (hr:Room k (A.deeper (Gk qual (zA6 st) s.heap.objs.size f cdv))) (_:(A.deeper (Gk qual (zA6 st) s.heap.objs.size f cdv)).units+64<cLine) (_:(A.deeper (Gk qual (zA6 st) s.heap.objs.size f cdv)).units+1<cLine),
   PSs (cxOf CX0 P w K mg base N qual (zA6 st) f cdv A outer s H E).nox (zBP st) (TSt K ml g)) (hps:ps.length<=N.length:=by decide):FnOk P w K mg base CX0 (k+1) f fd ps (spV K ml ps.length (runV N.length ml g)):=
 Fun.okV F S hps fun cdv A outer s H E hr=>az cdv A outer s H E hr hr.units (yB3 hr)
theorem mkSc{N P:List Str}{sc:Scope}(a:sc.kind= .function:=by rfl)(b:sc.isCoroutine=false:=by rfl)(c:sc.isGenerator=false:=by rfl)(d:N.Nodup:=by decide+kernel)(e:N.take P.length=P:=by rfl)
  (f: ∀x∈P,sc.names.lookup x=some .local∨sc.names.lookup x=some .cell:=by decide+kernel) (g: ∀y∈sc.names,y.2≠Az:=by decide+kernel):zAF N P sc:=⟨a,b,c,d,e,f,g⟩
end L2
namespace TS
open PySem PySem.W PyProof.Rows
structure En where
 prog:Aw
 w:World
 A:C3
 s:A7
 κ:Ke
 it:Array Keyed
def En.Ok(n:Nat)(ck:Nat->Nat->Bool)(e:En):Prop:= ∀i j,i<n->j<n-> ∀C:Bool->A7->Prop,C (ck i j) e.s->kas_cmp e.prog e.w e.A e.κ e.it i j C e.s
abbrev En.at(e:En)(i:Nat):Keyed:=Fi e.it i
abbrev En.of(e:En)(p:Array Nat):Array Keyed:=p.map (Fi e.it)
structure Pu where
 p:Array Nat
 pd:Array (Nat×Nat×Nat)
 g:Nat
noncomputable def stO(e:En)(x:Pu):Dn:=Fl e.κ (e.of x.p) x.pd x.g none
section
variable{n:Nat}{ck:Nat->Nat->Bool}
def D(n:Nat)(ck:Nat->Nat->Bool){α:Type}(f:En->StateT Dn Sem α)(x:Pu)(a:En->α)(y:Pu):Prop:=
 ∀e:En,e.Ok n ck-> ∀(E:Value->A7->Prop) (Q:α->Dn->A7->Prop),Q (a e) (stO e y) e.s->kasC (model e.prog e.w) e.A E (f e) Q (stO e x) e.s
def X(n:Nat)(ck:Nat->Nat->Bool){α τ:Type}(f:En->StateT Dn Sem α)(x:Pu)(v:τ->En->α)(R:τ->Pu->Prop):Prop:= ∃t y,R t y/\D n ck f x (v t) y
theorem D.pure{α:Type}{a:En->α}{x:Pu}:D n ck (fun e=>E4 (a e)) x a x:=fun e _ E Q h=>kasC_pure h
theorem D.bind{α β:Type}{f:En->StateT Dn Sem α}{k:En->α->StateT Dn Sem β}{x y z:Pu}{a:En->α}{b:En->β}(h1:D n ck f x a y)(h2:D n ck (fun e=>k e (a e)) y b z):D n ck (fun e=>f e>>=k e) x b z:=
 fun e o E Q h=>Kx (h1 e o E _ (h2 e o E Q h))
theorem D.get{x:Pu}:D n ck (fun _=>MonadState.get) x (fun e=>stO e x) x:=fun e _ E Q h=>kasC_get h
theorem D.modify{F:En->Dn->Dn}{x y:Pu}(h: ∀e,F e (stO e x)=stO e y):D n ck (fun e=>modify (F e)) x (fun _=>⟨⟩) y:=fun e _ E Q q=>Ky (by rw[h e];exact q)
theorem D.rule{r:String}{x:Pu}:D n ck (fun _=>(liftM (PySem.rule r):StateT Dn Sem Unit)) x (fun _=>()) x:=fun e _ E Q q=>kasC_lift (F3 q)
theorem D.elem{q:Array Nat}{i:Nat}{x:Pu}(hi:i<q.size):D n ck (fun e=>elem' (e.of q) i) x (fun e=>e.at (q.getD i 0)) x:=fun e _ E Q h=>by
 have e1:(e.of q)[i]? =some (e.at (q.getD i 0)):=by
  have e2:q.getD i 0=q[i]:=by simp[Gq,hi]
  rw[e2]
  simp[En.of,En.at,hi]
 show kasC _ _ _ (elem' (e.of q) i) Q _ _
 rw[elem'_eq,e1]
 exact kasC_pure h
theorem D.lt{i j:Nat}{x:Pu}(hi:i<n)(hj:j<n):D n ck (fun e=>lt' (e.at i) (e.at j)) x (fun _=>some (ck i j)) x:=fun e o E Q h=>by
 show kasC _ _ _ (lt' (e.at i) (e.at j)) Q _ _
 rw[lt'_eq]
 refine Kx (kasC_get ?_)
 refine Kx (kasC_lift (Ja (Br (o i j hi hj (fun c s'=>c=ck i j/\s'=e.s) ⟨rfl,rfl⟩) (fun c s' hc=> ?_) fun _ _ hF=>hF.elim)))
 obtain⟨rfl,rfl⟩:=hc
 exact kasC_pure h
theorem D.ltAt{i j:Nat}{x:Pu}(hi:i<x.p.size)(hj:j<x.p.size)(bi:x.p.getD i 0<n)(bj:x.p.getD j 0<n):D n ck (fun _=>ltAt' i j) x (fun _=>some (ck (x.p.getD i 0) (x.p.getD j 0))) x:=fun e o E Q h=>by
 show kasC _ _ _ (ltAt' i j) Q _ _
 rw[ltAt'_eq]
 refine Kx (kasC_get ?_)
 exact(D.bind (D.elem hi) (D.bind (D.elem hj) (D.lt bi bj)):D n ck (fun e=>elem' (e.of x.p) i>>=fun u=>elem' (e.of x.p) j>>=fun v=>lt' u v) x _ x) e o E Q h
theorem D.rev{i j:Nat}{x:Pu}:D n ck (fun _=>reverseSlice' i j) x (fun _=>()) {x with p:=kas_rev x.p i j}:=fun e o E Q h=>by
 show kasC _ _ _ (reverseSlice' i j) Q _ _
 rw[reverseSlice'_eq]
 refine Ky ?_
 have e1:mirror (e.of x.p) i j ((j - i)/2)=e.of (mirror x.p i j ((j - i)/2)):=kas_swaps_map (Fi e.it) (fun k=>i+k) (fun k=>j - 1 - k) _ x.p
 show Q () (Fl e.κ (mirror (e.of x.p) i j ((j - i)/2)) x.pd x.g none) e.s
 rw[e1]
 exact h
theorem D.move{k l:Nat}{x:Pu}:D n ck (fun _=>moveDown' k l) x (fun _=>()) {x with p:=bubble x.p k (k - l)}:=fun e o E Q h=>by
 show kasC _ _ _ (moveDown' k l) Q _ _
 rw[moveDown'_eq]
 refine Ky ?_
 have e1:bubble (e.of x.p) k (k - l)=e.of (bubble x.p k (k - l)):=kas_swaps_map (Fi e.it) (fun i=>k - i) (fun i=>k - i - 1) _ x.p
 show Q () (Fl e.κ (bubble (e.of x.p) k (k - l)) x.pd x.g none) e.s
 rw[e1]
 exact h
theorem X.ret{α τ:Type}{a:En->α}{x:Pu}{v:τ->En->α}{R:τ->Pu->Prop}(t:τ)(h:R t x)(ha: ∀e,a e=v t e:=by intro e;rfl):X n ck (fun e=>E4 (a e)) x v R:=
 ⟨t,x,h,by rw[show a=v t from funext ha];exact D.pure⟩
theorem X.go{α β τ:Type}{f:En->StateT Dn Sem α}{k:En->α->StateT Dn Sem β}{x y:Pu}{a:En->α}{v:τ->En->β}{R:τ->Pu->Prop}(h1:D n ck f x a y)(h2:X n ck (fun e=>k e (a e)) y v R):X n ck (fun e=>f e>>=k e) x v R:=by
 obtain⟨t,z,h,d⟩:=h2
 exact⟨t,z,h,D.bind h1 d⟩
theorem X.bind{α β τ υ:Type}{f:En->StateT Dn Sem α}{k:En->α->StateT Dn Sem β}{x:Pu}{u:υ->En->α}{S:υ->Pu->Prop}{v:τ->En->β}{R:τ->Pu->Prop}(h1:X n ck f x u S)(h2: ∀t y,S t y->X n ck (fun e=>k e (u t e)) y v R):X n ck (fun e=>f e>>=k e) x v R:=by
 obtain⟨t,y,h,d⟩:=h1
 exact X.go d (h2 t y h)
noncomputable def sv{β τ:Type}(v:τ->En->β):τ ⊕ τ->En->ForInStep β
 | .inl t,e=> .yield (v t e)
 | .inr t,e=> .done (v t e)
def sR{τ:Type}(I J:τ->Pu->Prop):τ ⊕ τ->Pu->Prop
 | .inl t,x=>I t x
 | .inr t,x=>J t x
theorem X.loop{β τ:Type}{v:τ->En->β}{I:Nat->τ->Pu->Prop}{J:τ->Pu->Prop}{f:En->Nat->β->StateT Dn Sem (ForInStep β)}
  (he : ∀ t x,I 0 t x -> J t x) : ∀ (l : List Nat) (t : τ) (x : Pu),(∀ i ∈ l,∀ (k : Nat) (t : τ) (x : Pu),I (k + 1) t x -> X n ck (fun e => f e i (v t e)) x (sv v) (sR (I k) J)) -> I l.length t x -> X n ck (fun e => forIn l (v t e) (f e)) x v J
 | [],t,x,_,h => ⟨t,x,he t x h,fun e o E Q q => kasC_nil q⟩
 | i :: l,t,x,hs,h => by
  obtain⟨r,y,hr,d⟩:=hs i Ak l.length t x h
  cases r with
  |inr t'=>exact⟨t',y,hr,fun e o E Q q=>kasC_cons (d e o E _ q)⟩
  |inl t'=>
   obtain⟨u,z,hu,d2⟩:=X.loop he l t' y (fun i hi=>hs i (Ag _ hi)) hr
   exact⟨u,z,hu,fun e o E Q q=>kasC_cons (d e o E _ (d2 e o E Q q))⟩
theorem X.range{β τ:Type}{v:τ->En->β}{I:Nat->τ->Pu->Prop}{J:τ->Pu->Prop}{f:En->Nat->β->StateT Dn Sem (ForInStep β)}{a b:Nat}{t:τ}{x:Pu}{c:En->β}
  (he: ∀t x,I 0 t x->J t x) (h0:I (b - a) t x) (hs: ∀i,a<=i->i<b-> ∀(k:Nat) (t:τ) (x:Pu),I (k+1) t x->X n ck (fun e=>f e i (v t e)) x (sv v) (sR (I k) J)) (hc: ∀e,c e=v t e:=by intro e;rfl):X n ck (fun e=>forIn [a:b] (c e) (f e)) x v J:=by
 rw[show c=v t from funext hc]
 obtain⟨u,z,hu,d⟩:=X.loop he (List.range' a (b - a)) t x (fun i hi=>by
  have:=List.mem_range'_1.mp hi
  exact hs i this.1 (by omega)) (by rw[List.length_range'];exact h0)
 exact⟨u,z,hu,fun e o E Q q=>kasC_range (d e o E Q q)⟩
theorem X.yield{β τ:Type}{v:τ->En->β}{I J:τ->Pu->Prop}{a:En->β}{x:Pu}(t:τ)(h:I t x)(ha: ∀e,a e=v t e:=by intro e;rfl):X n ck (fun e=>E4 (Cb (a e))) x (sv v) (sR I J):=
 X.ret (.inl t) h fun e=>by rw[ha e];rfl
theorem X.done{β τ:Type}{v:τ->En->β}{I J:τ->Pu->Prop}{a:En->β}{x:Pu}(t:τ)(h:J t x)(ha: ∀e,a e=v t e:=by intro e;rfl):X n ck (fun e=>E4 (ForInStep.done (a e))) x (sv v) (sR I J):=
 X.ret (.inr t) h fun e=>by rw[ha e];rfl
end
section
variable{n:Nat}{ck:Nat->Nat->Bool}
theorem X.ite{α τ:Type}{c:Prop}{dc:En->Decidable c}{a b:En->StateT Dn Sem α}{x:Pu}{v:τ->En->α}{R:τ->Pu->Prop}(h1:c->X n ck a x v R)(h2: ¬c->X n ck b x v R):X n ck (fun e=> @_root_.ite _ c (dc e) (a e) (b e)) x v R:=by
 by_cases h:c
 ·simpa only[if_pos h] using h1 h
 ·simpa only[if_neg h] using h2 h
def Pm(n:Nat)(p:Array Nat):Prop:=p.toList.Perm (At n)
theorem Pm.sz{p:Array Nat}(h:Pm n p):p.size=n:=by
 have:=h.length_eq
 simpa using this
theorem Pm.lt{p:Array Nat}(h:Pm n p){i:Nat}(hi:i<n):p.getD i 0<n:=by
 have hs:=h.sz
 have hi':i<p.size:=by omega
 have e:p.getD i 0=p[i]:=by simp[Gq,hi']
 rw[e]
 exact Bx.mp (h.mem_iff.mp (by simp))
theorem Pm.rev{p:Array Nat}(h:Pm n p)(i j:Nat):Pm n (kas_rev p i j):=G3 (G9.mp (mirror_perm p i j _)) h
theorem Pm.move{p:Array Nat}(h:Pm n p)(i j:Nat):Pm n (bubble p i j):=G3 (G9.mp (bubble_perm p i j)) h
theorem Pm.cmp{x:Pu}(h:Pm n x.p){i j:Nat}(hi:i<n)(hj:j<n):D n ck (fun _=>ltAt' i j) x (fun _=>some (ck (x.p.getD i 0) (x.p.getD j 0))) x:=
 D.ltAt (by rw[h.sz];exact hi) (by rw[h.sz];exact hj) (h.lt hi) (h.lt hj)
theorem X.st{α τ:Type}{f:En->StateT Dn Sem α}{x z:Pu}{v:τ->En->α}{R:τ->Pu->Prop}{P:Pu->Pu->Prop}(h: ∀z,P x z->X n ck f z v R)(hz:P x z):X n ck f z v R:=h z hz
def Kp(n:Nat)(x y:Pu):Prop:=Pm n y.p/\y.pd=x.pd
theorem yF1{lo m:Nat}{x:Pu}(hp:Pm n x.p)(h1:1<=m)(hm:lo+m<=n):X n ck (fun _=>countRun' lo m) x (fun t _=>some t) (fun t y=>1<=t/\t<=m/\Kp n x y):=by
 refine X.bind (u:=fun(t:Nat) _=>(none,t)) (S:=fun t y=>1<=t/\t<=m/\y=x) ?_ ?_
 ·refine X.range (I := fun k t y => 1 <= t /\ t + k = m /\ y = x) (t := 1) (fun t y h => ⟨h.1,by omega,h.2.2⟩) ⟨by omega,by omega,rfl⟩ fun i _ _ k t y ⟨g1,g2,g3⟩ => ?_
  subst g3
  refine X.go (hp.cmp (by omega) (by omega)) ?_
  refine X.ite (fun _=>X.done t ⟨g1,by omega,rfl⟩) fun _=>X.yield (t+1) ⟨by omega,by omega,rfl⟩
 ·rintro t y ⟨g1,g2,rfl⟩
  have k0:Kp n y y:=⟨hp,rfl⟩
  refine X.ite (fun _=>X.ret t ⟨g1,g2,k0⟩) fun q0=> ?_
  have q1:t+1<=m:=by
   have:t≠m:=fun z=>q0 (by rw[z];exact beq_self_eq_true _)
   omega
  refine X.ite (fun q2=>X.go (hp.cmp (by omega) (by omega)) (X.ite (fun _=>X.ret t ⟨g1,g2,k0⟩) fun _=>X.go D.rev (X.st (P:=Kp n) (x:=y) ?_ ⟨hp.rev _ _,rfl⟩))) fun q2=>X.st (P:=Kp n) (x:=y) ?_ k0
  all_goals
   intro z hz
   refine X.go D.rule ?_
   refine X.bind (u:=fun(t:Nat×Nat) _=>(none,t)) (S:=fun t z=>1<=t.1/\t.1<=m/\Kp n y z) ?_ ?_
   ·refine X.range (I := fun k t z => 1 <= t.1 /\ t.1 + k = m /\ Kp n y z) (t := (t + 1,0)) (fun t y h => ⟨h.1,by omega,h.2.2⟩) ⟨by omega,by dsimp only;omega,hz⟩ fun i _ _ k t y ⟨g1,g2,g3⟩ => ?_
    obtain⟨t,q⟩:=t
    dsimp only at g1 g2
    refine X.go (g3.1.cmp (by dsimp only;omega) (by dsimp only;omega)) ?_
    refine X.ite (fun _=>X.ite (fun _=>X.go D.rev (X.yield (t+1,0) ⟨by dsimp only;omega,by dsimp only;omega,g3.1.rev _ _,g3.2⟩)) fun _=>X.yield (t+1,0) ⟨by dsimp only;omega,by dsimp only;omega,g3⟩) fun _=> ?_
    refine X.go (g3.1.cmp (by dsimp only;omega) (by dsimp only;omega)) ?_
    exact X.ite (fun _=>X.done (t,q) ⟨g1,by dsimp only;omega,g3⟩) fun _=>X.yield (t+1,q+1) ⟨by dsimp only;omega,by dsimp only;omega,g3⟩
   ·rintro ⟨t,q⟩ z ⟨g1,g2,g3⟩
    dsimp only at g1 g2
    refine X.ite (fun _=>X.go D.rev (X.st (P:=Kp n) (x:=y) ?_ ⟨g3.1.rev _ _,g3.2⟩)) fun _=>X.st (P:=Kp n) (x:=y) ?_ g3
    all_goals
     intro z hz
     refine X.go D.rev ?_
     refine X.bind (u:=fun(t:Nat) _=>(none,t)) (S:=fun t z=>1<=t/\t<=m/\Kp n y z) ?_ fun t z h=>X.ret t h
     refine X.range (I:=fun k t z=>1<=t/\t+k=m/\Kp n y z) (t:=t) (fun t y h=>⟨h.1,by omega,h.2.2⟩) ⟨by omega,by dsimp only;omega,hz.1.rev _ _,hz.2⟩ fun i _ _ k t y ⟨g1,g2,g3⟩=> ?_
     refine X.go (g3.1.cmp (by omega) (by omega)) ?_
     exact X.ite (fun _=>X.done t ⟨g1,by omega,g3⟩) fun _=>X.yield (t+1) ⟨by omega,by omega,g3⟩
theorem bin{lo m ok:Nat}{x:Pu}(hp:Pm n x.p)(hm:lo+m<=n):X n ck (fun _=>binarySort' lo m ok) x (fun(_:Unit) _=>true) (fun _ y=>Kp n x y):=by
 refine X.bind (u:=fun(_:Unit) _=>(none,())) (S:=fun _ y=>Kp n x y) ?_ fun t z h=>X.ret () h
 refine X.range (I:=fun _ _ z=>Kp n x z) (t:=()) (fun t y h=>h) ⟨hp,rfl⟩ fun j j1 j2 k t y g3=> ?_
 refine X.bind (u:=fun(t:Nat×Nat) _=>(none,t)) (S:=fun t z=>t.2<=j/\z=y) ?_ ?_
 ·refine X.range (I := fun _ t z => t.2 <= j /\ z = y) (t := (0,j)) (fun t y h => h) ⟨Ae _,rfl⟩ fun i _ _ k t z ⟨g1,g2⟩ => ?_
  obtain⟨l,r⟩:=t
  dsimp only at g1
  subst g2
  refine X.ite (fun _=>X.done (l,r) ⟨g1,rfl⟩) fun q=> ?_
  refine X.go (g3.1.cmp (by dsimp only at q⊢;omega) (by dsimp only at q⊢;omega)) ?_
  exact X.ite (fun _=>X.yield (l,(l+r)/2) ⟨by dsimp only at q⊢;omega,rfl⟩) fun _=>X.yield ((l+r)/2+1,r) ⟨g1,rfl⟩
 ·rintro ⟨l,r⟩ z ⟨g1,rfl⟩
  exact X.go D.move (X.yield () ⟨g3.1.move _ _,g3.2⟩)
end
def zR2:Bool->Keyed->Array Keyed->Nat->Nat->Nat->StateT Dn Sem (Option Nat):=sortPriv% PySem.Builtin.gallop
def zN8:Array Keyed->Array Keyed->StateT Dn Sem (Array Keyed):=sortPriv% PySem.Builtin.mergeLo
def zN9:Array Keyed->Array Keyed->StateT Dn Sem (Array Keyed):=sortPriv% PySem.Builtin.mergeHi
section
variable{n:Nat}{ck:Nat->Nat->Bool}
noncomputable def bey(left:Bool)(key:Nat)(q:Array Nat)(i:Nat)(e:En):StateT Dn Sem (Option Bool):=
 elem' (e.of q) i>>=fun z=>if left=true then lt' z (e.at key) else lt' (e.at key) z>>=fun r=>pure (r.map (fun b=> !b))
theorem yBI{left:Bool}{key:Nat}{q:Array Nat}{x:Pu}(hk:key<n){i:Nat}(hi:i<q.size)(hq:q.getD i 0<n): ∃c,D n ck (bey left key q i) x (fun _=>some c) x:=by
 cases left with
 |true=>exact⟨_,D.bind (D.elem hi) (D.lt hq hk)⟩
 |false=>exact⟨_,D.bind (D.elem hi) (D.bind (D.lt hk hq) D.pure)⟩
theorem gal{left:Bool}{key:Nat}{q:Array Nat}{b m h:Nat}{x:Pu}(hk:key<n)(hh:h<m)(hb:b+m<=q.size)(hq: ∀i,i<q.size->q.getD i 0<n):
  X n ck (fun e=>zR2 left (e.at key) (e.of q) b m h) x (fun t _=>some t) (fun t y=>t<=m/\y=x):=by
 have ask: ∀i,i<m-> ∃c,D n ck (bey left key q (b+i)) x (fun _=>some c) x:=fun i hi=>yBI hk (by omega) (hq _ (by omega))
 obtain⟨c,hc⟩:=ask h hh
 refine X.go hc ?_
 refine X.ite (fun _=> ?_) fun _=> ?_
 ·refine X.bind (u := fun (t : Nat × Nat) _ => (none,t)) (S := fun t z => z = x) ?_ ?_
  ·refine X.range (I := fun _ t z => z = x) (t := (0,1)) (fun t y h => h) rfl fun i _ _ k t z g => ?_
   obtain⟨l,o⟩:=t
   subst g
   refine X.ite (fun _=>X.done (l,o) rfl) fun q=> ?_
   obtain⟨c,hc⟩:=ask (h+o) (by dsimp only at q;omega)
   exact X.go hc (X.ite (fun _=>X.done (l,o) rfl) fun _=>X.yield (o,2*o+1) rfl)
  ·rintro ⟨l,o⟩ z rfl
   refine X.bind (u:=fun(t:Nat×Nat) _=>(none,t)) (S:=fun t y=>t.2<=m/\y=z) ?_ fun t y h=>X.ret t.2 h
   refine X.range (I:=fun _ t y=>t.2<=m/\y=z) (t:=(h+l+1,h+min o (m - h))) (fun t y h=>h) ⟨by dsimp only;omega,rfl⟩ fun i _ _ k t y ⟨g1,g2⟩=> ?_
   obtain⟨lo,hi⟩:=t
   subst g2
   dsimp only at g1
   refine X.ite (fun _=>X.done (lo,hi) ⟨g1,rfl⟩) fun q=> ?_
   obtain⟨c,hc⟩:=ask (lo+(hi - lo)/2) (by dsimp only at q;omega)
   exact X.go hc (X.ite (fun _=>X.yield (lo+(hi - lo)/2+1,hi) ⟨g1,rfl⟩) fun _=>X.yield (lo,lo+(hi - lo)/2) ⟨by dsimp only at q⊢;omega,rfl⟩)
 ·refine X.bind (u := fun (t : Nat × Nat) _ => (none,t)) (S := fun t z => z = x) ?_ ?_
  ·refine X.range (I := fun _ t z => z = x) (t := (0,1)) (fun t y h => h) rfl fun i _ _ k t z g => ?_
   obtain⟨l,o⟩:=t
   subst g
   refine X.ite (fun _=>X.done (l,o) rfl) fun q=> ?_
   obtain⟨c,hc⟩:=ask (h - o) (by omega)
   exact X.go hc (X.ite (fun _=>X.done (l,o) rfl) fun _=>X.yield (o,2*o+1) rfl)
  ·rintro ⟨l,o⟩ z rfl
   refine X.bind (u:=fun(t:Nat×Nat) _=>(none,t)) (S:=fun t y=>t.2<=m/\y=z) ?_ fun t y h=>X.ret t.2 h
   refine X.range (I:=fun _ t y=>t.2<=m/\y=z) (t:=(h+1 - min o (h+1),h - l)) (fun t y h=>h) ⟨by dsimp only;omega,rfl⟩ fun i _ _ k t y ⟨g1,g2⟩=> ?_
   obtain⟨lo,hi⟩:=t
   subst g2
   dsimp only at g1
   refine X.ite (fun _=>X.done (lo,hi) ⟨g1,rfl⟩) fun q=> ?_
   obtain⟨c,hc⟩:=ask (lo+(hi - lo)/2) (by dsimp only at q;omega)
   exact X.go hc (X.ite (fun _=>X.yield (lo+(hi - lo)/2+1,hi) ⟨g1,rfl⟩) fun _=>X.yield (lo,lo+(hi - lo)/2) ⟨by dsimp only at q⊢;omega,rfl⟩)
theorem galE{left:Bool}{key:Nat}{q:Array Nat}{b h:Nat}{m:En->Nat}{x:Pu}(m0:Nat)(hm: ∀e,m e=m0)(hk:key<n)(hh:h<m0)(hb:b+m0<=q.size)(hq: ∀i,i<q.size->q.getD i 0<n):
  X n ck (fun e=>zR2 left (e.at key) (e.of q) b (m e) h) x (fun t _=>some t) (fun t y=>t<=m0/\y=x):=by
 rw[show m=fun _=>m0 from funext hm]
 exact gal hk hh hb hq
theorem X.eqSize{α τ:Type}{m:Nat}{q:Array Nat}{a b:En->StateT Dn Sem α}{x:Pu}{v:τ->En->α}{R:τ->Pu->Prop}(h1:m=q.size->X n ck a x v R)(h2:m≠q.size->X n ck b x v R):X n ck (fun e=>if(m==(e.of q).size)=true then a e else b e) x v R:=by
 simp only[En.of,Array.size_map]
 exact X.ite (fun h=>h1 (by simpa using h)) fun h=>h2 (by simpa using h)
theorem X.rangeE{β τ:Type}{v:τ->En->β}{I:Nat->τ->Pu->Prop}{J:τ->Pu->Prop}{f:En->Nat->β->StateT Dn Sem (ForInStep β)}{b:En->Nat}{t:τ}{x:Pu}{c:En->β}(b0:Nat)(hb: ∀e,b e=b0)
  (he: ∀t x,I 0 t x->J t x) (h0:I b0 t x) (hs: ∀(k:Nat) (t:τ) (x:Pu),k<b0->I (k+1) t x-> ∀i,X n ck (fun e=>f e i (v t e)) x (sv v) (sR (I k) J)) (hc: ∀e,c e=v t e:=by intro e;rfl):X n ck (fun e=>forIn [0:b e] (c e) (f e)) x v J:=by
 rw[show b=fun _=>b0 from funext hb]
 refine X.range (I:=fun k t x=>k<=b0/\I k t x) (fun t x h=>he t x h.2) ⟨by omega,h0⟩ (fun i _ _ k t x h=> ?_) hc
 obtain⟨r,y,hr,d⟩:=hs k t x (by omega) h.2 i
 refine⟨r,y,?_,d⟩
 cases r with
 |inl t=>exact⟨by omega,hr⟩
 |inr t=>exact hr
def zVF:Nat->StateT Dn Sem Unit:=sortPriv% PySem.Builtin.setMinGallop
theorem D.setMin{g:Nat}{x:Pu}:D n ck (fun _=>zVF g) x (fun _=>()) {x with g:=g}:=D.modify (F:=fun _ s=>_) fun e=>rfl
def Iv(a b o:Array Nat)(ia ib:Nat):Prop:=o.toList.Perm (a.toList.take ia++b.toList.take ib)
theorem zMI{a:Array Nat}{i:Nat}(h:i<a.size):a.toList.take (i+1)=a.toList.take i++[a.getD i 0]:=by
 have e:a.getD i 0=a[i]:=by simp[Gq,h]
 rw[e,L6]
 simp[h]
theorem Iv.pushB{a b o:Array Nat}{ia ib:Nat}(h:Iv a b o ia ib)(hb:ib<b.size):Iv a b (o.push (b.getD ib 0)) ia (ib+1):=by
 unfold Iv at h⊢
 rw[zMI hb,E9,<- Am]
 exact h.append_right _
theorem Iv.pushA{a b o:Array Nat}{ia ib:Nat}(h:Iv a b o ia ib)(ha:ia<a.size):Iv a b (o.push (a.getD ia 0)) (ia+1) ib:=by
 unfold Iv at h⊢
 rw[zMI ha,E9,Am]
 refine(h.append_right _).trans ?_
 rw[Am]
 exact C4 _ Bq
theorem zK1(l:List Nat)(i k:Nat):l.take (i+k)=l.take i++(l.take (i+k)).drop i:=by
 have e:=C5 i (l.take (i+k))
 rw[Ip,E5 (by omega)] at e
 exact e.symm
theorem zDG(a:Array Nat)(i j:Nat):(a.extract i j).toList=(a.toList.take j).drop i:=by simp[L7]
theorem Iv.extB{a b o:Array Nat}{ia ib:Nat}(h:Iv a b o ia ib)(k:Nat):Iv a b (o++b.extract ib (ib+k)) ia (ib+k):=by
 unfold Iv at h⊢
 rw[zK1 b.toList ib k,Bj,zDG,<- Am]
 exact h.append_right _
theorem Iv.extA{a b o:Array Nat}{ia ib:Nat}(h:Iv a b o ia ib)(k:Nat):Iv a b (o++a.extract ia (ia+k)) (ia+k) ib:=by
 unfold Iv at h⊢
 rw[zK1 a.toList ia k,Bj,zDG,Am]
 refine(h.append_right _).trans ?_
 rw[Am]
 exact C4 _ Bq
theorem zJK(a:Array Nat)(i:Nat):(a.extract i a.size).toList=a.toList.drop i:=by rw[zDG,show a.size=a.toList.length from rfl,List.take_length]
theorem Iv.all{a b o:Array Nat}{ia ib:Nat}(h:Iv a b o ia ib):(o.toList++(a.toList.drop ia++b.toList.drop ib)).Perm (a.toList++b.toList):=by
 refine(h.append_right _).trans ?_
 have e1:=C5 ia a.toList
 have e2:=C5 ib b.toList
 generalize a.toList.take ia=a1 at*
 generalize a.toList.drop ia=a2 at*
 generalize b.toList.take ib=b1 at*
 generalize b.toList.drop ib=b2 at*
 rw[<- e1,<- e2,Am,Am]
 refine C4 _ ?_
 rw[<- Am,<- Am]
 exact Dy _ Bq
theorem Iv.done{a b o:Array Nat}{ia ib:Nat}(h:Iv a b o ia ib):(o++a.extract ia a.size++b.extract ib b.size).toList.Perm (a.toList++b.toList):=by
 rw[Bj,Bj,zJK,zJK,Am]
 exact h.all
theorem Iv.lastA{a b o:Array Nat}{ia ib:Nat}(h:Iv a b o ia ib):(o++b.extract ib b.size++a.extract ia a.size).toList.Perm (a.toList++b.toList):=by
 rw[Bj,Bj,zJK,zJK,Am]
 exact(C4 _ Bq).trans h.all
end
section
variable{n:Nat}{ck:Nat->Nat->Bool}
def Sd(x y:Pu):Prop:=y.p=x.p/\y.pd=x.pd
def Al(n:Nat)(a:Array Nat):Prop:= ∀i,i<a.size->a.getD i 0<n
def Lf(a b:Array Nat)(x:Pu)(m:Nat)(r:Option (Array Nat))(o:Array Nat)(ia ib:Nat)(y:Pu):Prop:=r=none/\Iv a b o ia ib/\ia+1<a.size/\ib<b.size/\m<=ia+ib/\Sd x y
def Td(a b:Array Nat)(x:Pu)(r:Option (Array Nat))(y:Pu):Prop:= ∃t,r=some t/\t.toList.Perm (a.toList++b.toList)/\Sd x y
noncomputable def vG{β:Type}(t:Option (Array Nat)×Array Nat×β)(e:En):Option (Array Keyed)×Array Keyed×β:=(t.1.map e.of,e.of t.2.1,t.2.2)
theorem zB9(e:En)(o:Array Nat)(i:Nat):(e.of o).push (e.at i)=e.of (o.push i):=by simp[En.of,En.at]
theorem zCM(e:En)(o:Array Nat)(q:Array Nat):e.of o++e.of q=e.of (o++q):=by simp[En.of]
theorem zBZ(e:En)(o:Array Nat)(i j:Nat):(e.of o).extract i j=e.of (o.extract i j):=by simp[En.of]
theorem zH3(e:En)(o:Array Nat):(e.of o).size=o.size:=by simp[En.of]
theorem zHM(e:En)(o:Array Nat):(e.of o).reverse=e.of o.reverse:=by simp[En.of]
theorem zII(e:En)(i:Nat): #[e.at i]=e.of #[i]:=by simp[En.of,En.at]
theorem X.yieldG{β:Type}{tail:β}{o:Array Nat}{O:En->Array Keyed}{I J:Option (Array Nat)×Array Nat×β->Pu->Prop}{y:Pu}(h:I (none,o,tail) y)(hO: ∀e,O e=e.of o):X n ck (fun e=>E4 (Cb (none,O e,tail))) y (sv vG) (sR I J):=
 X.yield (none,o,tail) h fun e=>by rw[hO];rfl
theorem X.doneG{β:Type}{tail:β}{o:Array Nat}{O:En->Array Keyed}{I J:Option (Array Nat)×Array Nat×β->Pu->Prop}{y:Pu}(h:J (none,o,tail) y)(hO: ∀e,O e=e.of o):X n ck (fun e=>E4 (ForInStep.done (none,O e,tail))) y (sv vG) (sR I J):=
 X.done (none,o,tail) h fun e=>by rw[hO];rfl
theorem X.tellD{β:Type}{tail:β}{a b o:Array Nat}{ia ib:Nat}{O:En->Array Keyed}{I J:Option (Array Nat)×Array Nat×β->Pu->Prop}{x y:Pu}(q:Iv a b o ia ib)(hs:Sd x y)(hO: ∀e,O e=e.of o)(hJ: ∀t,Td a b x t.1 y->J t y):
  X n ck (fun e=>E4 (ForInStep.done (some (O e++(e.of a).extract ia (e.of a).size++(e.of b).extract ib (e.of b).size),O e,tail))) y (sv vG) (sR I J):=
 X.done (some (o++a.extract ia a.size++b.extract ib b.size),o,tail) (hJ _ ⟨_,rfl,q.done,hs⟩) fun e=>by rw[hO,zH3,zH3,zBZ,zBZ,zCM,zCM];rfl
theorem X.tellL{β:Type}{tail:β}{a b o:Array Nat}{ia ib:Nat}{O:En->Array Keyed}{I J:Option (Array Nat)×Array Nat×β->Pu->Prop}{x y:Pu}(q:Iv a b o ia ib)(hs:Sd x y)(hO: ∀e,O e=e.of o)(hJ: ∀t,Td a b x t.1 y->J t y):
  X n ck (fun e=>E4 (ForInStep.done (some (O e++(e.of b).extract ib (e.of b).size++(e.of a).extract ia (e.of a).size),O e,tail))) y (sv vG) (sR I J):=
 X.done (some (o++b.extract ib b.size++a.extract ia a.size),o,tail) (hJ _ ⟨_,rfl,q.lastA,hs⟩) fun e=>by rw[hO,zH3,zH3,zBZ,zBZ,zCM,zCM];rfl
theorem yEE {a b : Array Nat} {x : Pu} (ha : Al n a) (hb : Al n b) (a1 : 1 <= a.size) (b1 : 1 <= b.size) : X n ck (fun e => zN8 (e.of a) (e.of b)) x (fun t e => e.of t) (fun t y => t.toList.Perm (a.toList ++ b.toList) /\ Sd x y) := by
 have i1:Iv a b #[b.getD 0 0] 0 1:=by
  have e : Iv a b #[] 0 0 := by unfold Iv;simp
  exact e.pushB (by omega)
 refine X.go D.rule ?_
 refine X.go (D.elem (q := b) (i := 0) (by omega)) ?_
 refine X.eqSize (fun h => X.ret (#[b.getD 0 0] ++ a.extract 0 a.size ++ b.extract 1 b.size) ⟨i1.done,rfl,rfl⟩ fun e => ?_) fun h => ?_
 ·simp only[<- zCM,<- zBZ,zH3,zII]
 refine X.eqSize (fun h => X.ret (#[b.getD 0 0] ++ b.extract 1 b.size ++ a.extract 0 a.size) ⟨i1.lastA,rfl,rfl⟩ fun e => ?_) fun h2 => ?_
 ·simp only[<- zCM,<- zBZ,zH3,zII]
 refine X.go D.get ?_
 have tot : ∀ e : En,(e.of a).size + (e.of b).size = a.size + b.size := fun e => by simp only [zH3]
 refine X.bind (u := vG) (S := fun t y => Td a b x t.1 y) ?_ ?_
 ·refine X.rangeE (v := vG) (I := fun k t y => Lf a b x (a.size + b.size - k) t.1 t.2.1 t.2.2.1 t.2.2.2.1 y) (t := (none,#[b.getD 0 0],0,1,x.g)) (a.size + b.size) tot ?_ ⟨rfl,i1,by dsimp only;omega,by dsimp only;omega,by dsimp only;omega,rfl,rfl⟩ ?_ fun e => ?_
  ·rintro t y ⟨_,_,h3,h4,h5,_⟩
   exact absurd h5 (by omega)
  ·rintro k ⟨r,o,ia,ib,g⟩ y hk ⟨rfl,h2,h3,h4,h5,h6⟩ i
   dsimp only at h2 h3 h4 h5
   dsimp only[vG]
   refine X.bind (u:=vG) (S:=fun t z=>Td a b x t.1 z∨Lf a b x (ia+ib+1) t.1 t.2.1 t.2.2.1 t.2.2.2.1 z) ?_ ?_
   ·refine X.rangeE (v := vG) (I := fun k t y => Lf a b x (ia + ib + if k < a.size + b.size then 1 else 0) t.1 t.2.1 t.2.2.1 t.2.2.2.1 y) (t := (none,o,ia,ib,0,0)) (a.size + b.size) tot ?_ ⟨rfl,h2,h3,h4,by rw [if_neg (by omega)];exact Ae _,h6⟩ ?_
    ·intro t y h
     rw [if_pos (by omega)] at h
     exact .inr h
    ·rintro k ⟨r,o,ja,jb,ac,bc⟩ y hk ⟨rfl,g2,g3,g4,g5,g6⟩ i
     dsimp only at g2 g3 g4 g5
     dsimp only[vG]
     have g5':ia+ib<=ja+jb:=by split at g5<;>omega
     refine X.go (D.elem (q:=b) (i:=jb) g4) (X.go (D.elem (q:=a) (i:=ja) (by omega)) (X.go (D.lt (hb _ g4) (ha _ (by omega))) ?_))
     refine X.ite (fun _=> ?_) fun _=> ?_
     ·refine X.go (D.elem (q:=b) (i:=jb) g4) ?_
      have q:=g2.pushB g4
      refine X.eqSize (fun _=>X.tellD q g6 (fun e=>zB9 e _ _) fun t h=> .inl h) fun z=> ?_
      exact X.ite (fun _=>X.doneG (.inr ⟨rfl,q,g3,by dsimp only;omega,by dsimp only;omega,g6⟩) fun e=>zB9 e _ _) fun _=>X.yieldG ⟨rfl,q,g3,by dsimp only;omega,by dsimp only;rw[if_pos hk];omega,g6⟩ fun e=>zB9 e _ _
     ·refine X.go (D.elem (q := a) (i := ja) (by omega)) ?_
      have q:=g2.pushA (show ja<a.size by omega)
      refine X.eqSize (fun _=>X.tellL q g6 (fun e=>zB9 e _ _) fun t h=> .inl h) fun z=> ?_
      exact X.ite (fun _=>X.doneG (.inr ⟨rfl,q,by dsimp only;omega,g4,by dsimp only;omega,g6⟩) fun e=>zB9 e _ _) fun _=>X.yieldG ⟨rfl,q,by dsimp only;omega,g4,by dsimp only;rw[if_pos hk];omega,g6⟩ fun e=>zB9 e _ _
   ·rintro ⟨r,o,ja,jb,ac,bc⟩ z (⟨t,e1,ht⟩|⟨e1,g2,g3,g4,g5,g6⟩)
    ·dsimp only at e1
     subst e1
     exact X.done (some t,o,ja,jb,g) ⟨t,rfl,ht⟩
    ·dsimp only at e1 g2 g3 g4 g5
     subst e1
     dsimp only[vG]
     refine X.go D.rule ?_
     refine X.bind (u:=vG) (S:=fun t z=>Td a b x t.1 z∨Lf a b x (ia+ib+1) t.1 t.2.1 t.2.2.1 t.2.2.2.1 z) ?_ ?_
     ·refine X.rangeE (v := vG) (I := fun _ t y => Lf a b x (ia + ib + 1) t.1 t.2.1 t.2.2.1 t.2.2.2.1 y) (t := (none,o,ja,jb,g + 1,ac,bc)) (a.size + b.size) tot (fun t y h => .inr h) ⟨rfl,g2,g3,g4,g5,g6⟩ ?_
      rintro k ⟨r,o,ja,jb,g,ac,bc⟩ y hk ⟨rfl,g2,g3,g4,g5,g6⟩ i
      dsimp only at g2 g3 g4 g5
      dsimp only[vG]
      refine X.ite (fun _=> ?_) fun _=> ?_
      all_goals
       refine X.go D.setMin (X.go (D.elem (q:=b) (i:=jb) g4) (X.bind (galE (a.size - ja) (fun e=>by simp only[zH3]) (hb _ g4) (by omega) (by omega) ha) ?_))
       rintro d z ⟨hd,rfl⟩
       refine X.ite (fun _=> ?_) fun _=> ?_
       ·have q:=g2.extA d
        have qO: ∀e:En,e.of o++(e.of a).extract ja (ja+d)=e.of (o++a.extract ja (ja+d)):=fun e=>by rw[zBZ,zCM]
        refine X.eqSize (fun _=>X.tellL q g6 qO fun t h=> .inl h) fun z1=>X.eqSize (fun _=>X.tellD q g6 qO fun t h=> .inl h) fun z2=> ?_
        refine X.go (D.elem (q:=b) (i:=jb) g4) ?_
        have r:=q.pushB g4
        have rO: ∀e:En,_=e.of _:=fun e=>(congrArg (fun O=>O.push (e.at (b.getD jb 0))) (qO e)).trans (zB9 e _ _)
        refine X.eqSize (fun _=>X.tellD r g6 rO fun t h=> .inl h) fun z3=> ?_
        refine X.go (D.elem (q:=a) (i:=(ja+d)) (by omega)) (X.bind (galE (b.size - (jb+1)) (fun e=>by simp only[zH3]) (ha _ (by omega)) (by omega) (by omega) hb) ?_)
        rintro d2 z ⟨hd2,rfl⟩
        refine X.ite (fun _=> ?_) fun _=> ?_
        ·have u:=r.extB d2
         have uO: ∀e:En,_=e.of _:=fun e=>((congrArg (fun O=>O++(e.of b).extract (jb+1) (jb+1+d2)) (rO e)).trans (by rw[zBZ])).trans (zCM e _ _)
         refine X.eqSize (fun _=>X.tellD u g6 uO fun t h=> .inl h) fun z4=> ?_
         refine X.go (D.elem (q:=a) (i:=(ja+d)) (by omega)) ?_
         have w:=u.pushA (show(ja+d)<a.size by omega)
         have wO: ∀e:En,_=e.of _:=fun e=>(congrArg (fun O=>O.push (e.at (a.getD (ja+d) 0))) (uO e)).trans (zB9 e _ _)
         refine X.eqSize (fun _=>X.tellL w g6 wO fun t h=> .inl h) fun z5=> ?_
         exact X.ite (fun _=>X.doneG (.inr ⟨rfl,w,by dsimp only;omega,by dsimp only;omega,by dsimp only;omega,g6⟩) wO) fun _=>X.yieldG ⟨rfl,w,by dsimp only;omega,by dsimp only;omega,by dsimp only;omega,g6⟩ wO
        ·skip
         refine X.go (D.elem (q:=a) (i:=(ja+d)) (by omega)) ?_
         have w:=r.pushA (show(ja+d)<a.size by omega)
         have wO: ∀e:En,_=e.of _:=fun e=>(congrArg (fun O=>O.push (e.at (a.getD (ja+d) 0))) (rO e)).trans (zB9 e _ _)
         refine X.eqSize (fun _=>X.tellL w g6 wO fun t h=> .inl h) fun z5=> ?_
         exact X.ite (fun _=>X.doneG (.inr ⟨rfl,w,by dsimp only;omega,by dsimp only;omega,by dsimp only;omega,g6⟩) wO) fun _=>X.yieldG ⟨rfl,w,by dsimp only;omega,by dsimp only;omega,by dsimp only;omega,g6⟩ wO
       ·have qO : ∀ e : En,e.of o = e.of o := fun e => rfl
        refine X.go (D.elem (q:=b) (i:=jb) g4) ?_
        have r:=g2.pushB g4
        have rO: ∀e:En,_=e.of _:=fun e=>(congrArg (fun O=>O.push (e.at (b.getD jb 0))) (qO e)).trans (zB9 e _ _)
        refine X.eqSize (fun _=>X.tellD r g6 rO fun t h=> .inl h) fun z3=> ?_
        refine X.go (D.elem (q:=a) (i:=ja) (by omega)) (X.bind (galE (b.size - (jb+1)) (fun e=>by simp only[zH3]) (ha _ (by omega)) (by omega) (by omega) hb) ?_)
        rintro d2 z ⟨hd2,rfl⟩
        refine X.ite (fun _=> ?_) fun _=> ?_
        ·have u:=r.extB d2
         have uO: ∀e:En,_=e.of _:=fun e=>((congrArg (fun O=>O++(e.of b).extract (jb+1) (jb+1+d2)) (rO e)).trans (by rw[zBZ])).trans (zCM e _ _)
         refine X.eqSize (fun _=>X.tellD u g6 uO fun t h=> .inl h) fun z4=> ?_
         refine X.go (D.elem (q:=a) (i:=ja) (by omega)) ?_
         have w:=u.pushA (show ja<a.size by omega)
         have wO: ∀e:En,_=e.of _:=fun e=>(congrArg (fun O=>O.push (e.at (a.getD ja 0))) (uO e)).trans (zB9 e _ _)
         refine X.eqSize (fun _=>X.tellL w g6 wO fun t h=> .inl h) fun z5=> ?_
         exact X.ite (fun _=>X.doneG (.inr ⟨rfl,w,by dsimp only;omega,by dsimp only;omega,by dsimp only;omega,g6⟩) wO) fun _=>X.yieldG ⟨rfl,w,by dsimp only;omega,by dsimp only;omega,by dsimp only;omega,g6⟩ wO
        ·skip
         refine X.go (D.elem (q:=a) (i:=ja) (by omega)) ?_
         have w:=r.pushA (show ja<a.size by omega)
         have wO: ∀e:En,_=e.of _:=fun e=>(congrArg (fun O=>O.push (e.at (a.getD ja 0))) (rO e)).trans (zB9 e _ _)
         refine X.eqSize (fun _=>X.tellL w g6 wO fun t h=> .inl h) fun z5=> ?_
         exact X.ite (fun _=>X.doneG (.inr ⟨rfl,w,by dsimp only;omega,by dsimp only;omega,by dsimp only;omega,g6⟩) wO) fun _=>X.yieldG ⟨rfl,w,by dsimp only;omega,by dsimp only;omega,by dsimp only;omega,g6⟩ wO
     ·rintro ⟨r,o,ja,jb,g,ac,bc⟩ z (⟨t,e1,ht⟩|⟨e1,g2,g3,g4,g5,g6⟩)
      ·dsimp only at e1
       subst e1
       exact X.done (some t,o,ja,jb,g) ⟨t,rfl,ht⟩
      ·dsimp only at e1 g2 g3 g4 g5
       subst e1
       dsimp only[vG]
       refine X.go D.setMin ?_
       exact X.yieldG ⟨rfl,g2,g3,g4,by dsimp only;omega,g6⟩ fun e=>rfl
  ·simp only[zII]
   rfl
 ·rintro ⟨r,o,ia,ib,g⟩ y ⟨t,e1,h⟩
  dsimp only at e1
  subst e1
  exact X.ret t h
end
section
variable{n:Nat}{ck:Nat->Nat->Bool}
def Iw(a b o:Array Nat)(na nb:Nat):Prop:=o.toList.Perm (a.toList.drop na++b.toList.drop nb)
theorem zNO{a:Array Nat}{i:Nat}(h0:0<i)(h:i<=a.size):a.toList.drop (i - 1)=a.getD (i - 1) 0::a.toList.drop i:=by
 have h1:i - 1<a.size:=by omega
 have e:a.getD (i - 1) 0=a[i - 1]:=by simp[Gq,h1]
 rw[e,Cy (by simpa using h1),show i - 1+1=i by omega]
 simp
theorem Iw.pushA{a b o:Array Nat}{na nb:Nat}(h:Iw a b o na nb)(h0:0<na)(h1:na<=a.size):Iw a b (o.push (a.getD (na - 1) 0)) (na - 1) nb:=by
 unfold Iw at h⊢
 rw[zNO h0 h1,E9,Ee]
 exact Bq.trans (L8 _ h)
theorem Iw.pushB{a b o:Array Nat}{na nb:Nat}(h:Iw a b o na nb)(h0:0<nb)(h1:nb<=b.size):Iw a b (o.push (b.getD (nb - 1) 0)) na (nb - 1):=by
 unfold Iw at h⊢
 rw[zNO h0 h1,E9]
 exact(Bq.trans (L8 _ h)).trans List.perm_middle.symm
theorem zI1(l:List Nat)(i j:Nat)(h:i<=j):l.drop i=(l.take j).drop i++l.drop j:=by
 have e:=C5 (j - i) (l.drop i)
 rw[L9,show i+(j - i)=j by omega,<- L7] at e
 exact e.symm
theorem Iw.extA{a b o:Array Nat}{na nb:Nat}(h:Iw a b o na nb){t:Nat}(ht:t<=na):Iw a b (o++(a.extract t na).reverse) t nb:=by
 unfold Iw at h⊢
 rw[zI1 a.toList t na ht,Bj,Eb,zDG,Am]
 exact Bq.trans (Ka (Gr _) h)
theorem Iw.extB{a b o:Array Nat}{na nb:Nat}(h:Iw a b o na nb){t:Nat}(ht:t<=nb):Iw a b (o++(b.extract t nb).reverse) na t:=by
 unfold Iw at h⊢
 rw[zI1 b.toList t nb ht,Bj,Eb,zDG]
 generalize (b.toList.take nb).drop t=u at*
 refine(Ka h (Gr u)).trans ?_
 rw[Am]
 exact C4 _ Bq
theorem Iw.all{a b o:Array Nat}{na nb:Nat}(h:Iw a b o na nb):((a.toList.take na++b.toList.take nb)++o.toList.reverse).Perm (a.toList++b.toList):=by
 refine(C4 _ ((Gr _).trans h)).trans ?_
 have e1:=C5 na a.toList
 have e2:=C5 nb b.toList
 generalize a.toList.take na=a1 at*
 generalize a.toList.drop na=a2 at*
 generalize b.toList.take nb=b1 at*
 generalize b.toList.drop nb=b2 at*
 rw[<- e1,<- e2,Am,Am]
 refine C4 _ ?_
 rw[<- Am,<- Am]
 exact Dy _ Bq
theorem zNM(a:Array Nat)(i:Nat):(a.extract 0 i).toList=a.toList.take i:=by rw[zDG];rfl
theorem Iw.done{a b o:Array Nat}{na nb:Nat}(h:Iw a b o na nb):(a.extract 0 na++b.extract 0 nb++o.reverse).toList.Perm (a.toList++b.toList):=by
 rw[Bj,Bj,zNM,zNM,Eb]
 exact h.all
theorem Iw.first{a b o:Array Nat}{na nb:Nat}(h:Iw a b o na nb):(b.extract 0 nb++a.extract 0 na++o.reverse).toList.Perm (a.toList++b.toList):=by
 rw[Bj,Bj,zNM,zNM,Eb]
 exact(Dy _ Bq).trans h.all
def Lh(a b:Array Nat)(x:Pu)(m:Nat)(r:Option (Array Nat))(o:Array Nat)(na nb:Nat)(y:Pu):Prop:=r=none/\Iw a b o na nb/\0<na/\na<=a.size/\1<nb/\nb<=b.size/\na+nb<=m/\Sd x y
abbrev HT(β:Type):=Option (Array Nat)×Nat×Nat×Array Nat×β
noncomputable def vH{β:Type}(t:HT β)(e:En):Option (Array Keyed)×Nat×Nat×Array Keyed×β:=(t.1.map e.of,t.2.1,t.2.2.1,e.of t.2.2.2.1,t.2.2.2.2)
theorem X.yieldH{β:Type}{tail:β}{o:Array Nat}{na nb:Nat}{O:En->Array Keyed}{I J:HT β->Pu->Prop}{y:Pu}(h:I (none,na,nb,o,tail) y)(hO: ∀e,O e=e.of o):X n ck (fun e=>E4 (Cb (none,na,nb,O e,tail))) y (sv vH) (sR I J):=
 X.yield (none,na,nb,o,tail) h fun e=>by rw[hO];rfl
theorem X.doneH{β:Type}{tail:β}{o:Array Nat}{na nb:Nat}{O:En->Array Keyed}{I J:HT β->Pu->Prop}{y:Pu}(h:J (none,na,nb,o,tail) y)(hO: ∀e,O e=e.of o):X n ck (fun e=>E4 (ForInStep.done (none,na,nb,O e,tail))) y (sv vH) (sR I J):=
 X.done (none,na,nb,o,tail) h fun e=>by rw[hO];rfl
theorem X.tellE{β:Type}{tail:β}{a b o:Array Nat}{na nb:Nat}{O:En->Array Keyed}{I J:HT β->Pu->Prop}{x y:Pu}(q:Iw a b o na nb)(hs:Sd x y)(hO: ∀e,O e=e.of o)(hJ: ∀t,Td a b x t.1 y->J t y):
  X n ck (fun e=>E4 (ForInStep.done (some ((e.of a).extract 0 na++(e.of b).extract 0 nb++(O e).reverse),na,nb,O e,tail))) y (sv vH) (sR I J):=
 X.done (some (a.extract 0 na++b.extract 0 nb++o.reverse),na,nb,o,tail) (hJ _ ⟨_,rfl,q.done,hs⟩) fun e=>by rw[hO,zBZ,zBZ,zHM,zCM,zCM];rfl
theorem X.tellF{β:Type}{tail:β}{a b o:Array Nat}{na nb:Nat}{O:En->Array Keyed}{I J:HT β->Pu->Prop}{x y:Pu}(q:Iw a b o na nb)(hs:Sd x y)(hO: ∀e,O e=e.of o)(hJ: ∀t,Td a b x t.1 y->J t y):
  X n ck (fun e=>E4 (ForInStep.done (some ((e.of b).extract 0 nb++(e.of a).extract 0 na++(O e).reverse),na,nb,O e,tail))) y (sv vH) (sR I J):=
 X.done (some (b.extract 0 nb++a.extract 0 na++o.reverse),na,nb,o,tail) (hJ _ ⟨_,rfl,q.first,hs⟩) fun e=>by rw[hO,zBZ,zBZ,zHM,zCM,zCM];rfl
theorem X.is{α τ:Type}{m k:Nat}{dc:En->Decidable ((m==k)=true)}{a b:En->StateT Dn Sem α}{x:Pu}{v:τ->En->α}{R:τ->Pu->Prop}(h1:m=k->X n ck a x v R)(h2:m≠k->X n ck b x v R):X n ck (fun e=> @_root_.ite _ ((m==k)=true) (dc e) (a e) (b e)) x v R:=
 X.ite (fun h=>h1 (by simpa using h)) fun h=>h2 (by simpa using h)
theorem X.iteE{α τ:Type}{c:En->Prop}{dc:(e:En)->Decidable (c e)}{a b:En->StateT Dn Sem α}{x:Pu}{v:τ->En->α}{R:τ->Pu->Prop}{c0:Prop}(hc: ∀e,c e=c0)(h1:c0->X n ck a x v R)(h2: ¬c0->X n ck b x v R):X n ck (fun e=> @_root_.ite _ (c e) (dc e) (a e) (b e)) x v R:=by
 obtain rfl:c=fun _=>c0:=funext hc
 exact X.ite h1 h2
theorem yEF{a b:Array Nat}{x:Pu}(ha:Al n a)(hb:Al n b)(a1:1<=a.size)(b1:1<=b.size):X n ck (fun e=>zN9 (e.of a) (e.of b)) x (fun t e=>e.of t) (fun t y=>t.toList.Perm (a.toList++b.toList)/\Sd x y):=by
 have i1:Iw a b #[a.getD (a.size - 1) 0] (a.size - 1) b.size:=by
  have e:Iw a b #[] a.size b.size:=by
   unfold Iw
   rw[show a.size=a.toList.length from rfl,show b.size=b.toList.length from rfl,Dv,Dv]
   exact .refl _
  exact e.pushA (by omega) (Ae _)
 refine X.go D.rule ?_
 simp only[zH3]
 refine X.go (D.elem (q := a) (i := a.size - 1) (by omega)) ?_
 refine X.is (fun h => X.ret (a.extract 0 (a.size - 1) ++ b.extract 0 b.size ++ #[a.getD (a.size - 1) 0].reverse) ⟨i1.done,rfl,rfl⟩ fun e => ?_) fun h => ?_
 ·simp only[<- zCM,<- zBZ,<- zHM,zII]
 refine X.is (fun h => X.ret (b.extract 0 b.size ++ a.extract 0 (a.size - 1) ++ #[a.getD (a.size - 1) 0].reverse) ⟨i1.first,rfl,rfl⟩ fun e => ?_) fun h2 => ?_
 ·simp only[<- zCM,<- zBZ,<- zHM,zII]
 refine X.go D.get ?_
 refine X.bind (u := vH) (S := fun t y => Td a b x t.1 y) ?_ ?_
 ·refine X.rangeE (v := vH) (I := fun k t y => Lh a b x k t.1 t.2.2.2.1 t.2.1 t.2.2.1 y) (t := (none,a.size - 1,b.size,#[a.getD (a.size - 1) 0],x.g)) (a.size + b.size) (fun e => rfl) ?_ ⟨rfl,i1,by dsimp only;omega,by dsimp only;omega,by dsimp only;omega,by dsimp only;omega,by dsimp only;omega,rfl,rfl⟩ ?_ fun e => ?_
  ·rintro t y ⟨_,_,h3,h4,h5,h6,h7,_⟩
   exact absurd h7 (by omega)
  ·rintro k ⟨r,na,nb,o,g⟩ y hk ⟨rfl,h2,h3,h3',h4,h4',h5,h6⟩ i
   dsimp only at h2 h3 h3' h4 h4' h5
   dsimp only[vH]
   refine X.bind (u:=vH) (S:=fun t z=>Td a b x t.1 z∨Lh a b x k t.1 t.2.2.2.1 t.2.1 t.2.2.1 z) ?_ ?_
   ·refine X.rangeE (v := vH) (I := fun j t y => Lh a b x (if j < a.size + b.size then k else k + 1) t.1 t.2.2.2.1 t.2.1 t.2.2.1 y) (t := (none,na,nb,o,0,0)) (a.size + b.size) (fun e => rfl) ?_ ⟨rfl,h2,h3,h3',h4,h4',by rw [if_neg (by omega)];exact h5,h6⟩ ?_
    ·intro t y h
     rw [if_pos (by omega)] at h
     exact .inr h
    ·rintro j ⟨r,ka,kb,o,ac,bc⟩ y hk ⟨rfl,g2,g3,g3',g4,g4',g5,g6⟩ i
     dsimp only at g2 g3 g3' g4 g4' g5
     dsimp only[vH]
     have g5':ka+kb<=k+1:=by split at g5<;>omega
     refine X.go (D.elem (q:=b) (i:=kb - 1) (by omega)) (X.go (D.elem (q:=a) (i:=ka - 1) (by omega)) (X.go (D.lt (hb _ (by omega)) (ha _ (by omega))) ?_))
     refine X.ite (fun _=> ?_) fun _=> ?_
     ·refine X.go (D.elem (q := a) (i := ka - 1) (by omega)) ?_
      have q:=g2.pushA g3 g3'
      refine X.is (fun _=>X.tellE q g6 (fun e=>zB9 e _ _) fun t h=> .inl h) fun z=> ?_
      exact X.ite (fun _=>X.doneH (.inr ⟨rfl,q,by dsimp only;omega,by dsimp only;omega,g4,g4',by dsimp only;omega,g6⟩) fun e=>zB9 e _ _) fun _=>X.yieldH ⟨rfl,q,by dsimp only;omega,by dsimp only;omega,g4,g4',by dsimp only;rw[if_pos hk];omega,g6⟩ fun e=>zB9 e _ _
     ·refine X.go (D.elem (q := b) (i := kb - 1) (by omega)) ?_
      have q:=g2.pushB (by omega) g4'
      refine X.is (fun _=>X.tellF q g6 (fun e=>zB9 e _ _) fun t h=> .inl h) fun z=> ?_
      exact X.ite (fun _=>X.doneH (.inr ⟨rfl,q,g3,g3',by dsimp only;omega,by dsimp only;omega,by dsimp only;omega,g6⟩) fun e=>zB9 e _ _) fun _=>X.yieldH ⟨rfl,q,g3,g3',by dsimp only;omega,by dsimp only;omega,by dsimp only;rw[if_pos hk];omega,g6⟩ fun e=>zB9 e _ _
   ·rintro ⟨r,ka,kb,o,ac,bc⟩ z (⟨t,e1,ht⟩|⟨e1,g2,g3,g3',g4,g4',g5,g6⟩)
    ·dsimp only at e1
     subst e1
     exact X.done (some t,ka,kb,o,g) ⟨t,rfl,ht⟩
    ·dsimp only at e1 g2 g3 g3' g4 g4' g5
     subst e1
     dsimp only[vH]
     refine X.go D.rule ?_
     refine X.bind (u:=vH) (S:=fun t z=>Td a b x t.1 z∨Lh a b x k t.1 t.2.2.2.1 t.2.1 t.2.2.1 z) ?_ ?_
     ·refine X.rangeE (v := vH) (I := fun _ t y => Lh a b x k t.1 t.2.2.2.1 t.2.1 t.2.2.1 y) (t := (none,ka,kb,o,g + 1,ac,bc)) (a.size + b.size) (fun e => rfl) (fun t y h => .inr h) ⟨rfl,g2,g3,g3',g4,g4',g5,g6⟩ ?_
      rintro j ⟨r,ka,kb,o,g,ac,bc⟩ y hk ⟨rfl,g2,g3,g3',g4,g4',g5,g6⟩ i
      dsimp only at g2 g3 g3' g4 g4' g5
      dsimp only[vH]
      refine X.ite (fun _=> ?_) fun _=> ?_
      all_goals
       refine X.go D.setMin (X.go (D.elem (q:=b) (i:=kb - 1) (by omega)) (X.bind (gal (hb _ (by omega)) (by omega) (by omega) ha) ?_))
       rintro d z ⟨hd,rfl⟩
       refine X.ite (fun _=> ?_) fun _=> ?_
       ·have q:=g2.extA hd
        have qO: ∀e:En,e.of o++((e.of a).extract d ka).reverse=e.of (o++(a.extract d ka).reverse):=fun e=>by rw[zBZ,zHM,zCM]
        refine X.is (fun _=>X.tellE q g6 qO fun t h=> .inl h) fun z1=> ?_
        refine X.go (D.elem (q:=b) (i:=kb - 1) (by omega)) ?_
        have r:=q.pushB (show 0<kb by omega) g4'
        have rO: ∀e:En,_=e.of _:=fun e=>(congrArg (fun O=>O.push (e.at (b.getD (kb - 1) 0))) (qO e)).trans (zB9 e _ _)
        refine X.is (fun _=>X.tellF r g6 rO fun t h=> .inl h) fun z3=> ?_
        refine X.go (D.elem (q:=a) (i:=d - 1) (by omega)) (X.bind (gal (ha _ (by omega)) (by omega) (by omega) hb) ?_)
        rintro d2 z ⟨hd2,rfl⟩
        refine X.ite (fun _=> ?_) fun _=> ?_
        ·have u:=r.extB hd2
         have uO: ∀e:En,_=e.of _:=fun e=>((congrArg (fun O=>O++((e.of b).extract d2 (kb - 1)).reverse) (rO e)).trans (by rw[zBZ,zHM])).trans (zCM e _ _)
         refine X.is (fun _=>X.tellF u g6 uO fun t h=> .inl h) fun z4=>X.is (fun _=>X.tellE u g6 uO fun t h=> .inl h) fun z4'=> ?_
         refine X.go (D.elem (q:=a) (i:=d - 1) (by omega)) ?_
         have w:=u.pushA (show 0<d by omega) (by omega)
         have wO: ∀e:En,_=e.of _:=fun e=>(congrArg (fun O=>O.push (e.at (a.getD (d - 1) 0))) (uO e)).trans (zB9 e _ _)
         refine X.is (fun _=>X.tellE w g6 wO fun t h=> .inl h) fun z5=> ?_
         exact X.iteE (c0:=(decide (ka - d<7) && decide (kb - 1 - d2<7))=true) (fun e=>rfl) (fun _=>X.doneH (.inr ⟨rfl,w,by dsimp only;omega,by dsimp only;omega,by dsimp only;omega,by dsimp only;omega,by dsimp only;omega,g6⟩) wO) fun _=>X.yieldH ⟨rfl,w,by dsimp only;omega,by dsimp only;omega,by dsimp only;omega,by dsimp only;omega,by dsimp only;omega,g6⟩ wO
        ·skip
         refine X.go (D.elem (q:=a) (i:=d - 1) (by omega)) ?_
         have w:=r.pushA (show 0<d by omega) (by omega)
         have wO: ∀e:En,_=e.of _:=fun e=>(congrArg (fun O=>O.push (e.at (a.getD (d - 1) 0))) (rO e)).trans (zB9 e _ _)
         refine X.is (fun _=>X.tellE w g6 wO fun t h=> .inl h) fun z5=> ?_
         exact X.iteE (c0:=(decide (ka - d<7) && decide (kb - 1 - d2<7))=true) (fun e=>rfl) (fun _=>X.doneH (.inr ⟨rfl,w,by dsimp only;omega,by dsimp only;omega,by dsimp only;omega,by dsimp only;omega,by dsimp only;omega,g6⟩) wO) fun _=>X.yieldH ⟨rfl,w,by dsimp only;omega,by dsimp only;omega,by dsimp only;omega,by dsimp only;omega,by dsimp only;omega,g6⟩ wO
       ·have qO : ∀ e : En,e.of o = e.of o := fun e => rfl
        refine X.go (D.elem (q:=b) (i:=kb - 1) (by omega)) ?_
        have r:=g2.pushB (show 0<kb by omega) g4'
        have rO: ∀e:En,_=e.of _:=fun e=>(congrArg (fun O=>O.push (e.at (b.getD (kb - 1) 0))) (qO e)).trans (zB9 e _ _)
        refine X.is (fun _=>X.tellF r g6 rO fun t h=> .inl h) fun z3=> ?_
        refine X.go (D.elem (q:=a) (i:=ka - 1) (by omega)) (X.bind (gal (ha _ (by omega)) (by omega) (by omega) hb) ?_)
        rintro d2 z ⟨hd2,rfl⟩
        refine X.ite (fun _=> ?_) fun _=> ?_
        ·have u:=r.extB hd2
         have uO: ∀e:En,_=e.of _:=fun e=>((congrArg (fun O=>O++((e.of b).extract d2 (kb - 1)).reverse) (rO e)).trans (by rw[zBZ,zHM])).trans (zCM e _ _)
         refine X.is (fun _=>X.tellF u g6 uO fun t h=> .inl h) fun z4=>X.is (fun _=>X.tellE u g6 uO fun t h=> .inl h) fun z4'=> ?_
         refine X.go (D.elem (q:=a) (i:=ka - 1) (by omega)) ?_
         have w:=u.pushA (show 0<ka by omega) (by omega)
         have wO: ∀e:En,_=e.of _:=fun e=>(congrArg (fun O=>O.push (e.at (a.getD (ka - 1) 0))) (uO e)).trans (zB9 e _ _)
         refine X.is (fun _=>X.tellE w g6 wO fun t h=> .inl h) fun z5=> ?_
         exact X.iteE (c0:=(decide (ka - d<7) && decide (kb - 1 - d2<7))=true) (fun e=>rfl) (fun _=>X.doneH (.inr ⟨rfl,w,by dsimp only;omega,by dsimp only;omega,by dsimp only;omega,by dsimp only;omega,by dsimp only;omega,g6⟩) wO) fun _=>X.yieldH ⟨rfl,w,by dsimp only;omega,by dsimp only;omega,by dsimp only;omega,by dsimp only;omega,by dsimp only;omega,g6⟩ wO
        ·skip
         refine X.go (D.elem (q:=a) (i:=ka - 1) (by omega)) ?_
         have w:=r.pushA (show 0<ka by omega) (by omega)
         have wO: ∀e:En,_=e.of _:=fun e=>(congrArg (fun O=>O.push (e.at (a.getD (ka - 1) 0))) (rO e)).trans (zB9 e _ _)
         refine X.is (fun _=>X.tellE w g6 wO fun t h=> .inl h) fun z5=> ?_
         exact X.iteE (c0:=(decide (ka - d<7) && decide (kb - 1 - d2<7))=true) (fun e=>rfl) (fun _=>X.doneH (.inr ⟨rfl,w,by dsimp only;omega,by dsimp only;omega,by dsimp only;omega,by dsimp only;omega,by dsimp only;omega,g6⟩) wO) fun _=>X.yieldH ⟨rfl,w,by dsimp only;omega,by dsimp only;omega,by dsimp only;omega,by dsimp only;omega,by dsimp only;omega,g6⟩ wO
     ·rintro ⟨r,ka,kb,o,g,ac,bc⟩ z (⟨t,e1,ht⟩|⟨e1,g2,g3,g3',g4,g4',g5,g6⟩)
      ·dsimp only at e1
       subst e1
       exact X.done (some t,ka,kb,o,g) ⟨t,rfl,ht⟩
      ·dsimp only at e1 g2 g3 g3' g4 g4' g5
       subst e1
       dsimp only[vH]
       refine X.go D.setMin ?_
       exact X.yieldH ⟨rfl,g2,g3,g3',g4,g4',g5,g6⟩ fun e=>rfl
  ·simp only[zII]
   rfl
 ·rintro ⟨r,na,nb,o,g⟩ y ⟨t,e1,h⟩
  dsimp only at e1
  subst e1
  exact X.ret t h
end
section
variable{n:Nat}{ck:Nat->Nat->Bool}
def Ch:List (Nat×Nat×Nat)->Nat->Nat->Prop
 |[],s,e=>s=e
 |u::l,s,e=>u.1=s/\1<=u.2.1/\Ch l (s+u.2.1) e
theorem Ch.le: ∀{l:List (Nat×Nat×Nat)} {s e:Nat},Ch l s e->s<=e
 |[],s,e,h=>Nat.le_of_eq h
 |u::l,s,e,h=>by have:=Ch.le h.2.2;omega
theorem Ch.two: ∀{l:List (Nat×Nat×Nat)} {s e i:Nat} {u v:Nat×Nat×Nat},Ch l s e->l[i]? =some u->l[i+1]? =some v->v.1=u.1+u.2.1/\1<=u.2.1/\1<=v.2.1/\v.1+v.2.1<=e
 |[],s,e,i,u,v,h,h1,h2=>by simp at h1
 |[w],s,e,i,u,v,h,h1,h2=>by simp at h2
 |w::w'::l,s,e,0,u,v,h,h1,h2=>by
  simp at h1 h2
  subst h1 h2
  obtain⟨a1,a2,a3,a4,a5⟩:=h
  have:=a5.le
  exact⟨by omega,a2,a4,by omega⟩
 |w::w'::l,s,e,i+1,u,v,h,h1,h2=>by exact Ch.two (l:=w'::l) h.2.2 (by simpa using h1) (by simpa using h2)
theorem Ch.join: ∀{l:List (Nat×Nat×Nat)} {s e i:Nat} {u v:Nat×Nat×Nat},Ch l s e->l[i]? =some u->l[i+1]? =some v->Ch ((l.set i (u.1,u.2.1+v.2.1,u.2.2)).eraseIdx (i+1)) s e
 |[],s,e,i,u,v,h,h1,h2=>by simp at h1
 |[w],s,e,i,u,v,h,h1,h2=>by simp at h2
 |w::w'::l,s,e,0,u,v,h,h1,h2=>by
  simp at h1 h2
  subst h1 h2
  obtain⟨a1,a2,a3,a4,a5⟩:=h
  exact⟨a1,by dsimp only;omega,by rw[Lq] at a5;exact a5⟩
 |w::w'::l,s,e,i+1,u,v,h,h1,h2=>by
  have ih:=Ch.join (l:=w'::l) h.2.2 (by simpa using h1) (by simpa using h2)
  exact⟨h.1,h.2.1,ih⟩
theorem Ch.more: ∀{l:List (Nat×Nat×Nat)} {s e m:Nat},Ch l s e->1<=m->Ch (l++[(e,m,0)]) s (e+m)
 |[],s,e,m,h,h1=>⟨h.symm,h1,by rw[h];rfl⟩
 |u::l,s,e,m,h,h1=>⟨h.1,h.2.1,Ch.more h.2.2 h1⟩
theorem Ch.mod{f:Nat×Nat×Nat->Nat×Nat×Nat}(hf: ∀u,(f u).1=u.1/\(f u).2.1=u.2.1): ∀{l:List (Nat×Nat×Nat)} {s e:Nat} (i:Nat),Ch l s e->Ch (l.modify i f) s e
 |[],s,e,i,h=>by simpa using h
 |u::l,s,e,0,h=>by
  rw[List.modify_zero_cons]
  exact⟨(hf u).1.trans h.1,by rw[(hf u).2];exact h.2.1,by rw[(hf u).2];exact h.2.2⟩
 |u::l,s,e,i+1,h=>by
  rw[List.modify_succ_cons]
  exact⟨h.1,h.2.1,Ch.mod hf i h.2.2⟩
noncomputable def put{α:Type}(p:Array α)(s:Nat)(l:List α)(k:Nat):Array α:=(l.zipIdx k).foldl (fun a x=>a.setIfInBounds (s+x.2) x.1) p
theorem zQ0{α β:Type}(f:α->β)(s:Nat): ∀(l:List α) (k:Nat) (p:Array α),put (p.map f) s (l.map f) k=(put p s l k).map f
 |[],k,p=>rfl
 |q::l,k,p=>by
  have e:(p.map f).setIfInBounds (s+k) (f q)=(p.setIfInBounds (s+k) q).map f:=by simp
  show put ((p.map f).setIfInBounds (s+k) (f q)) s (l.map f) (k+1)=_
  rw[e]
  exact zQ0 f s l (k+1) _
theorem zMX{α:Type}(s:Nat): ∀(l:List α) (k:Nat) (p:Array α),s+k+l.length<=p.size->(put p s l k).toList=p.toList.take (s+k)++l++p.toList.drop (s+k+l.length)
 | [],k,p,h => by simp [put]
 | q :: l,k,p,h => by
  simp only[B0] at h
  have ih:=zMX s l (k+1) (p.setIfInBounds (s+k) q) (by simp;omega)
  show(put (p.setIfInBounds (s+k) q) s l (k+1)).toList=_
  have hk:s+k<p.toList.length:=by simp;omega
  rw[ih,Array.toList_setIfInBounds,show s+(k+1)=s+k+1 by omega,List.drop_set_of_lt (by omega),List.take_set,L6,Ci hk]
  simp only[B0,Option.toList_some]
  rw[show s+k+(l.length+1)=s+k+1+l.length by omega]
  have e2:(p.toList.take (s+k)++[p.toList[s+k]]).set (s+k) q=p.toList.take (s+k)++[q]:=by
   have a9:(p.toList.take (s+k)).length=s+k:=by rw[Bf];omega
   rw[D0 _ _ (by omega),a9,Gd]
   rfl
  rw[e2]
  simp
def Wf(n:Nat)(lo:Nat)(x:Pu):Prop:=Pm n x.p/\Ch x.pd.toList 0 lo/\lo<=n
theorem Pm.put{p:Array Nat}(hp:Pm n p){s m e:Nat}{t:Array Nat}(h1:s<=m)(h2:m<=e)(h3:e<=n)(ht:t.toList.Perm ((p.extract s m).toList++(p.extract m e).toList)):Pm n (TS.put p s t.toList 0):=by
 have hs:=hp.sz
 have hl:t.toList.length=e - s:=by
  rw[ht.length_eq]
  simp
  omega
 unfold Pm
 rw[zMX s t.toList 0 p (by omega)]
 refine G3 ?_ hp
 rw[hl,show s+0+(e - s)=e by omega,K0]
 have e0:=C5 e p.toList
 have e1:=C5 s (p.toList.take e)
 have e2:=zI1 (p.toList.take e) s m h1
 rw[Ip,E5 h2] at e2
 rw[Ip,E5 (by omega)] at e1
 rw[zDG,zDG,<- e2] at ht
 have e3:p.toList=p.toList.take s++(p.toList.take e).drop s++p.toList.drop e:=by rw[e1,e0]
 refine G3 (Dy _ (C4 _ ht)) ?_
 rw[<- e3]
theorem D.set{F:En->Dn}{x y:Pu}(h: ∀e,F e=stO e y):D n ck (fun e=>(MonadStateOf.set (F e):StateT Dn Sem PUnit)) x (fun _=>⟨⟩) y:=fun e _ E Q q=>by
 show kasC _ _ _ (MonadStateOf.set (F e):StateT Dn Sem PUnit) Q _ _
 rw[h e]
 unfold kasC
 exact A9 q
theorem yAG{a b:Array Nat}{x:Pu}{A B:En->Array Keyed}(hA: ∀e,A e=e.of a)(hB: ∀e,B e=e.of b)(ha:Al n a)(hb:Al n b)(a1:1<=a.size)(b1:1<=b.size):X n ck (fun e=>zN8 (A e) (B e)) x (fun t e=>e.of t) (fun t y=>t.toList.Perm (a.toList++b.toList)/\Sd x y):=by
 rw[show A=fun e=>e.of a from funext hA,show B=fun e=>e.of b from funext hB]
 exact yEE ha hb a1 b1
theorem yAH{a b:Array Nat}{x:Pu}{A B:En->Array Keyed}(hA: ∀e,A e=e.of a)(hB: ∀e,B e=e.of b)(ha:Al n a)(hb:Al n b)(a1:1<=a.size)(b1:1<=b.size):X n ck (fun e=>zN9 (A e) (B e)) x (fun t e=>e.of t) (fun t y=>t.toList.Perm (a.toList++b.toList)/\Sd x y):=by
 rw[show A=fun e=>e.of a from funext hA,show B=fun e=>e.of b from funext hB]
 exact yEF ha hb a1 b1
theorem Pm.al{p:Array Nat}(h:Pm n p):Al n p:=fun i hi=>h.lt (by rw[<- h.sz];exact hi)
theorem Al.ext{p:Array Nat}(h:Al n p)(i j:Nat):Al n (p.extract i j):=fun k hk=>by
 have hk':k<min j p.size - i:=by simpa using hk
 have e:(p.extract i j).getD k 0=p.getD (i+k) 0:=by
  have h1:i+k<p.size:=by omega
  have e1:p.getD (i+k) 0=p[i+k]:=by simp[Gq,h1]
  have e2:(p.extract i j).getD k 0=(p.extract i j)[k]:=by simp[Gq,hk']
  rw[e1,e2,Array.getElem_extract]
 rw[e]
 exact h _ (by omega)
theorem zWJ{i lo:Nat}{x:Pu}(h:Wf n lo x)(hi:i+1<x.pd.size):X n ck (fun _=>mergeAt' i) x (fun(_:Unit) _=>true) (fun _ y=>Wf n lo y):=by
 obtain⟨hp,hc,hl⟩:=h
 have hsz:=hp.sz
 obtain⟨sa,na,pw,hu⟩: ∃sa na pw,x.pd[i]'(by omega)=(sa,na,pw):=⟨_,_,_,rfl⟩
 obtain⟨sb,nb,qw,hv⟩: ∃sb nb qw,x.pd[i+1]'hi=(sb,nb,qw):=⟨_,_,_,rfl⟩
 have eu:x.pd[i]? =some (sa,na,pw):=by rw[<- hu];simp
 have ev:x.pd[i+1]? =some (sb,nb,qw):=by rw[<- hv];simp
 have eu':x.pd.toList[i]? =some (sa,na,pw):=by rw[<- eu];simp
 have ev':x.pd.toList[i+1]? =some (sb,nb,qw):=by rw[<- ev];simp
 obtain⟨c1,c2,c3,c4⟩:=hc.two eu' ev'
 dsimp only at c1 c2 c3 c4
 have hj:=hc.join eu' ev'
 dsimp only at hj
 have hW:Wf n lo {x with pd:=(x.pd.setIfInBounds i (sa,na+nb,pw)).eraseIdxIfInBounds (i+1)}:=⟨hp,by
  show Ch ((x.pd.setIfInBounds i (sa,na+nb,pw)).eraseIdxIfInBounds (i+1)).toList 0 lo
  rw[show((x.pd.setIfInBounds i (sa,na+nb,pw)).eraseIdxIfInBounds (i+1)).toList=(x.pd.toList.set i (sa,na+nb,pw)).eraseIdx (i+1) by simp[Go,hi]]
  exact hj,hl⟩
 generalize hy:({x with pd:=(x.pd.setIfInBounds i (sa,na+nb,pw)).eraseIdxIfInBounds (i+1)}:Pu)=y at hW
 refine X.go D.get ?_
 have epd: ∀e:En,pendingOf (stO e x)=x.pd:=fun e=>rfl
 simp only[epd,eu,ev]
 refine X.go (D.set (y:=y) fun e=>by rw[<- hy];rfl) ?_
 have hyp:y.p=x.p:=by rw[<- hy]
 refine X.go (D.elem (q:=x.p) (i:=sb) (by omega)) (X.bind (gal (hp.lt (by omega)) (by omega) (by omega) hp.al) ?_)
 rintro k z ⟨hk,rfl⟩
 refine X.is (fun _=>X.ret () hW) fun hk2=> ?_
 refine X.go (D.elem (q:=x.p) (i:=sa+k+(na - k) - 1) (by omega)) (X.bind (gal (hp.lt (by omega)) (by omega) (by omega) hp.al) ?_)
 rintro m z ⟨hm,rfl⟩
 refine X.is (fun _=>X.ret () hW) fun hm2=> ?_
 have fin: ∀(t:Array Nat) (z':Pu),t.toList.Perm ((x.p.extract (sa+k) sb).toList++(x.p.extract sb (sb+m)).toList)->Sd z z'->Wf n lo {z' with p:=TS.put z'.p (sa+k) t.toList 0}:=fun t z' ht hs=>by
  refine⟨?_,by rw[hs.2];exact hW.2.1,hl⟩
  rw[hs.1,hyp]
  exact hp.put (by omega) (by omega) (by omega) ht
 have putO: ∀(e:En) (t:Array Nat) (z':Pu),((e.of t).toList.zipIdx.foldl (fun a x=>a.setIfInBounds (sa+k+x.2) x.1) (e.of z'.p))=e.of (TS.put z'.p (sa+k) t.toList 0):=fun e t z'=>by
  have h:=zQ0 (Fi e.it) (sa+k) t.toList 0 z'.p
  rw[show t.toList.map (Fi e.it)=(e.of t).toList by simp[En.of]] at h
  exact h
 refine X.ite (fun _=>X.bind (yAG (a:=x.p.extract (sa+k) sb) (b:=x.p.extract sb (sb+m)) (fun e=>zBZ e _ _ _) (fun e=>zBZ e _ _ _) (hp.al.ext _ _) (hp.al.ext _ _) (by simp;omega) (by simp;omega)) ?_) fun _=>X.bind (yAH (a:=x.p.extract (sa+k) sb) (b:=x.p.extract sb (sb+m)) (fun e=>zBZ e _ _ _) (fun e=>zBZ e _ _ _) (hp.al.ext _ _) (hp.al.ext _ _) (by simp;omega) (by simp;omega)) ?_
 all_goals
  rintro t z' ⟨ht,hs⟩
  refine X.go (D.modify (y:={z' with p:=TS.put z'.p (sa+k) t.toList 0}) fun e=> ?_) (X.go D.get (X.ret () (fin t z' ht hs)))
  show Fl e.κ ((e.of t).toList.zipIdx.foldl (fun a x=>a.setIfInBounds (sa+k+x.2) x.1) (e.of z'.p)) z'.pd z'.g none=_
  rw[putO]
  rfl
end
section
variable{n:Nat}{ck:Nat->Nat->Bool}
theorem Wf.pw{x:Pu}{lo:Nat}(h:Wf n lo x)(i pw:Nat):Wf n lo {x with pd:=x.pd.modify i fun u=>(u.1,u.2.1,pw)}:=by
 refine⟨h.1,?_,h.2.2⟩
 show Ch (x.pd.modify i fun u=>(u.1,u.2.1,pw)).toList 0 lo
 rw[Array.toList_modify]
 exact Ch.mod (f:=fun u=>(u.1,u.2.1,pw)) (fun u=>⟨rfl,rfl⟩) i h.2.1
theorem Wf.more{x:Pu}{lo m:Nat}(h:Wf n lo x)(h1:1<=m)(h2:lo+m<=n):Wf n (lo+m) {x with pd:=x.pd.push (lo,m,0)}:=by
 refine⟨h.1,?_,h2⟩
 show Ch (x.pd.push (lo,m,0)).toList 0 (lo+m)
 rw[E9]
 exact h.2.1.more h1
theorem runs{x:Pu}(h:Wf n 0 x):X n ck (fun _=>sortRuns') x (fun(_:Unit) _=>()) (fun _ y=>Pm n y.p):=by
 refine X.go D.get ?_
 have esz : ∀ e : En,(arrOf (stO e x)).size = n := fun e => by
  show(e.of x.p).size=n
  rw[zH3,h.1.sz]
 have epd : ∀ (e : En) (y : Pu),pendingOf (stO e y) = y.pd := fun e y => rfl
 simp only[esz]
 generalize (sortPriv% PySem.Builtin.minRun) n n 0=mr
 refine X.bind (u:=fun(t:Nat) _=>(none,t)) (S:=fun t y=>Wf n t y) ?_ ?_
 ·refine X.range (I := fun _ t y => Wf n t y) (t := 0) (fun t y h => h) h fun i _ _ k lo y hw => ?_
  refine X.ite (fun _=>X.done lo hw) fun q=> ?_
  dsimp only at q
  refine X.bind (yF1 hw.1 (by dsimp only;omega) (by dsimp only;omega)) ?_
  rintro m z ⟨m1,m2,hz⟩
  have hz' : Wf n lo z := ⟨hz.1,by rw [hz.2];exact hw.2.1,hw.2.2⟩
  dsimp only at m2
  have last : ∀ (m : Nat) (z : Pu),1 <= m -> lo + m <= n -> Wf n lo z -> 1 <= m /\ lo + m <= n /\ Wf n lo z := fun m z a b c => ⟨a,b,c⟩
  refine X.ite (fun _=>X.go D.rule (X.bind (bin hz'.1 (by dsimp only;omega)) fun _ z2 hz2=>X.ite (fun hf=>absurd hf (by simp)) fun _=> ?_)) fun _=> ?_
  ·have w := last (min (n - lo) mr) z2 (by omega) (by omega) ⟨hz2.1,by rw [hz2.2];exact hz'.2.1,hz'.2.2⟩
   obtain⟨w1,w2,w3⟩:=w
   refine X.go D.get ?_
   simp only[epd]
   cases hb:z2.pd.back? with
   | none => exact X.go (D.modify (y := { z2 with pd := z2.pd.push (lo,(min (n - lo) mr),0) }) fun e => rfl) (X.yield (lo + (min (n - lo) mr)) (w3.more w1 w2))
   |some u=>
    obtain⟨s1,n1,q1⟩:=u
    dsimp only
    generalize hpw:(sortPriv% PySem.Builtin.power) n (2*s1+n1) (2*s1+n1+n1+min (n - lo) mr) n=pw
    refine X.bind (u:=fun(_:Unit) _=>(none,())) (S:=fun _ y=>Wf n lo y) ?_ fun _ y hy=> ?_
    ·refine X.range (I := fun _ _ y => Wf n lo y) (t := ()) (fun t y h => h) w3 fun i _ _ k _ y hy => ?_
     refine X.go D.get ?_
     simp only[epd]
     by_cases hs:y.pd.size>1
     ·rw[if_pos hs]
      cases ho:y.pd[y.pd.size - 2]? with
      |none=>exact X.done () hy
      |some u=>
       obtain⟨o1,o2,o3⟩:=u
       dsimp only
       exact X.ite (fun _=>X.done () hy) fun _=>X.bind (zWJ hy (by omega)) fun _ y h=>X.ite (fun hf=>absurd hf (by simp)) fun _=>X.yield () h
     ·rw[if_neg hs]
      exact X.done () hy
    ·refine X.go (D.modify (y := { y with pd := y.pd.modify (y.pd.size - 1) fun u => (u.1,u.2.1,pw) }) fun e => rfl) ?_
     exact X.go (D.modify (y:={y with pd:=(y.pd.modify (y.pd.size - 1) fun u=>(u.1,u.2.1,pw)).push (lo,(min (n - lo) mr),0)}) fun e=>rfl) (X.yield (lo+min (n - lo) mr) ((hy.pw _ pw).more w1 w2))
  ·have w := last m z m1 (by omega) hz'
   obtain⟨w1,w2,w3⟩:=w
   refine X.go D.get ?_
   simp only[epd]
   cases hb:z.pd.back? with
   | none => exact X.go (D.modify (y := { z with pd := z.pd.push (lo,m,0) }) fun e => rfl) (X.yield (lo + m) (w3.more w1 w2))
   |some u=>
    obtain⟨s1,n1,q1⟩:=u
    dsimp only
    generalize hpw:(sortPriv% PySem.Builtin.power) n (2*s1+n1) (2*s1+n1+n1+m) n=pw
    refine X.bind (u:=fun(_:Unit) _=>(none,())) (S:=fun _ y=>Wf n lo y) ?_ fun _ y hy=> ?_
    ·refine X.range (I := fun _ _ y => Wf n lo y) (t := ()) (fun t y h => h) w3 fun i _ _ k _ y hy => ?_
     refine X.go D.get ?_
     simp only[epd]
     by_cases hs:y.pd.size>1
     ·rw[if_pos hs]
      cases ho:y.pd[y.pd.size - 2]? with
      |none=>exact X.done () hy
      |some u=>
       obtain⟨o1,o2,o3⟩:=u
       dsimp only
       exact X.ite (fun _=>X.done () hy) fun _=>X.bind (zWJ hy (by omega)) fun _ y h=>X.ite (fun hf=>absurd hf (by simp)) fun _=>X.yield () h
     ·rw[if_neg hs]
      exact X.done () hy
    ·refine X.go (D.modify (y := { y with pd := y.pd.modify (y.pd.size - 1) fun u => (u.1,u.2.1,pw) }) fun e => rfl) ?_
     exact X.go (D.modify (y:={y with pd:=(y.pd.modify (y.pd.size - 1) fun u=>(u.1,u.2.1,pw)).push (lo,m,0)}) fun e=>rfl) (X.yield (lo+m) ((hy.pw _ pw).more w1 w2))
 ·intro lo y hw
  refine X.bind (u:=fun(_:Unit) _=>(none,())) (S:=fun _ y=>Wf n lo y) ?_ fun _ y h=>X.ret () h.1
  refine X.range (I:=fun _ _ y=>Wf n lo y) (t:=()) (fun t y h=>h) hw fun i _ _ k _ y hw=> ?_
  refine X.go D.get ?_
  simp only[epd]
  refine X.ite (fun _=>X.done () hw) fun q=> ?_
  have hle: ∀(c:Prop) [Decidable c],(if c then y.pd.size - 2 - 1 else y.pd.size - 2)+1<y.pd.size:=by
   intro c _
   split<;>omega
  exact X.bind (zWJ hw (hle _)) fun _ y h=>X.ite (fun hf=>absurd hf (by simp)) fun _=>X.yield () h
end
theorem Pm.id(n:Nat):Pm n (At n).toArray:=by
 unfold Pm
 simp
noncomputable def xS(n:Nat):Pu:=⟨(At n).toArray,#[],7⟩
theorem zPN(n:Nat)(ck:Nat->Nat->Bool): ∃y:Pu,Pm n y.p/\D n ck (fun _=>sortRuns') (xS n) (fun _=>()) y:=by
 obtain⟨t,y,h,d⟩:=runs (n:=n) (ck:=ck) (x:=xS n) ⟨Pm.id n,rfl,Cc _⟩
 exact⟨y,h,d⟩
noncomputable def srt(n:Nat)(ck:Nat->Nat->Bool):List Nat:=if 2<=n then(zPN n ck).choose.p.toList else At n
theorem zMK(n:Nat)(ck:Nat->Nat->Bool):(srt n ck).Perm (At n):=by
 unfold srt
 split
 ·exact(zPN n ck).choose_spec.1
 ·exact .refl _
section
variable{prog:Aw}{w:World}{A:C3}{E:Value->A7->Prop}{s:A7}
theorem zPV(vs:List Value):(At vs.length).map (fun i=>vs.getD i Value.none)=vs:=by
 refine Jo fun i=> ?_
 by_cases h:i<vs.length
 ·simp[h]
 ·simp[h]
theorem zP9{a:Addr}{vs:List Value}{nn:Nat}{κ:Ke}{ck:Nat->Nat->Bool}{P:PySem.Fin->A7->Prop}(ho:s.heap.get? a=some (Ej "list" vs.toArray nn)) (hz:vs.length<=sizeLine)
  (hk:2<=vs.length-> ∀h':Heap,(∀b o,b≠a->s.heap.get? b=some o->h'.get? b=some o)-> ∀Q':Ke->A7->Prop,Q' κ {s with heap:=h'}->wpAny (model prog w) A (keyKind' vs.toArray) Q' E {s with heap:=h'})
  (hc : ∀ h' : Heap,(∀ b o,b ≠ a -> s.heap.get? b = some o -> h'.get? b = some o) -> ∀ i j,i < vs.length -> j < vs.length -> ∀ C : Bool -> A7 -> Prop,C (ck i j) { s with heap := h' } -> wpAny (model prog w) A (keyLt' κ (vs.getD i Value.none) (vs.getD j Value.none)) C (fun _ _ => False) { s with heap := h' })
  (h : P (.done (.ret .none)) { s with heap := sortedHeap s.heap a vs ((srt vs.length ck).map fun i => vs.getD i Value.none).toArray }) :
  wpAny (model prog w) A (J0.«list.sort» ⟨[.ref a],[]⟩) P E s:=by
 have lt:=Ac ho
 have hsz:vs.toArray.size=vs.length:=by simp
 obtain⟨e1,ho1⟩: ∃k,(s.heap.update a (D2 fun _=> #[])).get? a=some (Ej "list" #[] k):=⟨_,get?_update_seq ho (fun _=> #[])⟩
 have keep: ∀b o,b≠a->s.heap.get? b=some o->(((s.heap.update a (D2 fun _=> #[])).push (Ej "tuple" vs.toArray 0)).push (Ej "list" #[] 0)).get? b=some o:=fun b o hb hbo=>
  A1 _ (A1 _ (by rw[J2 _ _ _ _ hb];exact hbo))
 have ho6:(((s.heap.update a (D2 fun _=> #[])).push (Ej "tuple" vs.toArray 0)).push (Ej "list" #[] 0)).get? a=some (Ej "list" #[] e1):=A1 _ (A1 _ ho1)
 have o8: ∀l:List Value,l.length=vs.length->l.toArray.size<=sizeLine+1:=fun l hl=>by rw[Af];omega
 rw[list_sort_plain]
 refine(A0 (listItems_at ho rfl ?_))
 refine(A0 (Jb ho rfl ?_ (by rw[Af];omega) (Cc _)))
 refine(A0 (Kz ho1 rfl ?_))
 refine(A0 (wpAny_newTuple ?_ (by show vs.length<=_;exact hz)))
 refine(A0 (wpAny_newList (Be ?_) (Cc _)))
 ·show (wpAny (model prog w) A _ P E { s with heap := (((s.heap.update a (D2 fun _ => #[])).push (Ej "tuple" vs.toArray 0)).push (Ej "list" #[] 0)) })
  dsimp only
  have a9:((srt vs.length ck).map fun i=>vs.getD i Value.none).length=vs.length:=by rw[Bi,(zMK _ _).length_eq,F7]
  by_cases h2:vs.toArray.size<2
  ·have he : ((srt vs.length ck).map fun i => vs.getD i Value.none) = vs := by
    unfold srt
    rw[if_neg (by omega)]
    exact zPV vs
   rw[he] at h
   rw[if_pos h2,if_pos h2]
   refine(A0 (A9 ?_))
   rw[StateT.run_pure]
   refine(A0 (A9 ?_))
   dsimp only
   have hm:(vs.toArray.zip vs.toArray).map (·.2)=vs.toArray:=by
    apply Kb.mp
    simp
    exact List.map_snd_zip (Ae _)
   rw[hm]
   refine(A0 (Kz ho6 rfl (A0 (Jb ho6 rfl ?_ (hsz2:=by rw[Af];omega)))))
   simp only[bne_self_eq_false,Di,if_false]
   exact A9 h
  ·rw[if_neg h2,if_neg h2]
   refine(A0 (hk (by omega) _ keep _ ?_))
   have n2:2<=vs.length:=by omega
   have spec:=(zPN vs.length ck).choose_spec
   have lj:srt vs.length ck=(zPN vs.length ck).choose.p.toList:=by unfold srt;rw[if_pos n2]
   generalize (zPN vs.length ck).choose=y at spec lj
   let e:En:=⟨prog,w,A,{s with heap:=(((s.heap.update a (D2 fun _=> #[])).push (Ej "tuple" vs.toArray 0)).push (Ej "list" #[] 0))},κ,Js vs⟩
   have eok:e.Ok vs.length ck:=fun i j hi hj C q=>by
    show wpAny (model prog w) A (keyLt' κ (Fi (Js vs) i).1 (Fi (Js vs) j).1) C _ _
    rw[L0,L0]
    exact hc _ keep i j hi hj C q
   have est:Fl κ (vs.toArray.zip vs.toArray) #[] 7 none=stO e (xS vs.length):=by
    have q:=kas_range (Js vs)
    rw[pairsOf_size] at q
    show Fl κ (Js vs) #[] 7 none=Fl κ ((List.toArray (At vs.length)).map (Fi (Js vs))) #[] 7 none
    rw[q]
   rw[est]
   have mz:(e.of y.p).map (·.2)=((srt vs.length ck).map fun i=>vs.getD i Value.none).toArray:=by
    apply Kb.mp
    rw[lj,Array.map_map,Array.toList_map]
    exact G0 fun i _=>by show(Fi (Js vs) i).2=_;rw[L0]
   have run:=spec.2 e eok E (fun _ st' s'=>st'=stO e y/\s'=e.s) ⟨rfl,rfl⟩
   refine(A0 (Br run ?_ fun _ _ x=>x))
   rintro ⟨⟨⟩,st'⟩ s' ⟨rfl,rfl⟩
   show(wpAny (model prog w) A _ P E {s with heap:=(((s.heap.update a (D2 fun _=> #[])).push (Ej "tuple" vs.toArray 0)).push (Ej "list" #[] 0))})
   dsimp only
   rw[show(arrOf (stO e y))=e.of y.p from rfl,mz]
   refine(A0 (Kz ho6 rfl (A0 (Jb ho6 rfl ?_ (hsz2:=by rw[Af];omega)))))
   rw[show failedOf (stO e y)=none from rfl]
   simp only[bne_self_eq_false,Di,if_false]
   exact A9 h
end
section
variable{prog:Aw}{w:World}{A:C3}{E:Value->A7->Prop}{s:A7}
theorem zLG{l:Addr}{vs:List Value}{κ:Ke}{ck:Nat->Nat->Bool}{Q:Value->A7->Prop}(hl:s.heap.IsList l vs.toArray)(hz:vs.length<=sizeLine)
  (hk:2<=vs.length-> ∀(A:C3) (E:Value->A7->Prop) (h':Heap),(∀b o,s.heap.get? b=some o->h'.get? b=some o)-> ∀Q':Ke->A7->Prop,Q' κ {s with heap:=h'}->wpAny (model prog w) A (keyKind' vs.toArray) Q' E {s with heap:=h'})
  (hc: ∀(A:C3) (h':Heap),(∀b o,s.heap.get? b=some o->h'.get? b=some o)-> ∀i j,i<vs.length->j<vs.length-> ∀C:Bool->A7->Prop,C (ck i j) {s with heap:=h'}->wpAny (model prog w) A (keyLt' κ (vs.getD i Value.none) (vs.getD j Value.none)) C (fun _ _=>False) {s with heap:=h'})
  (h:Q (.ref (s.heap.objs.size+1)) {s with heap:=sortedAll s.heap vs ((srt vs.length ck).map fun i=>vs.getD i Value.none).toArray}):
  wpAny (model prog w) A (call (.builtin "sorted") [.ref l]) Q E s:=by
 refine(Calls.call_function_entry kind_sorted plain_sorted entry_sorted (args_sorted1 _) ?_)
 unfold J0.«sorted»
 refine(A0 (m:=checkCount "sorted" 1 1 _) (A9 (A0 (collect_list hl (A0 (wpAny_newList ?_ (by exact hz))) hz))))
 have hs1:((s.heap.push (Ej "list" #[] 0)).update s.heap.objs.size (D2 (· ++vs.toArray))).objs.size=s.heap.objs.size+1:=by rw[Heap.size_update,size_push']
 have hoL:(((s.heap.push (Ej "list" #[] 0)).update s.heap.objs.size (D2 (· ++vs.toArray))).push (Ej "list" vs.toArray 0)).get? (s.heap.objs.size+1)=some (Ej "list" vs.toArray 0):=by rw[<- hs1];exact Ai _ rfl
 have keep: ∀b o,s.heap.get? b=some o->(((s.heap.push (Ej "list" #[] 0)).update s.heap.objs.size (D2 (· ++vs.toArray))).push (Ej "list" vs.toArray 0)).get? b=some o/\b≠s.heap.objs.size+1:=fun b o q=>by
  have hlt:b<s.heap.objs.size:=Ac q
  refine⟨?_,Au (Jt hlt)⟩
  rw[F8 _ _ _ (by rw[hs1];exact(Au (Jt hlt))),J2 _ _ _ _ (Au hlt),F8 _ _ _ (Au hlt)]
  exact q
 show(wpAny _ _ _ _ _ {s with heap:=((s.heap.push (Ej "list" #[] 0)).update s.heap.objs.size (D2 (· ++vs.toArray))).push (Ej "list" vs.toArray 0)})
 rw[hs1]
 refine(A0 (Be (Cv slot_list_sort ⟨_,hoL,rfl⟩ entry_list_sort (zP9 (κ:=κ) (ck:=ck) hoL hz (fun n2 h' k'=>hk n2 _ _ h' fun b o q=>k' b o (keep b o q).2 (keep b o q).1) (fun h' k'=>hc _ h' fun b o q=>k' b o (keep b o q).2 (keep b o q).1) ⟨_,rfl,?_⟩) (args_list_sort _))))
 exact(A9 ⟨_,rfl,h⟩)
noncomputable def lexP(p q:Int×Int):Bool:=if p.1=q.1 then decide (p.2<q.2) else decide (p.1<q.1)
theorem zTH{x y:Addr}{a b c d:Int}{t u t' u':Tok}{C:Bool->A7->Prop}(hx:IsTup s.heap x #[.int a t,.int b u])(hy:IsTup s.heap y #[.int c t',.int d u'])(h:C (lexP (a,b) (c,d)) s):wpAny (model prog w) A (keyLt' (tuples' true) (.ref x) (.ref y)) C E s:=by
 obtain⟨ox,hx,_,n,dx⟩:=hx
 obtain⟨oy,hy,_,m,dy⟩:=hy
 refine kat_lt hx dx hy dy ?_
 refine kat_cons (Hc (kat_go (fun e=>kat_yes ?_) fun e=>kat_no ?_))
 ·have e : a = c := by simpa using e
  refine kat_cons (Hc (kat_go (fun e2=>kat_yes (kat_nil ?_)) fun e2=>kat_no ?_))
  ·have e2 : b = d := by simpa using e2
   have:lexP (a,b) (c,d)=false:=by simp[lexP,e,e2]
   rw[this] at h
   exact h
  ·refine kat_one _ _ (lt_int ?_)
   have:lexP (a,b) (c,d)=decide (b<d):=by simp[lexP,e]
   rw[this] at h
   exact h
 ·have e : ¬ a = c := by simpa using e
  have:lexP (a,b) (c,d)=decide (a<c):=by simp[lexP,e]
  rw[this] at h
  exact oneLt_int h
def PrI(h:Heap):List Value->List (Int×Int)->Prop
 |[],[]=>True
 |v::vs,p::ps=>(∃a t u,v= .ref a/\IsTup h a #[.int p.1 t,.int p.2 u])/\PrI h vs ps
 |_,_=>False
theorem PrI.keep{h h':Heap}(k: ∀b o,h.get? b=some o->h'.get? b=some o): ∀{vs:List Value} {ps:List (Int×Int)},PrI h vs ps->PrI h' vs ps
 |[],[],_=>trivial
 |_::_,_::_,⟨⟨a,t,u,e,q⟩,r⟩=>⟨⟨a,t,u,e,q.keeps k⟩,PrI.keep k r⟩
 |[],_::_,r=>r.elim
 |_::_,[],r=>r.elim
theorem PrI.at{h:Heap}: ∀{vs:List Value} {ps:List (Int×Int)} {i:Nat},PrI h vs ps->i<vs.length-> ∃a t u,vs.getD i Value.none= .ref a/\IsTup h a #[.int (ps.getD i (0,0)).1 t,.int (ps.getD i (0,0)).2 u]
 |[],[],i,_,hi=>by simp at hi
 |_::_,_::_,0,r,_=>r.1
 |v::vs,p::ps,i+1,r,hi=>by
  have:=PrI.at (i:=i) r.2 (by simpa using hi)
  simpa using this
 |[],_::_,i,r,_=>r.elim
 |_::_,[],i,r,_=>r.elim
theorem PrI.tups{h:Heap}: ∀{vs:List Value} {ps:List (Int×Int)},PrI h vs ps-> ∃fs,KatTups h vs fs/\fs.length=vs.length/\ ∀v∈fs,∃i t,v= .int i t
 |[],[],_=>⟨[],trivial,rfl,fun _ h=>by cases h⟩
 |_::_,_::_,⟨⟨a,t,u,e,o,ho,hcl,n,hd⟩,r⟩=>by
  obtain⟨fs,h1,h2,h3⟩:=PrI.tups r
  subst e
  refine⟨.int _ t::fs,KatTups.cons ho hcl hd rfl h1,by simp[h2],fun v hv=> ?_⟩
  rcases A8.mp hv with rfl|hv
  ·exact⟨_,_,rfl⟩
  ·exact h3 v hv
 |[],_::_,r=>r.elim
 |_::_,[],r=>r.elim
noncomputable def ckP(ps:List (Int×Int))(i j:Nat):Bool:=lexP (ps.getD i (0,0)) (ps.getD j (0,0))
theorem zK4{l:Addr}{vs:List Value}{ps:List (Int×Int)}{Q:Value->A7->Prop}(hl:s.heap.IsList l vs.toArray)(hz:vs.length<=sizeLine)(hp:PrI s.heap vs ps)
  (h:Q (.ref (s.heap.objs.size+1)) {s with heap:=sortedAll s.heap vs ((srt vs.length (ckP ps)).map fun i=>vs.getD i Value.none).toArray}):
  wpAny (model prog w) A (call (.builtin "sorted") [.ref l]) Q E s:=by
 refine zLG (κ:=tuples' true) hl hz (fun n2 A E h' k' Q' q=> ?_) (fun A h' k' i j hi hj C q=> ?_) h
 ·obtain⟨fs,h1,h2,h3⟩:=(hp.keep k').tups
  refine kat_kind (s:={s with heap:=h'}) (T:= .type "int") h1 (by omega) (fun v hv=> ?_) (by decide) q
  obtain⟨i,t,rfl⟩:=h3 v hv
  exact Looks.now
 ·obtain⟨a,t,u,e1,t1⟩:=(hp.keep k').at hi
  obtain⟨b,t',u',e2,t2⟩:=(hp.keep k').at hj
  rw[e1,e2]
  exact zTH (s:={s with heap:=h'}) t1 t2 q
end
end TS
namespace L2
open PySem PySem.Spec PyProof.Rows
variable{X:Cx}{K:Ad}
noncomputable def prD:Dat->Option (Int×Int)
 | .tup [.int a,.int b]=>some (a,b)
 |_=>none
noncomputable def prsD:List Dat->Option (List (Int×Int))
 |[]=>some []
 |d::ds=>(prD d).bind fun p=>(prsD ds).map fun ps=>p::ps
def PrV(K:Ad)(H:Hp):List V->List (Int×Int)->Prop
 |[],[]=>True
 |v::vs,p::ps=>(∃a,v= .ref a/\SqT K H a [.int p.1,.int p.2])/\PrV K H vs ps
 |_,_=>False
theorem zYR{d:Dat}{p:Int×Int}(h:prD d=some p):d= .tup [.int p.1,.int p.2]:=by
 unfold prD at h
 split at h
 ·cases h;rfl
 ·cases h
theorem zQ3{H:Hp}{N:Addr->Prop}: ∀{xs:List V} {ds:List Dat} {ps:List (Int×Int)},RepA K N H xs ds->prsD ds=some ps->PrV K H xs ps
 | _,_,_,.nil,h => by cases h;trivial
 | _,_,ps,@RepA.cons _ _ _ v vs d ds h t,e => by
  have e : (prD d).bind (fun p => (prsD ds).map fun ps => p :: ps) = some ps := e
  cases h1:prD d with
  | none => rw [h1] at e;cases e
  |some p=>
   rw[h1] at e
   have e:(prsD ds).map (fun ps=>p::ps)=some ps:=e
   cases h2:prsD ds with
   | none => rw [h2] at e;cases e
   |some qs=>
    rw[h2] at e
    cases e
    have:=zYR h1
    subst this
    refine⟨?_,zQ3 t h2⟩
    cases h with
    |tup sq r=>
     cases r with
     |cons r1 r=>
      cases r1
      cases r with
      |cons r2 r=>
       cases r2
       cases r
       exact⟨_,rfl,sq⟩
theorem PrV.prI{H:Hp}{a6:List (Addr×Obj)}{σ:St}{s:A7}(I:Inv X a6 σ H s): ∀{xs:List V} {us:List Value} {ps:List (Int×Int)},PrV X.K H xs ps->Vals xs us->TS.PrI s.heap us ps
 | [],_,[],_,.nil => trivial
 | _ :: _,_,_ :: _,⟨⟨a,e,q⟩,r⟩,.cons h t => by
  subst e
  cases h
  obtain⟨its,rv,ht,_⟩:=I.tuple q
  cases rv with
  |cons r1 rv=>
   obtain⟨t1,rfl⟩:=r1
   cases rv with
   |cons r2 rv=>
    obtain⟨t2,rfl⟩:=r2
    cases rv
    exact⟨⟨a,t1,t2,rfl,ht⟩,PrV.prI I r t⟩
 |[],_,_::_,h,_=>h.elim
 |_::_,_,[],h,_=>h.elim
theorem PrV.len{H:Hp}: ∀{xs:List V} {ps:List (Int×Int)},PrV K H xs ps->xs.length=ps.length
 |[],[],_=>rfl
 |_::_,_::_,r=>by simp[PrV.len r.2]
 |[],_::_,r=>r.elim
 |_::_,[],r=>r.elim
theorem zJY{xs:List V}{us:List Value}(r:Vals xs us): ∀l:List Nat,(∀i∈l,i<xs.length)->Vals (l.map fun i=>xs.getD i .non) (l.map fun i=>us.getD i Value.none)
 |[],_=> .nil
 |i::l,h=>by
  have hi:=h i Ak
  obtain⟨u,h1,h2⟩:=Vals.get (i:=i) (x:=xs[i]) r (by simp[hi])
  refine .cons ?_ (zJY r l fun j hj=>h j (Ag _ hj))
  have e1:xs.getD i .non=xs[i]:=by simp[hi]
  have e2:us.getD i Value.none=u:=by simp[h1]
  show RelV (xs.getD i .non) (us.getD i Value.none)
  rw[e1,e2]
  exact h2
noncomputable def srtP(ps:List (Int×Int)):List Nat:=TS.srt ps.length (TS.ckP ps)
theorem zFF(ps:List (Int×Int)):(srtP ps).Perm (At ps.length):=TS.zMK _ _
def zUA(K:Ad):RC:=fun xs H Q=> ∃(p:Addr) (ys:List V) (ps:List (Int×Int)),xs=[.ref p]/\SqL K H p ys/\PrV K H ys ps/\ ∀l:Addr,H l=none->Q (.ref l) (upd H l (.lst ((srtP ps).map fun i=>ys.getD i .non)))
theorem yAS(h:X.K=K):zBW X (.builtin "sorted") (zUA K):=by
 subst h
 intro a6 s σ H xs us Q I r h
 obtain⟨p,ys,ps,rfl,hq,hp,q⟩:=h
 obtain⟨u,rfl,rx⟩:=zH0 r
 cases rx
 obtain⟨its,rv,pl,hz⟩:=I.list hq
 have a9:=rv.length
 have hpl:=hp.len
 have hn:H (s.heap.objs.size+1)=none:=I.hok.fresh (E3 _)
 refine TS.zK4 pl.isList (by omega) (hp.prI I rv) ?_
 rw[show its.length=ps.length by omega]
 obtain⟨e,he⟩:=sortedAll_at s.heap its ((TS.srt ps.length (TS.ckP ps)).map fun i=>its.getD i Value.none).toArray
 refine⟨.ref (s.heap.objs.size+1),_,I.laid (a:=s.heap.objs.size+1) (o:= .lst ((srtP ps).map fun i=>ys.getD i .non)) (t':=s.toks) (fun b o=>sortedAll_old) (E3 _) ?_,rfl,q _ hn⟩
 refine⟨by rw[Bi,(zFF ps).length_eq,F7];omega,(srtP ps).map fun i=>its.getD i Value.none,e,zJY rv _ fun i hi=> ?_,?_⟩
 ·have:=Bx.mp ((zFF ps).mem_iff.mp hi)
  omega
 ·rw[he]
  rfl
noncomputable def zQJ:Dat->Option Dat
 | .lst ds=>(prsD ds).bind fun ps=>some (.lst ((srtP ps).map fun i=>ds.getD i .non))
 |_=>none
theorem zKD{H:Hp}{N:Addr->Prop}{xs:List V}{ds:List Dat}(r:RepA K N H xs ds): ∀l:List Nat,RepA K N H (l.map fun i=>xs.getD i .non) (l.map fun i=>ds.getD i .non)
 | [] => .nil
 | i :: l => by
  have one: ∀{xs:List V} {ds:List Dat} (i:Nat),RepA K N H xs ds->Rep K N H N (xs.getD i .non) (ds.getD i .non):=by
   intro xs ds i r
   induction r using RepA.rec (motive_1:=fun _ _ _ _=>True) generalizing i with
   |nil=>simpa using Rep.non
   |cons h t _ ih=>cases i with
    |zero=>simpa using h
    |succ i=>simpa using ih i
   |_=>trivial
  exact .cons (one i r) (zKD r l)
theorem zWF:CalN K (zUA K) zQJ:=by
 intro H N M x d c Q hx h k
 cases d with
 |lst ds=>
  have h:((prsD ds).bind fun ps=>some (Dat.lst ((srtP ps).map fun i=>ds.getD i .non)))=some c:=h
  cases h1:prsD ds with
  |none=>rw[h1] at h;cases h
  |some ps=>
   rw[h1] at h
   cases h
   obtain⟨a,xs,rfl,sq,r⟩:=hx.lstE
   exact⟨a,xs,ps,rfl,sq,zQ3 r h1,fun l hl'=>k l _ _ hl' (zKD r _) rfl⟩
 |_=>cases h
theorem zQQ:typeLookup (.type "list") ("keys":Str)=pure none:=am_miss_of_fast (by decide+kernel)
section
variable{prog:Aw}{w:World}{A:C3}{E:Value->A7->Prop}{s:A7}
theorem zQV{a:Addr}{o:Obj}{xs:Array Value}{k:Nat}{Q:Option Value->A7->Prop}(hx:s.heap.get? a=some o)(hc:o.cls= .type "list") (c5:o.data= .seq xs k) (hd:o.dict=none) (hA:A.handled=none)
  (h: ∀h' tk,(∀b ob,s.heap.get? b=some ob->h'.get? b=some ob)->Q none {s with heap:=h',toks:=tk}):wpAny (model prog w) A (getAttr? (.ref a) "keys") Q E s:=by
 obtain⟨c,dct,dat,sl⟩:=o
 simp only at hc c5 hd
 subst hc c5 hd
 obtain⟨hp,g,d,tk,os⟩:=s
 have hT: ∀tk',(⟨hp,g,d,tk',os⟩:A7).TypeIs (.ref a) "list":=fun _=>⟨_,hx,rfl⟩
 have f1:=sub_AttributeError
 have f3:=F.slot_list_getattribute.lookup
 have f4:=F.slot_list_getattribute.bind (.ref a)
 have f5:=am_list_getattr_none
 unfold getAttr? getAttrBy? getAttrBy
 (repeat (any_goals (first|assumption|exact hT _|((with_reducible show wpAny _ _ (call (Value.builtin "list.__getattribute__") _ _) _ _ _);refine Ji F.slot_list_getattribute (hT _) am_entry_list_getattribute (F.args_list_getattribute_2 _ _) (meets_getattribute_miss_list a xs k sl "keys" _ zQQ (by decide) (by size_fits)) ⟨hx,hA,fun h' tk' e hx'=> ?_⟩)|wp_step)))
 obtain⟨t1,u1,he⟩:=hx'.there
 show(wpAny _ _ (Jd _ _ _ _ _ _ _) _ _ _)
 unfold Jd
 (repeat (any_goals (first|assumption|wp_step)))
 exact h _ _ hx'.keeps
end
theorem zKX:entryFor table "dict.update.loop"=some J0.«dict.update.loop» :=entryFor_of_tree (by kernel_rfl)
theorem zFH:plainId "dict.update.loop"=true:=by decide+kernel
def PrK(prog:Aw)(w:World)(h:Heap):List Value->List (Key×Value)->Prop
 |[],[]=>True
 |v::vs,p::ps=>(∃a key,v= .ref a/\IsTup h a #[key,p.2]/\(zBA prog w).is p.1 key=true)/\PrK prog w h vs ps
 |_,_=>False
section
variable{prog:Aw}{w:World}{A:C3}{E:Value->A7->Prop}{s:A7}
theorem PrK.keep{h h':Heap}{C:Addr->Prop}(k: ∀b o,C b->h.get? b=some o->h'.get? b=some o): ∀{vs:List Value} {ps:List (Key×Value)},(∀a,Ax a∈vs->C a)->PrK prog w h vs ps->PrK prog w h' vs ps
 |[],[],_,_=>trivial
 |_::_,_::_,hC,⟨⟨a,key,e,⟨o,ho,r⟩,q⟩,r2⟩=>⟨⟨a,key,e,⟨o,k a o (hC a (by rw[e];exact Ak)) ho,r⟩,q⟩,PrK.keep k (fun a ha=>hC a (Ag _ ha)) r2⟩
 |[],_::_,_,r=>r.elim
 |_::_,[],_,r=>r.elim
theorem zO7{a:Addr}{k v:Value}{Q:List Value->A7->Prop}(h:IsTup s.heap a #[k,v])(q:Q [k,v] s):wpAny (model prog w) A (Hk (.ref a)) Q E s:=by
 obtain⟨o,ho,hc,n,hd⟩:=h
 unfold Hk
 refine(A0 (Gb (T:= "tuple") ⟨o,ho,hc⟩ ?_))
 rw[if_pos (by decide)]
 exact(A0 (D6 ho hd (A9 q)))
theorem yB7{R:Result->A7->Prop}{I D:Addr}{fp wr:List Addr}{items:Array Value}{St:Nat->Heap->Prop}(W:Walks prog w A.in1 I fp wr items.size (fun i v=>items[i]? =some v) St)(hDf:D∉fp): ∀(vs:List Value) (ps:List (Key×Value)) (j:Nat) (i:Int) (s:A7) (kvs:List (Key×Value)),items.toList.drop j=vs->j+vs.length=items.size->St j s.heap->s.heap.DictOf (zBA prog w) D kvs->kvs.length+vs.length<=sizeLine->PrK prog w s.heap vs ps->(∀a,Ax a∈vs->a∉wr/\a≠D)→
  (∀ g tk,g.DictOf (zBA prog w) D (ps.foldl (fun l p => Lw l p.1 p.2) kvs) -> (∀ b o,b ∉ wr -> b ≠ D -> s.heap.get? b = some o -> g.get? b = some o) -> R (.ok (.ret .none)) { s with heap := g,toks := tk }) →
  Iu (model prog w) A (.builtin "dict.update.loop" ⟨[.ref D,.ref I,rawInt i,.none],[]⟩) R s
 | [],ps,j,i,s,kvs,e,hj,hst,hd,hz,hp,ha,hR => by
  have nDw:D∉wr:=fun z=>hDf (W.sub _ z)
  cases ps with
  | cons p ps => exact hp.elim
  |nil=>
   refine codeAny_builtin zKX (by
    rw[Ii zFH _]
    show(wpAny _ A.in1 (pyNext (.ref I)>>=_) _ _ s)
    refine(A0 (W.done s _ _ (by rw[show items.size=j by simpa using hj.symm];exact hst) fun g tk kept=> ?_))
    show(wpAny _ A.in1 (Builtin.Dict.addKeywords D []>>=_) _ _ _)
    refine(A0 (A9 (A9 ?_)))
    obtain⟨o,es,ep,ho,r⟩:=hd
    exact hR g tk ⟨o,es,ep,kept _ _ nDw ho,r⟩ fun b o z1 _ e=>kept b o z1 e)
 | v :: vs,ps,j,i,s,kvs,e,hj,hst,hd,hz,hp,ha,hR => by
  have nDw:D∉wr:=fun z=>hDf (W.sub _ z)
  cases ps with
  | nil => exact hp.elim
  |cons p ps=>
   obtain⟨⟨a,key,rfl,ht,hk⟩,hp⟩:=hp
   obtain⟨na,nD⟩:=ha a Ak
   simp only[B0] at hj hz
   have ei:items[j]? =some (.ref a):=by
    have:=congrArg (fun l=>l[0]?) e
    simpa using this
   have ed:items.toList.drop (j+1)=vs:=by
    have:=congrArg List.tail e
    simpa using this
   refine codeAny_builtin zKX (by
    rw[Ii zFH _]
    show(wpAny _ A.in1 (pyNext (.ref I)>>=_) _ _ s)
    refine(A0 (W.item j s _ _ (by omega) hst fun v g tk pv mx kept=> ?_))
    obtain rfl:v= .ref a:=by rw[ei] at pv;cases pv;rfl
    obtain⟨o,ho,r⟩:=ht
    obtain⟨o2,es,ep,ho2,r2⟩:=hd
    refine(A0 (Be (A0 (wpAny_tryCatch (zO7 (s:={s with heap:=g,toks:=tk}) ⟨o,kept _ _ na ho,r⟩ ?_)))))
    refine(Be (wpAny_dictSet_pairs (s:={s with heap:=g,toks:=tk}) (kvs:=kvs) hk ⟨o2,es,ep,kept _ _ nDw ho2,r2⟩ (fun g2 hd2 hs2=> ?_) (by omega)))
    have gq: ∀b o,b∉wr->b≠D->s.heap.get? b=some o->g2.get? b=some o:=fun b o z1 z2 e=>(hs2.2 b z2).trans (kept b o z1 e)
    refine(A9 ⟨plainId_quiet zFH _,yB7 W hDf vs ps (j+1) (i+1) _ (Lw kvs p.1 p.2) ed (by omega) (W.frame _ _ _ mx fun b hb o e=>(hs2.2 b (fun z=>hDf (by rw[<- z];exact hb))).trans e) hd2 ?_ (PrK.keep (C:=fun b=>b∉wr/\b≠D) (fun b o hb e=>gq b o hb.1 hb.2 e) (fun a h=>ha a (Ag _ h)) hp) (fun a h=>ha a (Ag _ h)) ?_⟩)
    ·have:=stored_length_le kvs p.1 p.2
     omega
    ·exact fun g3 tk3 hd3 lf=>hR g3 tk3 hd3 fun b o z1 z2 e=>lf b o z1 z2 (gq b o z1 z2 e))
end
section
variable{prog:Aw}{w:World}{A:C3}{E:Value->A7->Prop}{s:A7}
theorem zOH{l:Addr}{vs:List Value}{ps:List (Key×Value)}{Q:Value->A7->Prop}(hh:A.handled=none)(pl:PlainL s.heap l vs.toArray)(hz:vs.length<=sizeLine)(hp:PrK prog w s.heap vs ps)
  (h : ∀ g tk,g.DictOf (zBA prog w) s.heap.objs.size (ps.foldl (fun l p => Lw l p.1 p.2) []) -> (∀ b o,s.heap.get? b = some o -> g.get? b = some o) -> Q (.ref s.heap.objs.size) { s with heap := g,toks := tk }) :
  wpAny (model prog w) A (call (.type "dict") [.ref l]) Q E s:=by
 refine(callType_codes (Q₁:=fun obj s₁=>obj= .ref s.heap.objs.size/\s₁={s with heap:=s.heap.push {cls:= .type "dict",data:= .dict #[]}}) F.kt_called_dict (F.kt_typeCall_dict_1 _) F.entry_dict_init (kt_code_dict_new _ ⟨rfl,rfl⟩) ?_)
 rintro obj s₁ ⟨rfl,rfl⟩
 have cp:(s.heap.push {cls:= .type "dict",data:= .dict #[]}).DictOf (zBA prog w) s.heap.objs.size []:=Ko s.heap
 obtain⟨o,n,ho,hc,hd,c5⟩:=pl
 have ho':(s.heap.push {cls:= .type "dict",data:= .dict #[]}).get? l=some o:=A1 _ ho
 refine⟨cp.typeIs,F.args_dict_init_2 _ _,?_⟩
 unfold J0.«dict.__init__»
 refine(A0 ?_)
 unfold Builtin.Dict.selfAndRest
 refine(A0 (wpAny_notOrdered_dict cp.typeIs ?_))
 show(wpAny _ _ (pure (s.heap.objs.size,[Ax l])) _ _ _)
 refine(A9 ?_)
 show(wpAny _ _ (Ha "dict.__init__" s.heap.objs.size (.ref l) [] .none) _ _ _)
 unfold Ha
 refine(A0 (Gb (T:= "list") ⟨o,ho',hc⟩ ?_))
 rw [if_pos (by decide)]
 refine(A0 (zQV ho' hc c5 hd (by simp[hh]) fun g1 tk1 k1=> ?_))
 simp only[Option.isNone_none,if_true]
 refine(A0 (F3 ?_))
 have o1:g1.get? l=some o:=k1 _ _ ho'
 have od:g1.get? s.heap.objs.size=some {cls:= .type "dict",data:= .dict #[]}:=k1 _ _ (Ai _ rfl)
 have lts:s.heap.objs.size<g1.objs.size:=Ac od
 have ltl:l<s.heap.objs.size:=Ac ho
 have hl1:g1.IsList l vs.toArray:=⟨o,o1,hc,n,c5⟩
 have km: ∀b ob,s.heap.get? b=some ob->g1.get? b=some ob:=fun b ob q=>k1 b ob (A1 _ q)
 have ne1: ∀b ob,s.heap.get? b=some ob->b∉[g1.objs.size]/\b≠s.heap.objs.size:=fun b ob q=>by
  have:=Ac q
  exact⟨fun z=>by rw[Ah.mp z] at this;exact absurd (Jy this lts) (Bo _),fun z=>by rw[z] at this;exact Bo _ this⟩
 have hin: ∀{vs:List Value} {ps:List (Key×Value)},PrK prog w s.heap vs ps-> ∀a,Ax a∈vs-> ∃ob,s.heap.get? a=some ob:=by
  intro vs
  induction vs with
  | nil => intro ps _ a ha;cases ha
  |cons v vs ih=>
   intro ps hp a ha
   cases ps with
   | nil => exact hp.elim
   |cons p ps=>
    rcases A8.mp ha with e|ha
    ·obtain⟨⟨b,key,e2,⟨ob,hob,_⟩,_⟩,_⟩:=hp
     rw[e2] at e
     cases e
     exact⟨ob,hob⟩
    ·exact ih hp.2 a ha
 refine(A0 (E8 (s:={s with heap:=g1,toks:=tk1}) hl1 ?_))
 have W:=Walks.list (prog:=prog) (w:=w) (A:=A.in1.in1) (by simp[hh]) g1.objs.size l (Au (Jy ltl lts)) vs.toArray
 refine(A9 ⟨plainId_quiet zFH _,yB7 (A:=A.in1) W (fun z=> ?_) vs ps 0 0 _ [] (by simp) (by simp) ⟨⟨_,Ai _ rfl,rfl,rfl⟩,hl1.push _⟩ ?_ (by simpa using hz) (PrK.keep (C:=fun _=>True) (fun b ob _ q=>A1 _ (km b ob q)) (fun _ _=>trivial) hp) (fun a ha=> ?_) fun g tk hdd kept=>⟨rfl,h g tk hdd fun b ob q=> ?_⟩⟩)
 ·rcases A8.mp z with z|z
  ·exact absurd lts (by rw [<- z];exact Bo _)
  ·rw[<- Ah.mp z] at ltl
   exact Bo _ ltl
 ·obtain⟨o2,es,ep,ho2,r2⟩:=cp
  exact⟨o2,es,ep,A1 _ (k1 _ _ ho2),r2⟩
 ·obtain⟨ob,hob⟩:=hin hp a ha
  exact ne1 a ob hob
 ·exact kept b ob (ne1 b ob q).1 (ne1 b ob q).2 (A1 _ (km b ob q))
end
variable{X:Cx}{K:Ad}{H:Hp}{σ:St}{s:A7}{a6:List (Addr×Obj)}{ml:List Nat}{pa ta ia:Bool}{fa:VF}{a:Expr}{p' pos:Pos}
noncomputable def kprD:Dat->Option (Key×Dat)
 | .tup [k,v]=>(keyD k).map fun kk=>(kk,v)
 |_=>none
noncomputable def zHR:List Dat->Option (List (Key×Dat))
 |[]=>some []
 |d::ds=>(kprD d).bind fun p=>(zHR ds).map fun ps=>p::ps
def PrKV(K:Ad)(H:Hp):List V->List (Key×V)->Prop
 |[],[]=>True
 |v::vs,p::ps=>(∃a,v= .ref a/\SqT K H a [kV p.1,p.2])/\PrKV K H vs ps
 |_,_=>False
theorem zWL{d:Dat}{p:Key×Dat}(h:kprD d=some p): ∃k,d= .tup [k,p.2]/\keyD k=some p.1:=by
 unfold kprD at h
 split at h
 ·rename_i k v
  cases e:keyD k with
  |none=>rw[e] at h;cases h
  |some kk=>rw[e] at h;cases h;exact⟨k,rfl,e⟩
 ·cases h
theorem zND{N:Addr->Prop}: ∀{xs:List V} {ds:List Dat} {kds:List (Key×Dat)},RepA K N H xs ds->zHR ds=some kds-> ∃kvs:List (Key×V),PrKV K H xs kvs/\kvs.map Bh=kds.map Bh/\RepA K N H (kvs.map C2) (kds.map C2)
 | _,_,_,.nil,h => by cases h;exact ⟨[],trivial,rfl,.nil⟩
 | _,_,kds,@RepA.cons _ _ _ v vs d ds h t,e => by
  have e : (kprD d).bind (fun p => (zHR ds).map fun ps => p :: ps) = some kds := e
  cases h1:kprD d with
  | none => rw [h1] at e;cases e
  |some p=>
   rw[h1] at e
   have e:(zHR ds).map (fun ps=>p::ps)=some kds:=e
   cases h2:zHR ds with
   | none => rw [h2] at e;cases e
   |some qs=>
    rw[h2] at e
    cases e
    obtain⟨kvs,r1,r2,r3⟩:=zND t h2
    obtain⟨k,rfl,hk⟩:=zWL h1
    cases h with
    |tup sq r=>
     cases r with
     |cons w1 r=>
      cases r with
      |cons w2 r=>
       cases r
       have ek:=w1.key hk
       subst ek
       exact⟨(p.1,_)::kvs,⟨⟨_,rfl,sq⟩,r1⟩,by simp[r2],.cons w2 r3⟩
theorem PrKV.prK(I:Inv X a6 σ H s): ∀{xs:List V} {us:List Value} {kvs:List (Key×V)},PrKV X.K H xs kvs->Vals xs us-> ∃ps:List (Key×Value),KV kvs ps/\PrK X.prog X.w s.heap us ps
 | [],_,[],_,.nil => ⟨[],.nil,trivial⟩
 | _ :: _,_,p :: _,⟨⟨b,e,q⟩,r⟩,.cons h t => by
  subst e
  cases h
  obtain⟨ps,r1,r2⟩:=PrKV.prK I r t
  obtain⟨its,rv,ht,_⟩:=I.tuple q
  cases rv with
  |cons w1 rv=>
   cases rv with
   |cons w2 rv=>
    cases rv
    exact⟨(p.1,_)::ps,.cons ⟨rfl,w2⟩ r1,⟨b,_,rfl,ht,zLT w1⟩,r2⟩
 |[],_,_::_,h,_=>h.elim
 |_::_,_,[],h,_=>h.elim
theorem PrKV.len: ∀{xs:List V} {ps:List (Key×V)},PrKV K H xs ps->xs.length=ps.length
 |[],[],_=>rfl
 |_::_,_::_,r=>by simp[PrKV.len r.2]
 |[],_::_,r=>r.elim
 |_::_,[],r=>r.elim
def zUD(K:Ad):RC:=fun xs H Q=> ∃(p:Addr) (ys:List V) (kvs:List (Key×V)),xs=[.ref p]/\SqL K H p ys/\PrKV K H ys kvs/\(kvs.map Bh).Nodup/\ ∀l:Addr,H l=none->Q (.ref l) (upd H l (.dK kvs))
theorem yAV(h:X.K=K)(hc:X.calm=true):zBW X (.type "dict") (zUD K):=by
 subst h
 intro a6 s σ H xs us Q I r h
 obtain⟨p,ys,kvs,rfl,hq,hp,nd,q⟩:=h
 obtain⟨u,rfl,rx⟩:=zH0 r
 cases rx
 obtain⟨its,rv,pl,hz⟩:=I.list hq
 have a9:=rv.length
 have hpl:=hp.len
 obtain⟨ps,r1,r2⟩:=hp.prK I rv
 refine zOH (I.ok.hd hc) pl (by omega) r2 fun g tk hd kept=> ?_
 have hm:zER [] kvs=kvs:=zHP (acc:=[]) (by simpa using nd)
 have rel:=KV.merge r1 (kvs:=[]) (vs:=[]) .nil
 rw[hm] at rel
 exact⟨.ref s.heap.objs.size,_,I.laid (a:=s.heap.objs.size) (o:= .dK kvs) (t':=tk) kept (Ae _) (zRD (by omega) (beq_eq_false_iff_ne.mpr (C9 (Au I.big))) rel hd),rfl,q _ (I.hok.fresh (Ae _))⟩
noncomputable def zTB:Dat->Option Dat
 | .lst ds=>(zHR ds).bind fun kds=>if(kds.map Bh).Nodup then some (.dct (kds.map Bh) (kds.map C2)) else none
 |_=>none
def CalD(K:Ad)(r:RC)(o:Dat->Option Dat):Prop:= ∀(H:Hp) (N M:Addr->Prop) (x:V) (d c:Dat) (Q:VK),Rep K N H M x d->o d=some c→
 (∀p (kvs:List (Key×V)) ds,H p=none->RepA K N H (kvs.map C2) ds->c= .dct (kvs.map Bh) ds->Q (.ref p) (upd H p (.dK kvs)))->r [x] H Q
theorem zWH:CalD K (zUD K) zTB:=by
 intro H N M x d c Q hx h k
 cases d with
 |lst ds=>
  have h:((zHR ds).bind fun kds=>if(kds.map Bh).Nodup then some (Dat.dct (kds.map Bh) (kds.map C2)) else none)=some c:=h
  cases h1:zHR ds with
  | none => rw [h1] at h;cases h
  |some kds=>
   rw[h1] at h
   have h:(if(kds.map Bh).Nodup then some (Dat.dct (kds.map Bh) (kds.map C2)) else none)=some c:=h
   split at h
   ·rename_i nd
    cases h
    obtain⟨a,xs,rfl,sq,r⟩:=hx.lstE
    obtain⟨kvs,r1,r2,r3⟩:=zND r h1
    exact⟨a,xs,kvs,rfl,sq,r1,by rw[r2];exact nd,fun l hl'=>k l kvs _ hl' r3 (by rw[r2])⟩
   ·cases h
 |_=>cases h
theorem mkDK{B:Bs}{O:Nat->Option Addr}{H1:Hp}{δ':Ev}{p:Addr}{pu:Bool}{kvs:List (Key×V)}{ds:List Dat}(S:Sta K ml B O H1 σ δ')(f:Fr (OA O) H H1)(s:pu=true->Same H H1)(hp:H1 p=none)(r:RepA K (Nn B O) H1 (kvs.map C2) ds):ResN K ml B O H σ pu (upd H1 p (.dK kvs)) δ' p (.dct (kvs.map Bh) ds):=
 ⟨S.laid hp,f.trans (zA5 hp).fr,fun z=>(s z).trans (zA5 hp),.dct zAH ((r.away hp _ _ zE8).same (zA5 hp)),S.new hp,S.fresh hp⟩
theorem zOS(hK:X.K=K)(hc:X.calm=true)(hg:Gl X "dict") (hm:X.mg "dict"=none) (hv:As "dict"=some (.type "dict")) (ha:PE X a (TV K ml pa ta true fa)) (hn:("dict":Str)≠ "__name__":=by decide) (hdb:(("dict":Str)==("__debug__":Str))=false:=by decide)
  (he:A2 (a::[]) X.env=(false,eval a X.env)::A2 [] X.env:=by rfl):PE X (.Call (.Name "dict" p') [a] [] pos) (TN K ml pa (f1 zTB fa)):=
 (zDA (yAV hK hc) hg hm hv (zAO ha zBT he) hn hdb he).imp fun σ H Q h => by
  obtain⟨B,O,δ,d,δ',S,q,k⟩:=h
  obtain⟨x,h1,h2⟩:=zKV q
  refine⟨B,O,δ,x,δ',S,h1,fun v1 H1 R1=>zWH H1 _ _ v1 x d Q R1.rep h2 fun p kvs ds hp hr he=> ?_⟩
  subst he
  exact k p _ (mkDK R1.sta R1.frm R1.pur hp hr)
section
variable{X:Cx}{K:Ad}{ml:List Nat}{e a b c:Expr}{es:List Expr}{pa ta ia pb tb ib pc tc ic pu bt bi ps bs:Bool}{fa fb fc f:VF}{B B':Bs}{O:Nat->Option Addr}{H H1 H':Hp}{σ:St}{δ δ':Ev}{v:V}{d:Dat}{p:Addr}{pos:Pos}
noncomputable def lstD(i:Nat)(F:VFun):VFun:=fun ds=>(ds[i]?).bind fun x=>(seqD x).bind fun es=>(F (ds.take i++[.lst es])).map fun q=>(q.1,q.2.dropLast)
theorem zVC{mF:List Nat}{i:Nat}{F:VFun}{vs1:List V}{Q:VK}{E:XK}(hm: ∀j∈mF,j<i)(h:spV K mF (i+1) (lstD i F) (vs1++[v]) H Q E):zMW K [v] H (fun u H2=>spV K (mF++[i]) (i+1) F (vs1++[u]) H2 Q E):=by
 obtain⟨Z,ds,r,os,hl,A,hF,k⟩:=h
 obtain⟨ds1,d,rfl⟩: ∃ds1 d,ds=ds1++[d]:=⟨ds.dropLast,ds.getLast (fun z=>by rw[z] at hl;cases hl),(Fj _).symm⟩
 have hd1:ds1.length=i:=by simpa using hl
 have hv1:vs1.length=i:=by have:=A.len;simp at this;omega
 have at3:(vs1++[v])[i]? =some v:=by rw[Ar (by omega),hv1,Gd];rfl
 have dt3:(ds1++[d])[i]? =some d:=by rw[Ar (by omega),hd1,Gd];rfl
 unfold lstD at hF
 rw[dt3,Aa,List.take_left' hd1] at hF
 cases hs:seqD d with
 | none => rw [hs] at hF;cases hF
 |some es=>
 rw[hs,Aa] at hF
 cases h0:F (ds1++[.lst es]) with
 | none => rw [h0] at hF;cases hF
 |some z=>
  obtain⟨r',os0⟩:=z
  rw[h0] at hF
  cases hF
  obtain⟨u0,e0,me⟩:=A.va i d (fun z=>absurd (hm i z) (Bo _)) dt3
  rw[at3] at e0
  cases e0
  obtain⟨a0,xs,rfl,sq,rA⟩:=me.seq hs
  refine⟨a0,xs,rfl,sq,fun p hp=> ?_⟩
  have lo: ∀(j:Nat),j<i->(vs1++[.ref p])[j]? =(vs1++[V.ref a0])[j]? :=fun j hj=>by rw[A6 (by omega),A6 (by omega)]
  have at1:(vs1++[.ref p])[i]? =some (.ref p):=by rw[Ar (by omega),hv1,Gd];rfl
  have dlo: ∀(j:Nat),j<i->(ds1++[.lst es])[j]? =(ds1++[d])[j]? :=fun j hj=>by rw[A6 (by omega),A6 (by omega)]
  have dt1:(ds1++[.lst es])[i]? =some (.lst es):=by rw[Ar (by omega),hd1,Gd];rfl
  have hP: ∀a,argP (mF++[i]) (vs1++[.ref p]) a->argP mF (vs1++[.ref a0]) a∨a=p:=fun a q0=>by
   obtain⟨j,hj,e⟩:=q0
   rcases B5.mp hj with hj|hj
   ·exact .inl ⟨j,hj,by rw [<- lo j (hm j hj)];exact e⟩
   ·rw[Ah.mp hj,at1] at e
    cases e
    exact .inr rfl
  have hP': ∀a,argP mF (vs1++[.ref a0]) a->argP (mF++[i]) (vs1++[.ref p]) a:=fun a ⟨j,hj,e⟩=>⟨j,Bb _ hj,by rw[lo j (hm j hj)];exact e⟩
  have hZ: ∀a,Zp Z (mF++[i]) (vs1++[.ref p]) a->Zp Z mF (vs1++[.ref a0]) a∨a=p:=fun a h=>by
   rcases h with h|h
   ·exact .inl (.inl h)
   ·exact(hP a h).imp .inr id
  have hZ': ∀a,Zp Z mF (vs1++[.ref a0]) a->Zp Z (mF++[i]) (vs1++[.ref p]) a:=fun a h=>h.imp id (hP' a)
  have up: ∀{u:V} {x:Dat},Rep K (Zp Z mF (vs1++[.ref a0])) H (Zp Z mF (vs1++[.ref a0])) u x->Rep K (Zp Z (mF++[i]) (vs1++[.ref p])) (upd H p (.lst xs)) (Zp Z (mF++[i]) (vs1++[.ref p])) u x:=fun r=>(r.away hp _ _ hZ hZ).same (zA5 hp)
  have nop: ∀{j:Nat},j∈mF->(vs1++[V.ref a0])[j]? ≠some (.ref p):=fun{j} hj e=>by
   have hj':=A.mem j hj
   obtain⟨a,e1,w,_⟩:=A.ow j ((ds1++[d])[j]'hj') hj (by simp)
   rw[e] at e1
   cases e1
   obtain⟨o,q,_⟩:=w.soft
   rw[hp] at q
   cases q
  refine⟨Z,ds1++[.lst es],_,os0,by simp[hd1],⟨by simp;omega,fun j hj=> ?_,fun j x hj e=> ?_,fun j x hj e=> ?_,fun j1 j2 a h1 h2 e1 e2=> ?_,fun a h=>let ⟨o,q⟩:=A.zin a h;⟨o,zA5 hp _ _ q⟩⟩,h0,fun u H' f w rr=>k u H' (fun b o hb hc=>f b o (zA5 hp _ _ hb) fun z=> ?_) (fun kk j a o e1 e2 e3=> ?_) (rr.mono hZ' hZ')⟩
  ·rcases B5.mp hj with hj|hj
   ·have:=hm j hj
    simp
    omega
   ·rw[Ah.mp hj]
    simp
    omega
  ·have hjm : j ∉ mF := fun z => hj (Bb _ z)
   have hji:j≠i:=fun z=>hj (Ay _ (Ah.mpr z))
   have h1:j<i:=by
    have:=(A5.mp e).1
    simp at this
    omega
   rw[dlo j h1] at e
   obtain⟨u,e1,r1⟩:=A.va j x hjm e
   exact⟨u,by rw[lo j h1];exact e1,up r1⟩
  ·rcases B5.mp hj with hj|hj
   ·rw[dlo j (hm j hj)] at e
    obtain⟨u,e1,w1,z1⟩:=A.ow j x hj e
    exact⟨u,by rw[lo j (hm j hj)];exact e1,w1.away hp hZ,z1⟩
   ·have:=Ah.mp hj
    subst this
    rw[dt1] at e
    cases e
    exact⟨p,at1,.lst zAH ((rA.away hp _ _ hZ).same (zA5 hp)),fun z=>by
     obtain⟨o,q⟩:=A.zin p z
     rw[hp] at q
     cases q⟩
  ·rcases B5.mp h1 with h1|h1
   ·rw[lo j1 (hm j1 h1)] at e1
    rcases B5.mp h2 with h2|h2
    ·rw[lo j2 (hm j2 h2)] at e2
     exact A.inj j1 j2 a h1 h2 e1 e2
    ·rw[Ah.mp h2,at1] at e2
     cases e2
     exact absurd e1 (nop h1)
   ·rcases B5.mp h2 with h2|h2
    ·rw[lo j2 (hm j2 h2)] at e2
     rw[Ah.mp h1,at1] at e1
     cases e1
     exact absurd e2 (nop h2)
    ·rw[Ah.mp h1,Ah.mp h2]
  ·rcases hP b z with z|z
   ·exact hc z
   ·rw[z,hp] at hb
    cases hb
  ·refine(w kk j a o ?_ ?_ ?_).mono hZ'
   ·rw[A6 (A5.mp e1).1]
    exact e1
   ·rw[lo j (hm j (Cu e1))]
    exact e2
   ·rw[List.getElem?_dropLast] at e3
    split at e3
    ·exact e3
    ·cases e3
def TAGL(K:Ad)(ml:List Nat)(pu:Bool)(f:VFg):TA:=fun σ H Q=> ∃B O δ as δ',Sta K ml B O H σ δ/\f δ=some (as,δ')/\ ∀vs H',ResG K ml B O H σ pu H' δ' vs as-> ∀vs1 v,vs=vs1++[v]->zMW K [v] H' fun u H2=>Q (vs1++[u]) H2
theorem zV5{lp:Pos}{a8:Pos}(hK:X.K=K)(hg:Gl X "list") (hm:X.mg "list"=none) (hv:As "list"=some (.type "list")) (ha:PE X a (TV K ml pa true true fa)) (he:A2 (a::[]) X.env=(false,eval a X.env)::A2 [] X.env:=by rfl)
  (hs:A2 (.Call (.Name "list" lp) [a] [] a8::[]) X.env=(false,eval (.Call (.Name "list" lp) [a] [] a8) X.env)::A2 [] X.env:=by rfl):
  PA X [.Call (.Name "list" lp) [a] [] a8] (TAGL K ml pa (aE fa aNil)):=(zAO (zDA (zIO hK) hg hm hv (zAO ha zBT he) (by decide) (by decide) he) zBT hs).imp fun σ H Q ⟨B,O,δ,as,δ2,S,q,k⟩=>by
 unfold aE at q
 cases h1:fa δ with
 |none=>rw[h1] at q;cases q
 |some z=>
  obtain⟨x,δ1⟩:=z
  rw[h1] at q
  cases q
  exact⟨B,O,δ,x,δ1,S,h1,fun v1 H1 R1=>k [v1] H1 ⟨R1.sta,R1.frm,R1.pur,.d R1.rep .nil⟩ [] v1 rfl⟩
theorem yC1{fs:VFg}(ha:PE X a (TV K ml pa true true fa))(hr:PA X es (TAGL K ml ps fs))(hs:A2 (a::es) X.env=(false,eval a X.env)::A2 es X.env:=by rfl):PA X (a::es) (TAGL K ml (pa && ps) (aE fa fs)):=(zAO ha hr hs).imp fun σ H Q q0=>by
 obtain⟨B,O,δ,as,δ2,S,q,k⟩:=q0
 unfold aE at q
 cases h1:fa δ with
 | none => rw [h1] at q;cases q
 |some p=>
  obtain⟨x,δ1⟩:=p
  rw[h1] at q
  have q:((fs δ1).map fun q=>(AV.d x::q.1,q.2))=some (as,δ2):=q
  cases h2:fs δ1 with
  |none=>rw[h2] at q;cases q
  |some p2=>
   rw[h2] at q
   cases q
   refine⟨B,O,δ,x,δ1,S,h1,fun v1 H1 R1=>⟨B,O,δ1,_,_,R1.sta,h2,fun vs H2 R2 vs1 v hv=>k (v1::vs) H2 ⟨R2.sta,R1.frm.trans R2.frm,fun z=> ?_,.d (R1.rep.fr R2.frm (fun a z=> .inr z) fun a z=> .inr z) R2.rep⟩ (v1::vs1) v (by rw[hv];rfl)⟩⟩
   obtain⟨z1,z2⟩:=(A3 _ _).mp z
   exact(R1.pur z1).trans (R2.pur z2)
theorem zS9{x:Str}{kk j i:Nat}{qs:List Str}{mF:List Nat}{F:VFun}{ff:Addr}{p':Pos}{fs:VFg}(hK:X.K=K)(D:Def X.prog X.w K X.mg X.base x kk qs (spV K (mF++[i]) (i+1) F) ff)(hm: ∀j∈mF,j<i)(hr:Room j X.A)(hk:kk<=j)(hg:Gl X x)(ha:PA X (e::es) (TAGL K ml ps fs))(hdb:(x==("__debug__":Str))=false:=by decide)
  (he:A2 (e::es) X.env=(false,eval e X.env)::A2 es X.env:=by rfl) (hpl:(Dc pos (A2 es X.env)).any (·.1)=false:=by rfl):
  PE X (.Call (.Name x p') (e::es) [] pos) (TV K ml (ps && mF.isEmpty) true true (zAI (i+1) mF (lstD i F) fs)):=by
 subst hK
 refine(zN1 D hr hk hg ha hdb he hpl).imp fun σ H Q h=> ?_
 obtain⟨B,O,δ,as,δ',S,q,k⟩:=zJ5 h
 refine⟨B,O,δ,as,δ',S,q,fun vs H' R vs1 v hv=> ?_⟩
 subst hv
 have z:spV X.K mF (i+1) (lstD i F) ((vs1++[v])++[]) H' Q E0:=k _ H' R
 rw[Cq] at z
 have y:=zVC hm z
 simpa only[Cq] using y
end
end L2
namespace L2
open PySem
section
variable{α β:Type}{d x y z c:Dat}{δ δ1 δ':Ev}{fa fb fc:VF}{o o':Dat->Dat->Option Dat}{i j k n:Nat}{s:Sl}{b:Bool}{ds:List Dat}
noncomputable def q0(r:Option α)(δ:Ev):Option (α×Ev):=r.map fun c=>(c,δ)
@[simp] theorem q0_s{a:α}:q0 (some a) δ=some (a,δ):=rfl
@[simp] theorem fC_e:fC d δ=some (d,δ):=rfl
noncomputable def qV:Option Sl->Ev->Option (Dat×Ev)
 |some (.va d),δ=>some (d,δ)
 |_,_=>none
noncomputable def qO:Option Sl->Ev->Option (Dat×Ev)
 |some (.va d),δ=>some (d,δ)
 |some (.ow d),δ=>some (d,δ)
 |_,_=>none
@[simp] theorem fV_e:fV i δ=qV δ[i]? δ:=by unfold fV qV;split<;>simp_all
@[simp] theorem fO_e:fO i δ=qO δ[i]? δ:=by unfold fO qO;split<;>simp_all
@[simp] theorem qV_s:qV (some (.va d)) δ=some (d,δ):=rfl
@[simp] theorem qO_v:qO (some (.va d)) δ=some (d,δ):=rfl
@[simp] theorem qO_o:qO (some (.ow d)) δ=some (d,δ):=rfl
noncomputable def q1(o:Dat->Option Dat)(r:Option (Dat×Ev)):Option (Dat×Ev):=r.bind fun p=>q0 (o p.1) p.2
@[simp] theorem f1_e{o:Dat->Option Dat}:f1 o fa δ=q1 o (fa δ):=rfl
@[simp] theorem q1_s{o:Dat->Option Dat}:q1 o (some (x,δ))=q0 (o x) δ:=rfl
noncomputable def q2(o:Dat->Dat->Option Dat)(r:Option (Dat×Ev))(fb:VF):Option (Dat×Ev):=r.bind fun p=>(fb p.2).bind fun q=>q0 (o p.1 q.1) q.2
noncomputable def q2b(o:Dat->Dat->Option Dat)(x:Dat)(r:Option (Dat×Ev)):Option (Dat×Ev):=r.bind fun q=>q0 (o x q.1) q.2
@[simp] theorem f2_e:f2 o fa fb δ=q2 o (fa δ) fb:=rfl
@[simp] theorem q2_s:q2 o (some (x,δ)) fb=q2b o x (fb δ):=rfl
@[simp] theorem yJ1:q2b o x (some (y,δ))=q0 (o x y) δ:=rfl
noncomputable def q3(o o':Dat->Dat->Option Dat)(r:Option (Dat×Ev))(fb fc:VF):Option (Dat×Ev):=r.bind fun p=>(fb p.2).bind fun q=>(o p.1 q.1).bind fun z=>match z with
 | .bl true=>(fc q.2).bind fun s=>(o' q.1 s.1).map fun u=>(u,s.2)
 | .bl false=>some (.bl false,q.2)
 |_=>none
noncomputable def q3b(o o':Dat->Dat->Option Dat)(x:Dat)(r:Option (Dat×Ev))(fc:VF):Option (Dat×Ev):=q3 o o' (some (x,[])) (fun _=>r) fc
noncomputable def q3c(o':Dat->Dat->Option Dat)(y:Dat)(δ:Ev)(fc:VF):Option Dat->Option (Dat×Ev)
 |some (.bl true)=>q2b o' y (fc δ)
 |some (.bl false)=>some (.bl false,δ)
 |_=>none
@[simp] theorem f3_e:f3 o o' fa fb fc δ=q3 o o' (fa δ) fb fc:=rfl
@[simp] theorem q3_s:q3 o o' (some (x,δ)) fb fc=q3b o o' x (fb δ) fc:=rfl
@[simp] theorem yJ0:q3b o o' x (some (y,δ)) fc=q3c o' y δ fc (o x y):=by
 simp only[q3b,q3,Aa]
 cases o x y with
 |none=>rfl
 |some z=>cases z with
  |bl b=>cases b<;>rfl
  |_=>rfl
@[simp] theorem yIY:q3c o' y δ fc (some (.bl true))=q2b o' y (fc δ):=rfl
@[simp] theorem yIZ:q3c o' y δ fc (some (.bl false))=some (.bl false,δ):=rfl
noncomputable def qc(r:Option (Dat×Ev))(fs:VFs):Option (List Dat×Ev):=r.bind fun p=>(fs p.2).map fun q=>(p.1::q.1,q.2)
noncomputable def qcb(x:Dat)(r:Option (List Dat×Ev)):Option (List Dat×Ev):=r.map fun q=>(x::q.1,q.2)
@[simp] theorem yHM:fNil δ=some ([],δ):=rfl
@[simp] theorem yEW{fs:VFs}:zA4 fa fs δ=qc (fa δ) fs:=rfl
@[simp] theorem qc_s{fs:VFs}:qc (some (x,δ)) fs=qcb x (fs δ):=rfl
@[simp] theorem yIE:qcb x (some (ds,δ))=some (x::ds,δ):=rfl
noncomputable def qT(g:List Dat->Dat)(r:Option (List Dat×Ev)):Option (Dat×Ev):=r.bind fun p=>if p.1.length<=16777216 then some (g p.1,p.2) else none
@[simp] theorem yHL{fs:VFs}:fTup fs δ=qT .tup (fs δ):=rfl
@[simp] theorem yHN{fs:VFs}:fLst fs δ=qT .lst (fs δ):=rfl
@[simp] theorem qT_s{g:List Dat->Dat}:qT g (some (ds,δ))=if ds.length<=16777216 then some (g ds,δ) else none:=rfl
noncomputable def qB:Option (Dat×Ev)->Option (Bool×Ev)
 |some (.bl k,δ)=>some (k,δ)
 |_=>none
@[simp] theorem fB_e:fB fa δ=qB (fa δ):=by
 unfold fB qB
 cases fa δ with
 |none=>rfl
 |some p=>
  obtain⟨d,e⟩:=p
  cases d<;>rfl
@[simp] theorem qB_s:qB (some (.bl b,δ))=some (b,δ):=rfl
variable{tb tb':VB}{g g':VS}
noncomputable def qAnd(r:Option (Bool×Ev))(y:VB):Option (Bool×Ev):=r.bind fun p=>if p.1=true then y p.2 else some (false,p.2)
noncomputable def qOr(r:Option (Bool×Ev))(y:VB):Option (Bool×Ev):=r.bind fun p=>if p.1=true then some (true,p.2) else y p.2
noncomputable def qNot(r:Option (Bool×Ev)):Option (Bool×Ev):=r.map fun p=>(!p.1,p.2)
@[simp] theorem yHW:bAnd tb tb' δ=qAnd (tb δ) tb':=rfl
@[simp] theorem yJI:bOr tb tb' δ=qOr (tb δ) tb':=rfl
@[simp] theorem yHV:bNot tb δ=qNot (tb δ):=rfl
@[simp] theorem zUV:bYes δ=some (true,δ):=rfl
@[simp] theorem yGI:qAnd (some (true,δ)) tb=tb δ:=rfl
@[simp] theorem yGJ:qAnd (some (false,δ)) tb=some (false,δ):=rfl
@[simp] theorem yIK:qOr (some (true,δ)) tb=some (true,δ):=rfl
@[simp] theorem yIL:qOr (some (false,δ)) tb=tb δ:=rfl
@[simp] theorem yGA:qNot (some (b,δ))=some (!b,δ):=rfl
noncomputable def qA(r:Option (Dat×Ev))(y:VF):Option (Dat×Ev):=r.bind fun p=>match p.1 with
 | .bl true=>y p.2
 | .bl false=>some (.bl false,p.2)
 |_=>none
@[simp] theorem yHO:fAnd fa fb δ=qA (fa δ) fb:=rfl
@[simp] theorem qA_t:qA (some (.bl true,δ)) fb=fb δ:=rfl
@[simp] theorem qA_f:qA (some (.bl false,δ)) fb=some (.bl false,δ):=rfl
noncomputable def qI(r:Option (Bool×Ev))(x y:VF):Option (Dat×Ev):=r.bind fun p=>if p.1=true then x p.2 else y p.2
@[simp] theorem yJH:fIf tb fa fb δ=qI (tb δ) fa fb:=rfl
@[simp] theorem qI_t:qI (some (true,δ)) fa fb=fa δ:=rfl
@[simp] theorem qI_f:qI (some (false,δ)) fa fb=fb δ:=rfl
noncomputable def qS(r:Option Ou)(g:VS):Option Ou:=r.bind fun o=>match o with
 | .nx δ'=>g δ'
 |o=>some o
@[simp] theorem yFO:sNil δ=some (.nx δ):=rfl
@[simp] theorem zU3:sSeq g g' δ=qS (g δ) g':=rfl
@[simp] theorem qS_n:qS (some (.nx δ)) g=g δ:=rfl
@[simp] theorem qS_r:qS (some (.rt d δ)) g=some (.rt d δ):=rfl
@[simp] theorem qS_b:qS (some (.bk δ)) g=some (.bk δ):=rfl
@[simp] theorem qS_c:qS (some (.ct δ)) g=some (.ct δ):=rfl
noncomputable def qJ(r:Option (Bool×Ev))(x y:VS):Option Ou:=r.bind fun p=>if p.1=true then x p.2 else y p.2
@[simp] theorem yI1:sIf tb g g' δ=qJ (tb δ) g g':=rfl
@[simp] theorem qJ_t:qJ (some (true,δ)) g g'=g δ:=rfl
@[simp] theorem qJ_f:qJ (some (false,δ)) g g'=g' δ:=rfl
noncomputable def qRet(r:Option (Dat×Ev)):Option Ou:=r.map fun p=> .rt p.1 p.2
noncomputable def zYI(r:Option (Dat×Ev)):Option Ou:=r.map fun p=> .nx p.2
@[simp] theorem yFN:sRet fa δ=qRet (fa δ):=rfl
@[simp] theorem yG3:qRet (some (d,δ))=some (.rt d δ):=rfl
@[simp] theorem yCT:zPL fa δ=zYI (fa δ):=rfl
@[simp] theorem yD2:zYI (some (d,δ))=some (.nx δ):=rfl
noncomputable def qx(f:Dat->Sl)(r:Option (Dat×Ev)):Option (Sl×Ev):=r.map fun p=>(f p.1,p.2)
@[simp] theorem xV_e:xV fa δ=qx .va (fa δ):=rfl
@[simp] theorem xO_e:xO fa δ=qx .ow (fa δ):=rfl
@[simp] theorem qx_s{f:Dat->Sl}:qx f (some (d,δ))=some (f d,δ):=rfl
noncomputable def qSet(i:Nat)(r:Option (Sl×Ev)):Option Ou:=r.bind fun p=>if i<p.2.length then some (.nx (p.2.set i p.1)) else none
@[simp] theorem yFM{x:VX}:sSet i x δ=qSet i (x δ):=rfl
@[simp] theorem yG0:qSet i (some (s,δ))=if i<δ.length then some (.nx (δ.set i s)) else none:=rfl
noncomputable def qP2(i j:Nat)(r:Option (Sl×Ev))(y:VX):Option Ou:=r.bind fun p=>(y p.2).bind fun q=>if i<q.2.length/\j<q.2.length then some (.nx ((q.2.set j q.1).set i p.1)) else none
noncomputable def qP2b(i j:Nat)(s:Sl)(r:Option (Sl×Ev)):Option Ou:=r.bind fun q=>if i<q.2.length/\j<q.2.length then some (.nx ((q.2.set j q.1).set i s)) else none
@[simp] theorem yCS{x y:VX}:zLJ i j x y δ=qP2 i j (x δ) y:=rfl
@[simp] theorem yIJ{y:VX}:qP2 i j (some (s,δ)) y=qP2b i j s (y δ):=rfl
@[simp] theorem yG9{s':Sl}:qP2b i j s (some (s',δ))=if i<δ.length/\j<δ.length then some (.nx ((δ.set j s').set i s)) else none:=rfl
noncomputable def qP3(i j k:Nat)(r:Option (Sl×Ev))(y z:VX):Option Ou:=r.bind fun p=>(y p.2).bind fun q=>(z q.2).bind fun r=>if i<r.2.length/\j<r.2.length/\k<r.2.length then some (.nx (((r.2.set k r.1).set j q.1).set i p.1)) else none
noncomputable def qP3b(i j k:Nat)(s:Sl)(r:Option (Sl×Ev))(z:VX):Option Ou:=r.bind fun q=>(z q.2).bind fun r=>if i<r.2.length/\j<r.2.length/\k<r.2.length then some (.nx (((r.2.set k r.1).set j q.1).set i s)) else none
noncomputable def qP3c(i j k:Nat)(s s':Sl)(r:Option (Sl×Ev)):Option Ou:=r.bind fun r=>if i<r.2.length/\j<r.2.length/\k<r.2.length then some (.nx (((r.2.set k r.1).set j s').set i s)) else none
@[simp] theorem yCR{x y z:VX}:zLI i j k x y z δ=qP3 i j k (x δ) y z:=rfl
@[simp] theorem yII{y z:VX}:qP3 i j k (some (s,δ)) y z=qP3b i j k s (y δ) z:=rfl
@[simp] theorem yG8{s':Sl}{z:VX}:qP3b i j k s (some (s',δ)) z=qP3c i j k s s' (z δ):=rfl
@[simp] theorem yG7{s' s'':Sl}:qP3c i j k s s' (some (s'',δ))=if i<δ.length/\j<δ.length/\k<δ.length then some (.nx (((δ.set k s'').set j s').set i s)) else none:=rfl
@[simp] theorem gN_e:gN i d δ=some (δ.set i (.va d)):=rfl
noncomputable def qg(r:Option Ev)(gs:VGs)(ds:List Dat):Option Ev:=r.bind fun δ1=>gs ds δ1
@[simp] theorem yES:zDO [] δ=some δ:=rfl
@[simp] theorem yBU{gg:VG}{gs:VGs}:zAT gg gs (d::ds) δ=qg (gg d δ) gs ds:=rfl
@[simp] theorem qg_s{gs:VGs}:qg (some δ) gs ds=gs ds δ:=rfl
@[simp] theorem yJE{gs:VGs}:gTp n gs (.tup ds) δ=if ds.length=n then gs ds δ else none:=rfl
@[simp] theorem yJF{gs:VGs}:gTp n gs (.lst ds) δ=if ds.length=n then gs ds δ else none:=rfl
noncomputable def qAsg(r:Option (Dat×Ev))(gg:VG):Option Ou:=r.bind fun p=>(gg p.1 p.2).map Ou.nx
@[simp] theorem yFQ{gg:VG}:sAsg fa gg δ=qAsg (fa δ) gg:=rfl
@[simp] theorem yGH{gg:VG}:qAsg (some (d,δ)) gg=(gg d δ).map Ou.nx:=rfl
noncomputable def qM(i:Nat)(m:List Dat->List Dat->Option (List Dat))(r:Option (List Dat))(δ:Ev)(fs:VFs):Option Ou:=r.bind fun _=>(fs δ).bind fun p=>(ownL p.2 i).bind fun ds=>(m ds p.1).map fun ds'=> .nx (p.2.set i (.ow (.lst ds')))
noncomputable def qMb(i:Nat)(m:List Dat->List Dat->Option (List Dat))(r:Option (List Dat×Ev)):Option Ou:=r.bind fun p=>(ownL p.2 i).bind fun ds=>(m ds p.1).map fun ds'=> .nx (p.2.set i (.ow (.lst ds')))
noncomputable def qMc(i:Nat)(m:List Dat->List Dat->Option (List Dat))(es:List Dat)(δ:Ev)(r:Option (List Dat)):Option Ou:=r.bind fun ds=>(m ds es).map fun ds'=> .nx (δ.set i (.ow (.lst ds')))
noncomputable def qMd(i:Nat)(δ:Ev)(r:Option (List Dat)):Option Ou:=r.map fun ds'=> .nx (δ.set i (.ow (.lst ds')))
@[simp] theorem yFP{m:List Dat->List Dat->Option (List Dat)}{fs:VFs}:sMut i m fs δ=qM i m (ownL δ i) δ fs:=rfl
@[simp] theorem qM_s{m:List Dat->List Dat->Option (List Dat)}{fs:VFs}:qM i m (some ds) δ fs=qMb i m (fs δ):=rfl
@[simp] theorem yIQ{m:List Dat->List Dat->Option (List Dat)}{es:List Dat}:qMb i m (some (es,δ))=qMc i m es δ (ownL δ i):=rfl
@[simp] theorem yIP{m:List Dat->List Dat->Option (List Dat)}{es:List Dat}:qMc i m es δ (some ds)=qMd i δ (m ds es):=rfl
@[simp] theorem yIO:qMd i δ (some ds)=some (.nx (δ.set i (.ow (.lst ds)))):=rfl
noncomputable def qOl:Option Sl->Option (List Dat)
 |some (.ow (.lst ds))=>some ds
 |_=>none
@[simp] theorem yGM:ownL δ i=qOl δ[i]? :=by unfold ownL qOl;split<;>simp_all
@[simp] theorem yIM:qOl (some (.ow (.lst ds)))=some ds:=rfl
@[simp] theorem yH6:mApp ds [d]=if ds.length<16777216 then some (ds++[d]) else none:=rfl
noncomputable def qOd:Option Sl->Option (List Key×List Dat)
 |some (.ow (.dct ks ds))=>some (ks,ds)
 |_=>none
@[simp] theorem yGN:ownD δ i=qOd δ[i]? :=by unfold ownD qOd;split<;>simp_all
@[simp] theorem yIN{ks:List Key}:qOd (some (.ow (.dct ks ds)))=some (ks,ds):=rfl
noncomputable def qL(i:Nat)(r:Option (Dat×Ev))(fi:VF):Option Ou:=r.bind fun p=>(ownL p.2 i).bind fun _=>(fi p.2).bind fun q=>(ownL q.2 i).bind fun ds=>match q.1 with
 | .int k=>(ixN ds.length k).map fun j=> .nx (q.2.set i (.ow (.lst (ds.set j p.1))))
 |_=>none
noncomputable def qLb(i:Nat)(x:Dat)(r:Option (List Dat))(δ:Ev)(fi:VF):Option Ou:=r.bind fun _=>(fi δ).bind fun q=>(ownL q.2 i).bind fun ds=>match q.1 with
 | .int k=>(ixN ds.length k).map fun j=> .nx (q.2.set i (.ow (.lst (ds.set j x))))
 |_=>none
noncomputable def qLc(i:Nat)(x:Dat)(r:Option (Dat×Ev)):Option Ou:=r.bind fun q=>(ownL q.2 i).bind fun ds=>match q.1 with
 | .int k=>(ixN ds.length k).map fun j=> .nx (q.2.set i (.ow (.lst (ds.set j x))))
 |_=>none
noncomputable def qLd(i:Nat)(x:Dat)(k:Int)(δ:Ev)(r:Option (List Dat)):Option Ou:=r.bind fun ds=>(ixN ds.length k).map fun j=> .nx (δ.set i (.ow (.lst (ds.set j x))))
@[simp] theorem yCQ{fi fv:VF}:zPJ i fi fv δ=qL i (fv δ) fi:=rfl
@[simp] theorem qL_s{fi:VF}:qL i (some (x,δ)) fi=qLb i x (ownL δ i) δ fi:=rfl
@[simp] theorem yIU{fi:VF}:qLb i x (some ds) δ fi=qLc i x (fi δ):=rfl
@[simp] theorem yIT{k:Int}:qLc i x (some (.int k,δ))=qLd i x k δ (ownL δ i):=rfl
@[simp] theorem yIS{k:Int}:qLd i x k δ (some ds)=(ixN ds.length k).map fun j=> .nx (δ.set i (.ow (.lst (ds.set j x)))):=rfl
noncomputable def qi(r:Option (Dat×Ev)):Option (List Dat×Ev):=r.bind fun p=>(seqD p.1).map fun ds=>(ds,p.2)
@[simp] theorem yHJ:iSeq fa δ=qi (fa δ):=rfl
@[simp] theorem qi_t:qi (some (.tup ds,δ))=some (ds,δ):=rfl
@[simp] theorem qi_l:qi (some (.lst ds,δ))=some (ds,δ):=rfl
noncomputable def qr1:Option (Dat×Ev)->Option (List Dat×Ev)
 |some (.int j,δ)=>if -4611686018427387904<=j/\j<4611686018427387904 then some (rngD 0 j.toNat,δ) else none
 |_=>none
@[simp] theorem yJD:iR1 fa δ=qr1 (fa δ):=by
 unfold iR1 qr1
 cases fa δ with
 |none=>rfl
 |some p=>
  obtain⟨d,e⟩:=p
  cases d<;>rfl
@[simp] theorem yI8{j:Int}:qr1 (some (.int j,δ))=if -4611686018427387904<=j/\j<4611686018427387904 then some (rngD 0 j.toNat,δ) else none:=rfl
noncomputable def qe(r:Option (Dat×Ev)):Option (List Dat×Ev):=r.bind fun p=>(seqD p.1).map fun ds=>(enuD 0 ds,p.2)
@[simp] theorem yER:zJH fa δ=qe (fa δ):=rfl
@[simp] theorem qe_t:qe (some (.tup ds,δ))=some (enuD 0 ds,δ):=rfl
@[simp] theorem qe_l:qe (some (.lst ds,δ))=some (enuD 0 ds,δ):=rfl
noncomputable def qz(r:Option (Dat×Ev))(g:VF):Option (List Dat×Ev):=r.bind fun p=>(g p.2).bind fun q=>(seqD p.1).bind fun ds=>(seqD q.1).map fun es=>(zipD ds es,q.2)
noncomputable def qzb(x:Dat)(r:Option (Dat×Ev)):Option (List Dat×Ev):=r.bind fun q=>(seqD x).bind fun ds=>(seqD q.1).map fun es=>(zipD ds es,q.2)
@[simp] theorem yHI:iZip fa fb δ=qz (fa δ) fb:=rfl
@[simp] theorem qz_s:qz (some (x,δ)) fb=qzb x (fb δ):=rfl
@[simp] theorem yI2:qzb x (some (y,δ))=(seqD x).bind fun ds=>(seqD y).map fun es=>(zipD ds es,δ):=rfl
@[simp] theorem yFK:seqD (.tup ds)=some ds:=rfl
@[simp] theorem yFL:seqD (.lst ds)=some ds:=rfl
noncomputable def qF(r:Option (List Dat×Ev))(gg:VG)(g:VS):Option Ou:=r.bind fun p=>forV gg g p.1 p.2
@[simp] theorem zY6{fi:VI}{gg:VG}:sFor fi gg g δ=qF (fi δ) gg g:=rfl
@[simp] theorem qF_s{gg:VG}:qF (some (ds,δ)) gg g=forV gg g ds δ:=rfl
noncomputable def qK(ix:List Nat)(nl:Nat)(r:Option (List Dat×Ev))(gg:VG)(tb:VB)(fe:VF):Option (Dat×Ev):=r.bind fun p=>(zC2 ix.length nl gg tb fe p.1 [] (zBG ix p.2)).map fun q=>(.lst q.1,zDE ix q.2 p.2)
noncomputable def qKb(ix:List Nat)(δ:Ev)(r:Option (List Dat×Ev)):Option (Dat×Ev):=r.map fun q=>(.lst q.1,zDE ix q.2 δ)
@[simp] theorem yEX{ix:List Nat}{nl:Nat}{fi:VI}{gg:VG}:zCV ix nl fi gg tb fa δ=qK ix nl (fi δ) gg tb fa:=rfl
@[simp] theorem qK_s{ix:List Nat}{nl:Nat}{gg:VG}:qK ix nl (some (ds,δ)) gg tb fa=qKb ix δ (zC2 ix.length nl gg tb fa ds [] (zBG ix δ)):=rfl
@[simp] theorem yIV{ix:List Nat}:qKb ix δ (some (ds,δ1))=some (.lst ds,zDE ix δ1 δ):=rfl
variable{as:List AV}{fs:VFg}{mF:List Nat}{F:VFun}
noncomputable def qa(r:Option (Dat×Ev))(fs:VFg):Option (List AV×Ev):=r.bind fun p=>(fs p.2).map fun q=>(.d p.1::q.1,q.2)
noncomputable def qab(x:AV)(r:Option (List AV×Ev)):Option (List AV×Ev):=r.map fun q=>(x::q.1,q.2)
@[simp] theorem yBL:aNil δ=some ([],δ):=rfl
@[simp] theorem aE_e:aE fa fs δ=qa (fa δ) fs:=rfl
@[simp] theorem qa_s:qa (some (x,δ)) fs=qab (.d x) (fs δ):=rfl
@[simp] theorem zVK{a:AV}:qab a (some (as,δ))=some (a::as,δ):=rfl
noncomputable def qao(j:Nat)(r:Option Dat)(δ:Ev)(fs:VFg):Option (List AV×Ev):=r.bind fun _=>qab (.o j) (fs δ)
@[simp] theorem aO_e:aO j fs δ=qao j (slot δ j) δ fs:=rfl
@[simp] theorem yD1:qao j (some d) δ fs=qab (.o j) (fs δ):=rfl
noncomputable def qsl:Option Sl->Option Dat
 |some (.va d)=>some d
 |some (.ow d)=>some d
 |_=>none
@[simp] theorem yFJ:slot δ j=qsl δ[j]? :=by unfold slot qsl;split<;>simp_all
@[simp] theorem yI6:qsl (some (.va d))=some d:=rfl
@[simp] theorem yI7:qsl (some (.ow d))=some d:=rfl
@[simp] theorem yFA:zF7 δ []=some []:=rfl
@[simp] theorem yFB:zF7 δ (.d d::as)=(zF7 δ as).map fun ds=>d::ds:=rfl
@[simp] theorem yF9:zF7 δ (.o j::as)=(slot δ j).bind fun d=>(zF7 δ as).map fun ds=>d::ds:=rfl
noncomputable def zYJ(n:Nat)(mF:List Nat)(F:VFun)(r:Option (List AV×Ev)):Option (Dat×Ev):=r.bind fun p=>(zF7 p.2 p.1).bind fun ds=>if ds.length=n/\zFU mF p.1 p.2=true then(F ds).bind fun q=>if zET mF p.1 q.1 q.2=true then some (q.1,putO p.1 mF q.2 p.2) else none else none
noncomputable def qCb(n:Nat)(mF:List Nat)(F:VFun)(as:List AV)(δ:Ev)(r:Option (List Dat)):Option (Dat×Ev):=r.bind fun ds=>if ds.length=n/\zFU mF as δ=true then(F ds).bind fun q=>if zET mF as q.1 q.2=true then some (q.1,putO as mF q.2 δ) else none else none
noncomputable def qCc(mF:List Nat)(as:List AV)(δ:Ev)(r:Option (Dat×List Dat)):Option (Dat×Ev):=r.bind fun q=>if zET mF as q.1 q.2=true then some (q.1,putO as mF q.2 δ) else none
@[simp] theorem zJJ:zAI n mF F fs δ=zYJ n mF F (fs δ):=rfl
@[simp] theorem zVL:zYJ n mF F (some (as,δ))=qCb n mF F as δ (zF7 δ as):=rfl
@[simp] theorem yD4:qCb n mF F as δ (some ds)=if ds.length=n/\zFU mF as δ=true then qCc mF as δ (F ds) else none:=rfl
@[simp] theorem yD3{os:List Dat}:qCc mF as δ (some (d,os))=if zET mF as d os=true then some (d,putO as mF os δ) else none:=rfl
@[simp] theorem yEB:zTD δ as i=(match as[i]? with
 |some (.o j)=>match δ[j]? with
  |some (.ow _)=>true
  |_=>false
 |_=>false):=rfl
@[simp] theorem yHB:jsOf []=[]:=rfl
@[simp] theorem yHC:jsOf (.d d::as)=jsOf as:=rfl
@[simp] theorem yHA:jsOf (.o j::as)=j::jsOf as:=rfl
@[simp] theorem yBY:zFU mF as δ=(mF.all (zTD δ as) && decide (jsOf as).Nodup):=rfl
@[simp] theorem yFD:zF8 mF [] i=true:=rfl
@[simp] theorem yFE:zF8 mF (.d d::as) i=zF8 mF as (i+1):=rfl
@[simp] theorem yFC:zF8 mF (.o j::as) i=(decide (i∈mF) && zF8 mF as (i+1)):=rfl
@[simp] theorem yBZ{os:List Dat}:zET mF as d os=((zF8 mF as 0 || d.hard) && (zF8 mF as 0 || os.all zFN) && decide (mF.length=os.length)):=rfl
@[simp] theorem yGK{os:List Dat}:putO as [] os δ=δ:=by cases os<;>rfl
@[simp] theorem yGL{os:List Dat}{is:List Nat}:putO as (i::is) (d::os) δ=(match as[i]? with
  |some (.o j)=>putO as is os (δ.set j (.ow d))
  |_=>putO as is os δ):=rfl
@[simp] theorem yHQ:dflt F d ds=F (ds++[d]):=rfl
noncomputable def qH(n:Nat)(mF:List Nat)(tb:List (Str×VFun))(fs:VFg)(δ:Ev):Option Sl->Option (Dat×Ev)
 |some (.va (.fn x))=>(zEX tb x).bind fun F=>zAI n mF F fs δ
 |_=>none
@[simp] theorem yBX{tb:List (Str×VFun)}:zKU n mF tb i fs δ=qH n mF tb fs δ δ[i]? :=by unfold zKU qH;split<;>simp_all
@[simp] theorem qH_s{tb:List (Str×VFun)}{x:Str}:qH n mF tb fs δ (some (.va (.fn x)))=(zEX tb x).bind fun F=>zAI n mF F fs δ:=rfl
@[simp] theorem yJ3:pNo δ=some (none,δ):=rfl
noncomputable def qpS:Option (Dat×Ev)->Option (Option Int×Ev)
 |some (.int i,δ)=>some (some i,δ)
 |_=>none
@[simp] theorem yJ2:pSo fa δ=qpS (fa δ):=by
 unfold pSo qpS
 cases fa δ with
 |none=>rfl
 |some p=>
  obtain⟨d,e⟩:=p
  cases d<;>rfl
@[simp] theorem yI9{i:Int}:qpS (some (.int i,δ))=some (some i,δ):=rfl
noncomputable def qSl(r:Option (Dat×Ev))(fl fh:VP):Option (Dat×Ev):=r.bind fun p=>(fl p.2).bind fun l=>(fh l.2).bind fun u=>(oSl p.1 l.1 u.1).map fun c=>(c,u.2)
noncomputable def qSlb(x:Dat)(r:Option (Option Int×Ev))(fh:VP):Option (Dat×Ev):=r.bind fun l=>(fh l.2).bind fun u=>(oSl x l.1 u.1).map fun c=>(c,u.2)
noncomputable def qSlc(x:Dat)(l:Option Int)(r:Option (Option Int×Ev)):Option (Dat×Ev):=r.bind fun u=>q0 (oSl x l u.1) u.2
@[simp] theorem yJG{fl fh:VP}:fSl fa fl fh δ=qSl (fa δ) fl fh:=rfl
@[simp] theorem yIG{fl fh:VP}:qSl (some (x,δ)) fl fh=qSlb x (fl δ) fh:=rfl
@[simp] theorem yFZ{l:Option Int}{fh:VP}:qSlb x (some (l,δ)) fh=qSlc x l (fh δ):=rfl
@[simp] theorem yFY{l u:Option Int}:qSlc x l (some (u,δ))=q0 (oSl x l u) δ:=rfl
@[simp] theorem yJ7{l u:Option Int}:oSl (.tup ds) l u=some (.tup (cutD ds l u)):=rfl
@[simp] theorem yJ8{l u:Option Int}:oSl (.lst ds) l u=some (.lst (cutD ds l u)):=rfl
noncomputable def qSt(i j:Nat):Option (Dat×Ev)->Option Ou
 |some (.tup (d::ds),δ)=>some (.nx ((δ.set i (.va d)).set j (.va (.lst ds))))
 |_=>none
@[simp] theorem yCP:zO3 i j fa δ=qSt i j (fa δ):=by
 unfold zO3 qSt
 cases fa δ with
 |none=>rfl
 |some p=>
  obtain⟨d,e⟩:=p
  cases d with
  |tup ds=>cases ds<;>rfl
  |_=>rfl
@[simp] theorem yIF:qSt i j (some (.tup (d::ds),δ))=some (.nx ((δ.set i (.va d)).set j (.va (.lst ds)))):=rfl
noncomputable def qDg(i:Nat)(r:Option (List Key×List Dat))(δ:Ev)(fk fx:VF):Option (Dat×Ev):=r.bind fun _=>(fk δ).bind fun p=>(fx p.2).bind fun q=>(keyD p.1).bind fun k=>(ownD q.2 i).map fun z=>((zB4 z.1 z.2 k).getD q.1,q.2)
noncomputable def qDgb(i:Nat)(r:Option (Dat×Ev))(fx:VF):Option (Dat×Ev):=r.bind fun p=>(fx p.2).bind fun q=>(keyD p.1).bind fun k=>(ownD q.2 i).map fun z=>((zB4 z.1 z.2 k).getD q.1,q.2)
noncomputable def qDgc(i:Nat)(x:Dat)(r:Option (Dat×Ev)):Option (Dat×Ev):=r.bind fun q=>(keyD x).bind fun k=>(ownD q.2 i).map fun z=>((zB4 z.1 z.2 k).getD q.1,q.2)
@[simp] theorem yBW:zNL i fa fb δ=qDg i (ownD δ i) δ fa fb:=rfl
@[simp] theorem yIX{z:List Key×List Dat}:qDg i (some z) δ fa fb=qDgb i (fa δ) fb:=rfl
@[simp] theorem yGG:qDgb i (some (x,δ)) fb=qDgc i x (fb δ):=rfl
@[simp] theorem yGF:qDgc i x (some (y,δ))=(keyD x).bind fun k=>(ownD δ i).map fun z=>((zB4 z.1 z.2 k).getD y,δ):=rfl
noncomputable def qDp(i:Nat)(r:Option (Dat×Ev))(fk:VF):Option Ou:=r.bind fun p=>(ownD p.2 i).bind fun _=>(fk p.2).bind fun q=>(keyD q.1).bind fun k=>(ownD q.2 i).bind fun z=>if z.1.length<16777216/\z.1.Nodup then some (.nx (q.2.set i (.ow (let r:=zDV z.1 z.2 k p.1;.dct r.1 r.2)))) else none
noncomputable def qDpb(i:Nat)(x:Dat)(r:Option (List Key×List Dat))(δ:Ev)(fk:VF):Option Ou:=r.bind fun _=>(fk δ).bind fun q=>(keyD q.1).bind fun k=>(ownD q.2 i).bind fun z=>if z.1.length<16777216/\z.1.Nodup then some (.nx (q.2.set i (.ow (let r:=zDV z.1 z.2 k x;.dct r.1 r.2)))) else none
noncomputable def qDpc(i:Nat)(x:Dat)(r:Option (Dat×Ev)):Option Ou:=r.bind fun q=>(keyD q.1).bind fun k=>(ownD q.2 i).bind fun z=>if z.1.length<16777216/\z.1.Nodup then some (.nx (q.2.set i (.ow (.dct (zDV z.1 z.2 k x).1 (zDV z.1 z.2 k x).2)))) else none
@[simp] theorem yCU{fk fv:VF}:zPM i fk fv δ=qDp i (fv δ) fk:=rfl
@[simp] theorem yIW{fk:VF}:qDp i (some (x,δ)) fk=qDpb i x (ownD δ i) δ fk:=rfl
@[simp] theorem yGE{z:List Key×List Dat}{fk:VF}:qDpb i x (some z) δ fk=qDpc i x (fk δ):=rfl
@[simp] theorem yGD:qDpc i x (some (y,δ))=(keyD y).bind fun k=>(ownD δ i).bind fun z=>if z.1.length<16777216/\z.1.Nodup then some (.nx (δ.set i (.ow (.dct (zDV z.1 z.2 k x).1 (zDV z.1 z.2 k x).2)))) else none:=rfl
@[simp] theorem yH9{i:Int}:keyD (.int i)=some (.inl i):=rfl
@[simp] theorem yH8{s:Str}:keyD (.str s)=some (.inr s):=rfl
noncomputable def qPc(r:Option (Dat×Ev))(fv:VF)(fs:VPr):Option (List (Key×Dat)×Ev):=r.bind fun p=>(keyD p.1).bind fun k=>(fv p.2).bind fun q=>(fs q.2).map fun r=>((k,q.1)::r.1,r.2)
noncomputable def qPcb(k:Option Key)(δ:Ev)(fv:VF)(fs:VPr):Option (List (Key×Dat)×Ev):=k.bind fun k=>(fv δ).bind fun q=>(fs q.2).map fun r=>((k,q.1)::r.1,r.2)
noncomputable def qPcc(k:Key)(r:Option (Dat×Ev))(fs:VPr):Option (List (Key×Dat)×Ev):=r.bind fun q=>(fs q.2).map fun r=>((k,q.1)::r.1,r.2)
noncomputable def qPcd(k:Key)(x:Dat)(r:Option (List (Key×Dat)×Ev)):Option (List (Key×Dat)×Ev):=r.map fun r=>((k,x)::r.1,r.2)
@[simp] theorem yD7:zVS δ=some ([],δ):=rfl
@[simp] theorem yBP{fs:VPr}:zIG fa fb fs δ=qPc (fa δ) fb fs:=rfl
@[simp] theorem yIH{fs:VPr}:qPc (some (x,δ)) fb fs=qPcb (keyD x) δ fb fs:=rfl
@[simp] theorem yG6{k:Key}{fs:VPr}:qPcb (some k) δ fb fs=qPcc k (fb δ) fs:=rfl
@[simp] theorem yG5{k:Key}{fs:VPr}:qPcc k (some (x,δ)) fs=qPcd k x (fs δ):=rfl
@[simp] theorem yG4{k:Key}{kd:List (Key×Dat)}:qPcd k x (some (kd,δ))=some ((k,x)::kd,δ):=rfl
noncomputable def qD(r:Option (List (Key×Dat)×Ev)):Option (Dat×Ev):=r.bind fun p=>if(p.1.map Bh).Nodup/\p.1.length<=15 then some (.dct (p.1.map Bh) (p.1.map C2),p.2) else none
@[simp] theorem yEV{fs:VPr}:zTP fs δ=qD (fs δ):=rfl
@[simp] theorem qD_s{kd:List (Key×Dat)}:qD (some (kd,δ))=if(kd.map Bh).Nodup/\kd.length<=15 then some (.dct (kd.map Bh) (kd.map C2),δ) else none:=rfl
noncomputable def qLr(r:Option (Dat×Ev))(fb fc:VF):Option (Dat×Ev):=r.bind fun p=>(fb p.2).bind fun q=>(fc q.2).bind fun r=>match p.1,q.1,r.1 with
 | .int i,.int j,.int k=>if(0<k/\k<1073741824)/\zDQ i j k<9223372036854775808 then some (.int (zDQ i j k),r.2) else none
 |_,_,_=>none
noncomputable def qLrb(x:Dat)(r:Option (Dat×Ev))(fc:VF):Option (Dat×Ev):=qLr (some (x,[])) (fun _=>r) fc
noncomputable def qLrc(x y:Dat)(r:Option (Dat×Ev)):Option (Dat×Ev):=qLr (some (x,[])) (fun _=>some (y,[])) (fun _=>r)
@[simp] theorem yBV:zNK fa fb fc δ=qLr (fa δ) fb fc:=rfl
@[simp] theorem yIR:qLr (some (x,δ)) fb fc=qLrb x (fb δ) fc:=rfl
@[simp] theorem yGC:qLrb x (some (y,δ)) fc=qLrc x y (fc δ):=rfl
@[simp] theorem yGB{i j k:Int}:qLrc (.int i) (.int j) (some (.int k,δ))=if(0<k/\k<1073741824)/\zDQ i j k<9223372036854775808 then some (.int (zDQ i j k),δ) else none:=rfl
noncomputable def qRun(ml:List Nat):Option Ou->Option (Dat×List Dat)
 |some (.rt d δ)=>(outs ml δ).map fun os=>(d,os)
 |some (.nx δ)=>(outs ml δ).map fun os=>(.non,os)
 |_=>none
theorem zAC{ml:List Nat}:runV n ml g ds=qRun ml (g (envD ml n ds)):=by
 unfold runV qRun
 cases g (envD ml n ds) with
 |none=>rfl
 |some o=>cases o<;>rfl
@[simp] theorem yG1{ml:List Nat}:qRun ml (some (.rt d δ))=(outs ml δ).map fun os=>(d,os):=rfl
@[simp] theorem yG2{ml:List Nat}:qRun ml (some (.nx δ))=(outs ml δ).map fun os=>(.non,os):=rfl
noncomputable def qow:Option Sl->Option Dat
 |some (.ow d)=>some d
 |_=>none
@[simp] theorem yGO:outs [] δ=some []:=rfl
@[simp] theorem yGP{ml:List Nat}:outs (i::ml) δ=(qow δ[i]?).bind fun d=>(outs ml δ).map fun os=>d::os:=by
 unfold outs
 rw[L5]
 cases h:(δ[i]? :Option Sl) with
 | none => rfl
 | some s => cases s with
  |no=>rfl
  |va d=>rfl
  |ow d=>
   show(Option.bind _ fun os=>some (d::os))=Option.map (fun os=>d::os) _
   cases (List.mapM _ ml:Option (List Dat))<;>rfl
@[simp] theorem yIA:qow (some (.ow d))=some d:=rfl
end
section
variable{i j:Int}{x y:Str}{ds es:List Dat}
@[simp] theorem oI_e{C:Int->Int->Bool}{g:Int->Int->Dat}:oI C g (.int i) (.int j)=if C i j=true then some (g i j) else none:=rfl
@[simp] theorem yE0:zCJ (.int i) (.int j)=some (.int (i+j)):=rfl
@[simp] theorem yDY:zCJ (.tup ds) (.tup es)=if ds.length+es.length<=16777216 then some (.tup (ds++es)) else none:=rfl
@[simp] theorem yDZ:zCJ (.lst ds) (.lst es)=if ds.length+es.length<=16777216 then some (.lst (ds++es)) else none:=rfl
@[simp] theorem yJ9{g:Int->Int->Int}:o2I g (.int i) (.int j)=some (.int (g i j)):=rfl
@[simp] theorem yGT:oLen (.tup ds)=some (.int ds.length):=rfl
@[simp] theorem yGU:oLen (.lst ds)=some (.int ds.length):=rfl
@[simp] theorem yE5:zKJ (.tup ds)=some (.lst ds):=rfl
@[simp] theorem yE6:zKJ (.lst ds)=some (.lst ds):=rfl
@[simp] theorem yBQ:zGS (.tup ds)=some (.tup ds):=rfl
@[simp] theorem yBR:zGS (.lst ds)=some (.tup ds):=rfl
@[simp] theorem yGV:oIxA (.tup ds) (.int i)=atI ds i:=rfl
@[simp] theorem yA7:oIxA (.lst ds) (.int i)=atI ds i:=rfl
@[simp] theorem yE8{ks:List Key}:oIxA (.dct ks ds) (.int i)=zB4 ks ds (.inl i):=rfl
@[simp] theorem yE7{ks:List Key}:oIxA (.dct ks ds) (.str x)=zB4 ks ds (.inr x):=rfl
@[simp] theorem yJ5:okD (.int i)=true:=rfl
@[simp] theorem yJ4:okD .non=true:=rfl
@[simp] theorem yJ6{b:Bool}:okD (.bl b)=true:=rfl
@[simp] theorem yHH:isiT "int" "bool"=some false:=by decide+kernel
@[simp] theorem yHG:isiT "int" "int"=some true:=by decide+kernel
@[simp] theorem yHF:isiT "tuple" "tuple"=some true:=by decide+kernel
@[simp] theorem yHE:isiT "str" "str"=some true:=by decide+kernel
@[simp] theorem yHD:isiT "list" "list"=some true:=by decide+kernel
@[simp] theorem yGZ{n:String}:oIsi (.int i) (.ty n)=(isiT "int" n).map Dat.bl:=rfl
@[simp] theorem yGW{n:String}:oIsi (.tup ds) (.ty n)=(isiT "tuple" n).map Dat.bl:=rfl
@[simp] theorem yGY{n:String}:oIsi (.lst ds) (.ty n)=(isiT "list" n).map Dat.bl:=rfl
@[simp] theorem yGX{n:String}:oIsi (.str x) (.ty n)=(isiT "str" n).map Dat.bl:=rfl
@[simp] theorem yH2:oIsN .non .non=some (.bl true):=rfl
@[simp] theorem yH3:oIsN (.int i) .non=some (.bl false):=rfl
@[simp] theorem yH1:oIsN (.str x) .non=some (.bl false):=rfl
@[simp] theorem yH0:oIsN (.tup ds) .non=some (.bl false):=rfl
@[simp] theorem yE3:zJE .non .non=some (.bl false):=rfl
@[simp] theorem yE4:zJE (.int i) .non=some (.bl true):=rfl
@[simp] theorem yE2:zJE (.str x) .non=some (.bl true):=rfl
@[simp] theorem yE1:zJE (.tup ds) .non=some (.bl true):=rfl
end
section
variable{d x:Dat}{δ δ1:Ev}{r acc:List Dat}{gg:VG}{tb:VB}{fe:VF}{n nl:Nat}{g:VS}
noncomputable def qk1(n nl:Nat)(gg:VG)(tb:VB)(fe:VF)(r acc:List Dat)(o:Option Ev):Option (List Dat×Ev):=o.bind fun δ1=>(tb δ1).bind fun p=>if p.1=true then(fe p.2).bind fun q=>if acc.length<16777216 then zC2 n nl gg tb fe r (acc++[q.1]) (q.2.take n) else none else zC2 n nl gg tb fe r acc (p.2.take n)
noncomputable def qk2(n nl:Nat)(gg:VG)(tb:VB)(fe:VF)(r acc:List Dat)(o:Option (Bool×Ev)):Option (List Dat×Ev):=o.bind fun p=>if p.1=true then(fe p.2).bind fun q=>if acc.length<16777216 then zC2 n nl gg tb fe r (acc++[q.1]) (q.2.take n) else none else zC2 n nl gg tb fe r acc (p.2.take n)
noncomputable def qk3(n nl:Nat)(gg:VG)(tb:VB)(fe:VF)(r acc:List Dat)(o:Option (Dat×Ev)):Option (List Dat×Ev):=o.bind fun q=>if acc.length<16777216 then zC2 n nl gg tb fe r (acc++[q.1]) (q.2.take n) else none
@[simp] theorem yF2:zC2 n nl gg tb fe [] acc δ=some (acc,δ):=rfl
@[simp] theorem zGF:zC2 n nl gg tb fe (d::r) acc δ=qk1 n nl gg tb fe r acc (gg d (δ++nos nl)):=rfl
@[simp] theorem zO5:qk1 n nl gg tb fe r acc (some δ)=qk2 n nl gg tb fe r acc (tb δ):=rfl
@[simp] theorem zSS:qk2 n nl gg tb fe r acc (some (true,δ))=qk3 n nl gg tb fe r acc (fe δ):=rfl
@[simp] theorem zYG:qk2 n nl gg tb fe r acc (some (false,δ))=zC2 n nl gg tb fe r acc (δ.take n):=rfl
@[simp] theorem zSR:qk3 n nl gg tb fe r acc (some (x,δ))=if acc.length<16777216 then zC2 n nl gg tb fe r (acc++[x]) (δ.take n) else none:=rfl
noncomputable def qf1(gg:VG)(g:VS)(r:List Dat)(o:Option Ev):Option Ou:=o.bind fun δ1=>(g δ1).bind (zDZ (forV gg g r))
noncomputable def qf2(gg:VG)(g:VS)(r:List Dat)(o:Option Ou):Option Ou:=o.bind (zDZ (forV gg g r))
@[simp] theorem yHK:forV gg g [] δ=some (.nx δ):=rfl
@[simp] theorem zEB:forV gg g (d::r) δ=qf1 gg g r (gg d δ):=rfl
@[simp] theorem zHK:qf1 gg g r (some δ)=qf2 gg g r (g δ):=rfl
@[simp] theorem zJB:qf2 gg g r (some (.nx δ))=forV gg g r δ:=rfl
@[simp] theorem yIB:qf2 gg g r (some (.ct δ))=forV gg g r δ:=rfl
@[simp] theorem yIC:qf2 gg g r (some (.bk δ))=some (.nx δ):=rfl
@[simp] theorem zYH:qf2 gg g r (some (.rt d δ))=some (.rt d δ):=rfl
@[simp] theorem yF7{ss:Ev}:zDE [] ss δ=δ:=by cases ss<;>rfl
@[simp] theorem yF6{i:Nat}{is:List Nat}{ss:Ev}:zDE (i::is) (.ow d::ss) δ=zDE is ss (δ.set i (.ow d)):=rfl
@[simp] theorem yF5{i:Nat}{is:List Nat}{ss:Ev}:zDE (i::is) (.va d::ss) δ=zDE is ss δ:=rfl
@[simp] theorem yF4{i:Nat}{is:List Nat}{ss:Ev}:zDE (i::is) (.no::ss) δ=zDE is ss δ:=rfl
end
@[simp] theorem zTC:nos 1=[.no]:=rfl
@[simp] theorem yAB:nos 2=[.no,.no]:=rfl
@[simp] theorem yJA:nos 3=[.no,.no,.no]:=rfl
@[simp] theorem yFV{i:Int}:rngD i 0=[]:=rfl
@[simp] theorem yFU:rngD 0 1=[.int 0]:=rfl
@[simp] theorem yFT:rngD 0 2=[.int 0,.int 1]:=rfl
@[simp] theorem yFS:rngD 0 3=[.int 0,.int 1,.int 2]:=rfl
@[simp] theorem yFR:rngD 0 4=[.int 0,.int 1,.int 2,.int 3]:=rfl
theorem zEU{α:Type}{xs:List α}{i:Int}(h0:0<=i)(h1:i<xs.length):atI xs i=xs[i.toNat]? :=by
 unfold atI ixN
 rw[if_pos h0,if_pos h1]
 rfl
theorem zRU{α:Type}{xs:List α}{i:Int}(h0:0<=i)(h1:i<xs.length): ∃x∈xs,atI xs i=some x:=by
 rw[zEU h0 h1]
 have h:i.toNat<xs.length:=by omega
 exact⟨xs[i.toNat],He _,Ci h⟩
section
variable{F:VFun}{fa fb fc:VF}{δ:Ev}{x y z d o:Dat}{j:Nat}
noncomputable def qcr(δ:Ev):Option (Dat×List Dat)->Option (Dat×Ev)
 |some (d,[])=>some (d,δ)
 |_=>none
@[simp] theorem yID:qcr δ (some (d,[]))=some (d,δ):=rfl
theorem zRP{n:Nat}{ds:List Dat}{as:List AV}(h:zF7 δ as=some ds)(hn:ds.length=n)(hj:jsOf as=[])(ha:zF8 [] as 0=true):qCb n [] F as δ (some ds)=qcr δ (F ds):=by
 have hc:zFU [] as δ=true:=by simp[hj]
 rw[yD4,if_pos ⟨hn,hc⟩]
 cases F ds with
 |none=>rfl
 |some q=>
  obtain⟨r,os⟩:=q
  rw[yD3]
  cases os with
  |nil=>simp[ha,qcr]
  |cons o os=>simp[qcr]
noncomputable def qx1(F:VFun)(r:Option (Dat×Ev)):Option (Dat×Ev):=r.bind fun p=>qcr p.2 (F [p.1])
@[simp] theorem yI3:qx1 F (some (x,δ))=qcr δ (F [x]):=rfl
@[simp high] theorem call1:zAI 1 [] F (aE fa aNil) δ=qx1 F (fa δ):=by
 rw[zJJ,aE_e]
 cases fa δ with
 |none=>rfl
 |some p=>exact zRP (as:=[.d p.1]) rfl rfl rfl rfl
noncomputable def qx2(F:VFun)(r:Option (Dat×Ev))(fb:VF):Option (Dat×Ev):=r.bind fun p=>(fb p.2).bind fun q=>qcr q.2 (F [p.1,q.1])
noncomputable def qx2b(F:VFun)(x:Dat)(r:Option (Dat×Ev)):Option (Dat×Ev):=r.bind fun q=>qcr q.2 (F [x,q.1])
@[simp] theorem yCY:qx2 F (some (x,δ)) fb=qx2b F x (fb δ):=rfl
@[simp] theorem yFX:qx2b F x (some (y,δ))=qcr δ (F [x,y]):=rfl
@[simp high] theorem call2:zAI 2 [] F (aE fa (aE fb aNil)) δ=qx2 F (fa δ) fb:=by
 rw[zJJ,aE_e]
 cases fa δ with
 |none=>rfl
 |some p=>
  rw[qa_s,aE_e,yCY]
  cases fb p.2 with
  |none=>rfl
  |some q=>exact zRP (as:=[.d p.1,.d q.1]) rfl rfl rfl rfl
noncomputable def qx3(F:VFun)(r:Option (Dat×Ev))(fb fc:VF):Option (Dat×Ev):=r.bind fun p=>(fb p.2).bind fun q=>(fc q.2).bind fun s=>qcr s.2 (F [p.1,q.1,s.1])
noncomputable def qx3b(F:VFun)(x:Dat)(r:Option (Dat×Ev))(fc:VF):Option (Dat×Ev):=r.bind fun q=>(fc q.2).bind fun s=>qcr s.2 (F [x,q.1,s.1])
noncomputable def qx3c(F:VFun)(x y:Dat)(r:Option (Dat×Ev)):Option (Dat×Ev):=r.bind fun s=>qcr s.2 (F [x,y,s.1])
@[simp] theorem yCX:qx3 F (some (x,δ)) fb fc=qx3b F x (fb δ) fc:=rfl
@[simp] theorem zYF:qx3b F x (some (y,δ)) fc=qx3c F x y (fc δ):=rfl
@[simp] theorem yFW:qx3c F x y (some (z,δ))=qcr δ (F [x,y,z]):=rfl
@[simp high] theorem call3:zAI 3 [] F (aE fa (aE fb (aE fc aNil))) δ=qx3 F (fa δ) fb fc:=by
 rw[zJJ,aE_e]
 cases fa δ with
 | none => rfl
 |some p=>
  rw[qa_s,aE_e,yCX]
  cases fb p.2 with
  |none=>rfl
  |some q=>
   rw[qa_s,aE_e,zYF]
   cases fc q.2 with
   |none=>rfl
   |some s=>exact zRP (as:=[.d p.1,.d q.1,.d s.1]) rfl rfl rfl rfl
noncomputable def qw3(j:Nat)(δ:Ev):Option (Dat×List Dat)->Option (Dat×Ev)
 |some (r,[o])=>some (r,δ.set j (.ow o))
 |_=>none
noncomputable def qw2(F:VFun)(j:Nat)(x y:Dat)(δ:Ev):Option Sl->Option (Dat×Ev)
 |some (.ow d)=>qw3 j δ (F [x,d,y])
 |_=>none
noncomputable def qwb(F:VFun)(j:Nat)(x:Dat)(r:Option (Dat×Ev)):Option (Dat×Ev):=r.bind fun q=>qw2 F j x q.1 q.2 q.2[j]?
noncomputable def qwa(F:VFun)(j:Nat)(x:Dat)(δ:Ev)(fb:VF)(s:Option Dat):Option (Dat×Ev):=s.bind fun _=>qwb F j x (fb δ)
noncomputable def qw(F:VFun)(j:Nat)(r:Option (Dat×Ev))(fb:VF):Option (Dat×Ev):=r.bind fun p=>qwa F j p.1 p.2 fb (slot p.2 j)
@[simp] theorem yI4:qw3 j δ (some (x,[o]))=some (x,δ.set j (.ow o)):=rfl
@[simp] theorem yI5:qw2 F j x y δ (some (.ow d))=qw3 j δ (F [x,d,y]):=rfl
@[simp] theorem yCZ:qwb F j x (some (y,δ))=qw2 F j x y δ δ[j]? :=rfl
@[simp] theorem yD0:qwa F j x δ fb (some d)=qwb F j x (fb δ):=rfl
@[simp] theorem qw_s:qw F j (some (x,δ)) fb=qwa F j x δ fb (slot δ j):=rfl
@[simp high] theorem callO:zAI 3 [1] F (aE fa (aO j (aE fb aNil))) δ=qw F j (fa δ) fb:=by
 rw[zJJ,aE_e]
 cases fa δ with
 | none => rfl
 |some p=>
  obtain⟨x,δ1⟩:=p
  rw[qa_s,aO_e,qw_s]
  cases h:slot δ1 j with
  | none => rfl
  |some d0=>
   rw[yD1,aE_e,yD0]
   cases fb δ1 with
   | none => rfl
   |some q=>
    obtain⟨y,δ2⟩:=q
    rw[yCZ,qa_s,yBL,zVK,zVK,zVK,zVL]
    cases h2:δ2[j]? with
    | none => simp [h2,qsl,qCb,qw2]
    |some s=>
     cases s with
     | no => simp [h2,qsl,qCb,qw2]
     | va d => simp [h2,qw2]
     |ow d=>
      simp[h2]
      cases F [x,d,y] with
      | none => rfl
      |some r=>
       obtain⟨v,os⟩:=r
       cases os with
       |nil=>simp[qw3]
       |cons o os=>
        cases os with
        |nil=>simp
        |cons o2 os=>simp[qw3]
end
def zB5:Dat:= .int 999
def zRR:Dat:= .tup [.str "plus",.str "minus",.str "times",.str "least",.str "most",.str "less",.str "over"]
def zES:Dat:= .dct [.inr "plus",.inr "minus",.inr "times",.inr "least",.inr "most",.inr "less",.inr "over"] [.fn "plus",.fn "minus",.fn "times",.fn "least",.fn "most",.fn "less",.fn "over"]
def zF5:Dat:= .int 64
def zF6:Dat:= .int 40
def zEC:Dat:= .int 63
def zGW:Dat:= .tup [.str "row",.str "row"]
def zFV:Dat:= .dct [.inr "number",.inr "pick",.inr "load",.inr "take",.inr "store",.inr "put"] [.tup [.str "word"],.tup [.str "row",.str "row",.str "row"],.tup [.str "place"],.tup [.str "place",.str "row",.str "row"],.tup [.str "place",.str "row"],.tup [.str "place",.str "row",.str "row"]]
def zCW:Dat:= .tup [.str "load",.str "take"]
def zB0:Dat:= .tup [.str "store",.str "put"]
def zED:Dat:= .int 64
def zGA:VS:=
   (sSeq (sIf (bOr (fB (f2 oIsi (fV 0) (fC (.ty "bool")))) (bNot (fB (f2 oIsi (fV 0) (fC (.ty "int"))))))
   (sRet (fC (.bl false)))
   sNil)
   (sRet (f3 oLe oLe (fV 1) (fV 0) (fV 2))))
def zB3:VFun:=runV 3 [] zGA
def zR3:VS:=
   (sRet (f2 oMod (f2 zCJ (fV 0) (fV 1)) (f2 zCJ (fC zB5) (fC (.int 1)))))
def zIV:VFun:=runV 2 [] zR3
def zLW:VS:=
   (sRet (f2 oMod (f2 oSub (fV 0) (fV 1)) (f2 zCJ (fC zB5) (fC (.int 1)))))
def zGJ:VFun:=runV 2 [] zLW
def zLV:VS:=
   (sRet (f2 oMod (f2 zGT (fV 0) (fV 1)) (f2 zCJ (fC zB5) (fC (.int 1)))))
def zGI:VFun:=runV 2 [] zLV
def zLX:VS:=
   (sRet (f2 oMin (fV 0) (fV 1)))
def zGK:VFun:=runV 2 [] zLX
def zR5:VS:=
   (sRet (f2 oMax (fV 0) (fV 1)))
def zIX:VFun:=runV 2 [] zR5
def zR6:VS:=
   (sRet (fIf (fB (f2 oLt (fV 0) (fV 1))) (fC (.int 1)) (fC (.int 0))))
def zIY:VFun:=runV 2 [] zR6
def zNG:VS:=
   (sRet (fIf (fB (f2 oEq (fV 1) (fC (.int 0)))) (fC .non) (f2 zO9 (fV 0) (fV 1))))
def zGX:VFun:=runV 2 [] zNG
def zR4:VS:=
   (sRet (fIf (fB (f2 oNe (fV 0) (fC (.int 0)))) (fV 1) (fV 2)))
def zIW:VFun:=runV 3 [] zR4
def zNH:VS:=
   (sSeq (sIf (fB (f2 oEq (fV 0) (fC (.str "pick"))))
   (sRet (zAI 3 [] zIW (aE (f2 oIxA (fV 1) (fC (.int 0))) (aE (f2 oIxA (fV 1) (fC (.int 1))) (aE (f2 oIxA (fV 1) (fC (.int 2))) aNil)))))
   sNil)
   (sSeq (sSet 2 (xV (f2 oIxA (fC zES) (fV 0))))
   (sRet (zKU 2 [] [("plus",zIV),("minus",zGJ),("times",zGI),("least",zGK),("most",zIX),("less",zIY),("over",zGX)] 2 (aE (f2 oIxA (fV 1) (fC (.int 0))) (aE (f2 oIxA (fV 1) (fC (.int 1))) aNil))))))
def zGY:VFun:=runV 3 [] zNH
def zIQ:VS:=
   (sSeq (sIf (fB (f2 (oInD false) (fV 0) (fC zRR)))
   (sRet (fC zGW))
   sNil)
   (sRet (f2 yA8 (fC zFV) (fV 0))))
def zBC:VFun:=runV 1 [] zIQ
def zEA:VS:=
   (sRet (f2 (oInD true) (f2 oIxA (fV 0) (fC (.int 0))) (fC zB0)))
def zCD:VFun:=runV 1 [] zEA
def zCA:VS:=
   (sRet (fIf (bOr (fB (f2 (oInD false) (f2 oIxA (fV 0) (fC (.int 0))) (fC zCW))) (fB (f2 (oInD false) (f2 oIxA (fV 0) (fC (.int 0))) (fC zB0)))) (f2 oIxA (fV 0) (fC (.int 1))) (fC .non)))
def zAU:VFun:=runV 1 [] zCA
def zIR:VS:=
   (sSeq (zO3 1 2 (fV 0))
   (sRet (zCV [] 2 (iZip (zAI 1 [] zBC (aE (fV 1) aNil)) (fV 2)) (gTp 2 (zAT (gN 0) (zAT (gN 1) zDO))) (fB (f2 oEq (fV 0) (fC (.str "row")))) (fV 1))))
def zD4:VFun:=runV 3 [] zIR
def zG5:VS:=
   (sRet (fAnd (zAI 3 [] zB3 (aE (fV 0) (aE (fC (.int 0)) (aE (f2 oSub (f1 oLen (fV 1)) (fC (.int 1))) aNil)))) (f2 oIxA (fV 1) (fV 0))))
def zD5:VFun:=runV 2 [] zG5
def zKS:VS:=
   (sSeq (sIf (fB (f2 oEq (fV 0) (fC (.str "word"))))
   (sRet (zAI 3 [] zB3 (aE (fV 1) (aE (fC (.int 0)) (aE (fC zB5) aNil)))))
   sNil)
   (sSeq (sIf (fB (f2 oEq (fV 0) (fC (.str "place"))))
   (sRet (zAI 3 [] zB3 (aE (fV 1) (aE (fC (.int 0)) (aE (fC zEC) aNil)))))
   sNil)
   (sRet (zAI 2 [] zD5 (aE (fV 1) (aE (fV 2) aNil))))))
def zEV:VFun:=runV 3 [] zKS
def zJI:VS:=
   (sSeq (sIf (bOr (bNot (fB (f2 oIsi (fV 0) (fC (.ty "tuple"))))) (fB (f2 oEq (f1 oLen (fV 0)) (fC (.int 0)))))
   (sRet (fC (.bl false)))
   sNil)
   (sSeq (zO3 2 3 (fV 0))
   (sSeq (sSet 4 (xV (fIf (fB (f2 oIsi (fV 2) (fC (.ty "str")))) (zAI 1 [] zBC (aE (fV 2) aNil)) (fC .non))))
   (sSeq (sIf (bOr (fB (f2 oIsN (fV 4) (fC .non))) (fB (f2 oNe (f1 oLen (fV 4)) (f1 oLen (fV 3)))))
   (sRet (fC (.bl false)))
   sNil)
   (sRet (f1 oAll (zCV [1] 2 (iZip (fV 4) (fV 3)) (gTp 2 (zAT (gN 1) (zAT (gN 2) zDO))) bYes (zAI 3 [] zEV (aE (fV 1) (aE (fV 2) (aE (fV 0) aNil)))))))))))
def zEO:VFun:=runV 5 [] zJI
def zDM:VS:=
   (sSeq (sIf (bNot (fB (zAI 2 [] zEO (aE (fV 4) (aO 3 aNil)))))
   (sRet (fC (.bl false)))
   sNil)
   (sMut 3 mApp (zA4 (zAI 1 [] zCD (aE (fV 4) aNil)) fNil)))
def zGC:VS:=
   (sSeq (sIf (bOr (bNot (fB (f2 oIsi (fV 0) (fC (.ty "tuple"))))) (fB (f2 oNe (f1 oLen (fV 0)) (fC (.int 2)))))
   (sRet (fC (.bl false)))
   sNil)
   (sSeq (sAsg (fV 0) (gTp 2 (zAT (gN 1) (zAT (gN 2) zDO))))
   (sSeq (sIf (bNot (fB (zAI 3 [] zB3 (aE (fV 1) (aE (fC (.int 0)) (aE (fC zF5) aNil))))))
   (sRet (fC (.bl false)))
   sNil)
   (sSeq (sIf (bOr (bNot (fB (f2 oIsi (fV 2) (fC (.ty "tuple"))))) (fB (f2 oGt (f1 oLen (fV 2)) (fC zF6))))
   (sRet (fC (.bl false)))
   sNil)
   (sSeq (sSet 3 (xO (fLst fNil)))
   (sSeq (sFor (iSeq (fV 2)) (gN 4)
   zDM)
   (sRet (fC (.bl true)))))))))
def zD9:VFun:=runV 5 [] zGC
def zGB:VS:=
   (sSeq (sIf (bOr (bNot (fB (f2 oIsi (fV 0) (fC (.ty "list"))))) (bNot (fB (f3 oLe oLe (fV 1) (f1 oLen (fV 0)) (fC zED)))))
   (sRet (fC (.bl false)))
   sNil)
   (sRet (f1 oAll (zCV [] 1 (iSeq (fV 0)) (gN 0) bYes (zAI 3 [] zB3 (aE (fV 0) (aE (fC (.int 0)) (aE (fC zB5) aNil))))))))
def zD8:VFun:=runV 2 [] zGB
def zFP:VS:=
   (sSeq (sIf (fB (f2 oEq (fV 0) (fC (.str "take"))))
   (sRet (f2 oNe (f2 oIxA (fV 1) (fC (.int 0))) (fC (.int 0))))
   sNil)
   (sSeq (sIf (fB (f2 oEq (fV 0) (fC (.str "put"))))
   (sRet (f2 oNe (f2 oIxA (fV 1) (fC (.int 1))) (fC (.int 0))))
   sNil)
   (sRet (fC (.bl true)))))
def zC3:VFun:=runV 2 [] zFP
def zAW:VS:=
   (sSeq (sIf (bNot (fB (zAI 2 [] zC3 (aE (fV 0) (aE (fV 2) aNil)))))
   (sRet (fTup (zA4 (fIf (fB (f2 oEq (fV 0) (fC (.str "take")))) (f2 oIxA (fV 2) (fC (.int 1))) (fC .non)) (zA4 (fC .non) fNil))))
   sNil)
   (sSeq (sIf (fB (f2 oGe (fV 1) (f1 oLen (fO 3))))
   (sRet (fTup (zA4 (fC .non) (zA4 (fC (.str "beyond")) fNil))))
   sNil)
   (sSeq (sIf (fB (f2 (oInD false) (fV 0) (fC zB0)))
   (sSeq (zPJ 3 (fV 1) (f2 oIxA (fV 2) (fC (.int 0))))
   (sRet (fTup (zA4 (fC .non) (zA4 (fC .non) fNil)))))
   sNil)
   (sRet (fTup (zA4 (f2 oIxA (fO 3) (fV 1)) (zA4 (fC .non) fNil)))))))
def zAQ:VFun:=runV 4 [3] zAW
def zFR:VS:=
   (sSeq (sSet 4 (xV (f2 oIxA (fV 0) (fC (.int 0)))))
   (sSeq (sIf (fB (f2 oEq (fV 4) (fC (.str "number"))))
   (sRet (fTup (zA4 (f2 oIxA (fV 0) (fC (.int 1))) (zA4 (fC .non) fNil))))
   sNil)
   (sSeq (sSet 5 (xV (zAI 1 [] zAU (aE (fV 0) aNil))))
   (sSeq (sIf (fB (f2 zJE (fV 5) (fC .non)))
   (sRet (zAI 4 [3] zAQ (aE (fV 4) (aE (f2 zCJ (fV 5) (fV 3)) (aE (fV 1) (aO 2 aNil))))))
   sNil)
   (sSeq (sSet 6 (xV (zAI 2 [] zGY (aE (fV 4) (aE (fV 1) aNil)))))
   (sRet (fTup (zA4 (fV 6) (zA4 (fIf (fB (f2 oIsN (fV 6) (fC .non))) (fC (.str "nought")) (fC .non)) fNil)))))))))
def zBY:VFun:=runV 7 [2] zFR
def zBU:VS:=
   (sSeq (sAsg (zAI 3 [2] (dflt zBY (.int 0)) (aE (fV 4) (aE (zCV [2] 1 (iSeq (zAI 1 [] zD4 (aE (fV 4) aNil))) (gN 1) bYes (f2 oIxA (fO 0) (fV 1))) (aO 1 aNil)))) (gTp 2 (zAT (gN 5) (zAT (gN 6) zDO))))
   (sSeq (sIf (fB (f2 zJE (fV 6) (fC .non)))
   (sRet (fTup (zA4 (fO 2) (zA4 (fTup (zA4 (fV 3) (zA4 (fV 6) fNil))) fNil))))
   sNil)
   (sMut 2 mApp (zA4 (fV 5) fNil))))
def zFQ:VS:=
   (sSeq (sSet 2 (xO (fLst fNil)))
   (sSeq (sFor (zJH (fV 0)) (gTp 2 (zAT (gN 3) (zAT (gN 4) zDO)))
   zBU)
   (sRet (fTup (zA4 (fO 2) (zA4 (fC .non) fNil))))))
def zC4:VFun:=runV 7 [1] zFQ
def zF3:VS:=
   (sSeq (sIf (bNot (fB (zAI 1 [] zD9 (aE (fV 0) aNil))))
   (fun _=>none)
   sNil)
   (sIf (bNot (fB (zAI 2 [] zD8 (aE (fV 1) (aE (f2 oIxA (fV 0) (fC (.int 0))) aNil)))))
   (fun _=>none)
   sNil))
def zBV:VFun:=runV 2 [] zF3
def zTN:VS:=
   (sSeq (zPL (zAI 2 [] zBV (aE (fV 0) (aE (fV 1) aNil))))
   (sSeq (sSet 2 (xO (f1 zKJ (fV 1))))
   (sSeq (sAsg (zAI 2 [1] zC4 (aE (f2 oIxA (fV 0) (fC (.int 1))) (aO 2 aNil))) (gTp 2 (zAT (gN 3) (zAT (gN 4) zDO))))
   (sRet (fTup (zA4 (fO 2) (zA4 (fV 4) fNil)))))))
def zJT:VFun:=runV 5 [] zTN
def zHB:VS:=
   (sSeq (zPL (zAI 2 [] zBV (aE (fV 0) (aE (fV 1) aNil))))
   (sSeq (sAsg (zAI 2 [] (lstD 1 zC4) (aE (f2 oIxA (fV 0) (fC (.int 1))) (aE (fV 1) aNil))) (gTp 2 (zAT (gN 2) (zAT (gN 3) zDO))))
   (sRet (fV 2))))
def zDN:VFun:=runV 4 [] zHB
def zEH:VS:=
   (sSet 2 (xV (f2 zO9 (fV 2) (fC (.int 1000003)))))
def zDX:VS:=
   (sSeq (sIf (fB (f2 oLt (fV 1) (f1 oLen (fV 0))))
   (sRet (f2 oIxA (fV 0) (fV 1)))
   sNil)
   (sSeq (sIf (fB (f2 oEq (fV 0) (fLst fNil)))
   (sRet (fC (.int 0)))
   sNil)
   (sSeq (sSet 2 (xV (f2 oIxA (fV 0) (f2 oMod (fV 1) (f1 oLen (fV 0))))))
   (sSeq (sFor (iR1 (f2 oMin (f2 zO9 (fV 1) (f1 oLen (fV 0))) (fC (.int 60)))) (gN 3)
   zEH)
   (sRet (f2 zCJ (f2 zCJ (f2 zGT (f2 oIxA (fV 0) (f2 oMod (fV 1) (f1 oLen (fV 0)))) (fC (.int 31))) (fV 1)) (f2 zGT (fV 2) (fC (.int 101)))))))))
def zBL:VFun:=runV 4 [] zDX
def zF1:VS:=
   (sSeq (sSet 3 (xV (f2 oMod (f2 zCJ (f2 zCJ (f2 zGT (zAI 2 [] zBL (aE (fV 0) (aE (fV 1) aNil))) (fC (.int 1103515245))) (f2 zGT (fC (.int 7919)) (fV 1))) (fC (.int 12345))) (fC (.int 2147483647)))))
   (sRet (f2 oMod (f2 oMod (f2 oMod (f2 oPow (fV 3) (fC (.int 5))) (fC (.int 2147483647))) (fC (.int 999983))) (fV 2))))
def zCS:VFun:=runV 4 [] zF1
def zG9:VS:=
   (sSeq (sMut 1 mApp (zA4 (fC (.int 0)) fNil))
   (sRet (zAI 3 [] zCS (aE (fV 0) (aE (f1 oLen (fO 1)) (aE (fV 2) aNil))))))
def zAK:VFun:=runV 3 [1] zG9
def zG7:VS:=
   (sRet (f2 oIxA (fV 2) (zAI 3 [1] zAK (aE (fV 0) (aO 1 (aE (f1 oLen (fV 2)) aNil))))))
def zAP:VFun:=runV 3 [1] zG7
def zF0:VS:=
   (sSeq (zPM 2 (fV 3) (f2 oMod (f2 zCJ (zNL 2 (fV 3) (zAI 3 [1] zAK (aE (fV 0) (aO 1 (aE (fV 4) aNil))))) (zAI 3 [1] zAP (aE (fV 0) (aO 1 (aE (fLst (zA4 (fC (.int 1)) (zA4 (fC (.int 1)) (zA4 (fC (.int 1)) (zA4 (fC (.int 0)) (zA4 (fC (.int 3)) fNil)))))) aNil))))) (fV 4)))
   (sRet (f2 oIxA (fO 2) (fV 3))))
def zBH:VFun:=runV 5 [1,2] zF0
def zHY:VS:=
   (sSeq (sSet 5 (xV (zAI 3 [1] zAK (aE (fV 0) (aO 1 (aE (fC (.int 13)) aNil))))))
   (sSeq (sIf (bOr (fB (f2 oEq (fV 2) (fLst fNil))) (fB (f2 oEq (fV 5) (fC (.int 0)))))
   (sSeq (sIf (fB (f2 oEq (zAI 3 [1] zAK (aE (fV 0) (aO 1 (aE (fC (.int 2)) aNil)))) (fC (.int 0))))
   (sRet (fTup (zA4 (fC (.str "number")) (zA4 (zAI 3 [1] zAP (aE (fV 0) (aO 1 (aE (fLst (zA4 (fC (.int 0)) (zA4 (fC (.int 1)) (zA4 (fC (.int 2)) (zA4 (fC (.int 5)) (zA4 (fC (.int 999)) (zA4 (zAI 3 [1] zAK (aE (fV 0) (aO 1 (aE (fC (.int 1000)) aNil)))) fNil))))))) aNil)))) fNil))))
   sNil)
   (sRet (fTup (zA4 (fC (.str "load")) (zA4 (zAI 5 [1,2] zBH (aE (fV 0) (aO 1 (aO 3 (aE (fC (.str "load")) (aE (fV 4) aNil)))))) fNil)))))
   sNil)
   (sSeq (sAsg (zCV [0,1,2] 1 (iR1 (fC (.int 3))) (gN 3) bYes (f2 oIxA (fV 2) (f2 oMax (fC (.int 0)) (f2 oSub (f2 oSub (f1 oLen (fV 2)) (fC (.int 1))) (zAI 3 [1] zAK (aE (fV 0) (aO 1 (aE (fC (.int 6)) aNil)))))))) (gTp 3 (zAT (gN 6) (zAT (gN 7) (zAT (gN 8) zDO)))))
   (sSeq (sIf (fB (f2 (oInD false) (fV 5) (fTup (zA4 (fC (.int 1)) (zA4 (fC (.int 2)) fNil)))))
   (sRet (fTup (zA4 (fC (.str "load")) (zA4 (zAI 5 [1,2] zBH (aE (fV 0) (aO 1 (aO 3 (aE (fC (.str "load")) (aE (fV 4) aNil)))))) fNil))))
   sNil)
   (sSeq (sIf (fB (f2 oEq (fV 5) (fC (.int 3))))
   (sRet (fTup (zA4 (fC (.str "take")) (zA4 (zAI 5 [1,2] zBH (aE (fV 0) (aO 1 (aO 3 (aE (fC (.str "take")) (aE (fV 4) aNil)))))) (zA4 (fV 8) (zA4 (fV 6) fNil))))))
   sNil)
   (sSeq (sIf (fB (f2 (oInD false) (fV 5) (fTup (zA4 (fC (.int 4)) (zA4 (fC (.int 5)) fNil)))))
   (sRet (fTup (zA4 (fC (.str "store")) (zA4 (zAI 5 [1,2] zBH (aE (fV 0) (aO 1 (aO 3 (aE (fC (.str "store")) (aE (fV 4) aNil)))))) (zA4 (fV 6) fNil)))))
   sNil)
   (sSeq (sIf (fB (f2 oEq (fV 5) (fC (.int 6))))
   (sRet (fTup (zA4 (fC (.str "put")) (zA4 (zAI 5 [1,2] zBH (aE (fV 0) (aO 1 (aO 3 (aE (fC (.str "put")) (aE (fV 4) aNil)))))) (zA4 (fV 6) (zA4 (fV 8) fNil))))))
   sNil)
   (sSeq (sIf (fB (f2 oEq (fV 5) (fC (.int 7))))
   (sRet (fTup (zA4 (fC (.str "pick")) (zA4 (fV 8) (zA4 (fV 6) (zA4 (fV 7) fNil))))))
   sNil)
   (sRet (fTup (zA4 (f2 oIxA (fLst (zA4 (fC (.str "over")) (zA4 (fC (.str "plus")) (zA4 (fC (.str "minus")) (zA4 (fC (.str "times")) (zA4 (fC (.str "least")) (zA4 (fC (.str "most")) (zA4 (fC (.str "less")) fNil)))))))) (zAI 3 [1] zAK (aE (fV 0) (aO 1 (aE (fC (.int 7)) aNil))))) (zA4 (fV 6) (zA4 (fV 7) fNil)))))))))))))
def zDS:VFun:=runV 9 [1,3] zHY
def zCC:VS:=
   (sSeq (sSet 10 (xV (f2 zCJ (f2 zQL (fV 3) (fV 9)) (zAI 3 [1] zAP (aE (fV 0) (aO 1 (aE (fLst (zA4 (fC (.int 1)) (zA4 (fC (.int 1)) (zA4 (fC (.int 1)) (zA4 (fC (.int 1)) (zA4 (f1 oNeg (fC (.int 1))) (zA4 (fC (.int 0)) (zA4 (fC (.int 2)) fNil)))))))) aNil)))))))
   (sMut 8 mApp (zA4 (fIf (bAnd (fB (f3 oLe oLt (fC (.int 0)) (fV 10) (f1 oLen (fV 3)))) (fB (f2 oNe (f2 oIxA (fV 3) (fV 10)) (f2 oSub (f1 oLen (fV 2)) (fC (.int 1)))))) (f2 oIxA (fV 3) (fV 10)) (fV 9)) fNil)))
def zEL:VS:=
   (sSeq (sSet 6 (xV (f2 oIxA (fV 2) (f1 oNeg (fC (.int 1))))))
   (sSeq (sSet 7 (xV (fIf (fB (f2 (oInD false) (f2 oIxA (fV 6) (fC (.int 0))) (fTup (zA4 (fC (.str "load")) (zA4 (fC (.str "take")) (zA4 (fC (.str "store")) (zA4 (fC (.str "put")) fNil))))))) (fC (.int 2)) (fC (.int 1)))))
   (sSeq (sSet 8 (xO (fLst fNil)))
   (sSeq (sFor (iSeq (fSl (fV 6) (pSo (fV 7)) pNo)) (gN 9)
   zCC)
   (sSeq (sIf (fB (f2 oEq (fV 7) (fC (.int 1))))
   (sRet (f2 zCJ (fSl (fV 6) pNo (pSo (fC (.int 1)))) (f1 zGS (fO 8))))
   sNil)
   (sSeq (zPM 4 (f2 oIxA (fV 6) (fC (.int 0))) (f2 oMod (f2 zCJ (f2 oIxA (fV 6) (fC (.int 1))) (fC (.int 1))) (fV 5)))
   (sRet (f2 zCJ (fTup (zA4 (f2 oIxA (fV 6) (fC (.int 0))) (zA4 (f2 oIxA (fO 4) (f2 oIxA (fV 6) (fC (.int 0)))) fNil))) (f1 zGS (fO 8))))))))))
def zBX:VFun:=runV 11 [1,4] zEL
def zCB:VS:=
   (sIf (bAnd (fB (f2 oLt (f1 oLen (fO 4)) (fV 2))) (fB (f2 oNe (f2 oIxA (f2 oIxA (fO 4) (f1 oNeg (fC (.int 1)))) (fC (.int 0))) (fC (.str "number")))))
   (sSeq (sMut 4 mApp (zA4 (zAI 6 [1,4] zBX (aE (fV 0) (aO 1 (aO 4 (aO 5 (aO 6 (aE (fV 3) aNil))))))) fNil))
   (sIf (fB (f2 (oInD true) (f2 oIxA (f2 oIxA (fO 4) (f1 oNeg (fC (.int 1)))) (fC (.int 0))) (fTup (zA4 (fC (.str "store")) (zA4 (fC (.str "put")) fNil)))))
   (sMut 5 mApp (zA4 (f2 oSub (f1 oLen (fO 4)) (fC (.int 1))) fNil))
   sNil))
   sNil)
def zDJ:VS:=
   (sSeq (sMut 4 mApp (zA4 (zAI 5 [1,3] zDS (aE (fV 0) (aO 1 (aO 5 (aO 6 (aE (fV 3) aNil)))))) fNil))
   (sSeq (sIf (fB (f2 (oInD true) (f2 oIxA (f2 oIxA (fO 4) (f1 oNeg (fC (.int 1)))) (fC (.int 0))) (fTup (zA4 (fC (.str "store")) (zA4 (fC (.str "put")) fNil)))))
   (sMut 5 mApp (zA4 (f2 oSub (f1 oLen (fO 4)) (fC (.int 1))) fNil))
   sNil)
   (sFor (iR1 (zAI 3 [1] zAP (aE (fV 0) (aO 1 (aE (fLst (zA4 (fC (.int 0)) (zA4 (fC (.int 1)) (zA4 (fC (.int 1)) (zA4 (fC (.int 2)) (zA4 (fC (.int 3)) fNil)))))) aNil))))) (gN 7)
   zCB)))
def zG6:VS:=
   (sSeq (zLI 4 5 6 (xO (fLst fNil)) (xO (fLst fNil)) (xO (fC (.dct [] []))))
   (sSeq (zHI (fB (f2 oLt (f1 oLen (fO 4)) (fV 2)))
   zDJ)
   (sRet (f1 zGS (fO 4)))))
def zD6:VFun:=runV 8 [1] zG6
def zHZ:VS:=
   (sSeq (sIf (fB (f2 oEq (f2 oIxA (fV 0) (fC (.int 0))) (fC (.str "number"))))
   (sRet (fLst fNil))
   sNil)
   (sRet (fIf (fB (f2 (oInD false) (f2 oIxA (fV 0) (fC (.int 0))) (fTup (zA4 (fC (.str "load")) (zA4 (fC (.str "take")) (zA4 (fC (.str "store")) (zA4 (fC (.str "put")) fNil))))))) (f1 zKJ (fSl (fV 0) (pSo (fC (.int 2))) pNo)) (f1 zKJ (fSl (fV 0) (pSo (fC (.int 1))) pNo)))))
def zB6:VFun:=runV 1 [] zHZ
def zI0:VS:=
   (sSeq (sSet 2 (xV (f2 oIxA (f2 oIxA (fV 0) (fC (.int 1))) (fV 1))))
   (sSeq (sIf (fB (f2 (oInD false) (f2 oIxA (fV 2) (fC (.int 0))) (fTup (zA4 (fC (.str "load")) (zA4 (fC (.str "take")) (zA4 (fC (.str "store")) (zA4 (fC (.str "put")) fNil)))))))
   (sRet (f2 oGe (f2 oIxA (fV 2) (fC (.int 1))) (f2 oIxA (fV 0) (fC (.int 0)))))
   sNil)
   (sRet (fAnd (f2 oEq (f2 oIxA (fV 2) (fC (.int 0))) (fC (.str "over"))) (f2 (oInD true) (fSl (f2 oIxA (f2 oIxA (fV 0) (fC (.int 1))) (f2 oIxA (fV 2) (fC (.int 2)))) pNo (pSo (fC (.int 2)))) (zCV [] 1 (iR2 (fC (.int 1)) (fC (.int 1000))) (gN 0) bYes (fTup (zA4 (fC (.str "number")) (zA4 (fV 0) fNil)))))))))
def zCL:VFun:=runV 3 [] zI0
def zDL:VS:=
   (sSeq (sSet 7 (xV (zCV [] 1 (iSeq (fTup (zA4 (fV 6) (zA4 (fV 4) fNil)))) (gN 0) (fB (f2 (oInD false) (f2 oIxA (fV 0) (fC (.int 0))) (fTup (zA4 (fC (.str "store")) (zA4 (fC (.str "put")) fNil))))) (fV 0))))
   (sSeq (sSet 8 (xO (fLst (zA4 (f2 (oInD false) (fV 5) (zAI 1 [] zB6 (aE (fV 4) aNil))) (zA4 (fAnd (zAI 2 [] zCL (aE (fV 0) (aE (fV 5) aNil))) (zAI 2 [] zCL (aE (fV 0) (aE (fV 3) aNil)))) fNil)))))
   (sSeq (sMut 8 mApp (zA4 (fAnd (f2 (oInD false) (f2 oIxA (fV 6) (fC (.int 0))) (fV 2)) (fAnd (f2 (oInD false) (f2 oIxA (fV 4) (fC (.int 0))) (fV 2)) (fAnd (f2 oEq (f2 oIxA (fV 6) (fC (.int 1))) (f2 oIxA (fV 4) (fC (.int 1)))) (f2 oNe (fV 7) (fLst fNil))))) fNil))
   (sSeq (sMut 8 mApp (zA4 (fAnd (zAI 2 [] zCL (aE (fV 0) (aE (fV 5) aNil))) (f2 (oInD false) (f2 oIxA (fV 4) (fC (.int 0))) (fTup (zA4 (fC (.str "store")) (zA4 (fC (.str "put")) fNil))))) fNil))
   (sSeq (sMut 8 mApp (zA4 (fAnd (zAI 2 [] zCL (aE (fV 0) (aE (fV 3) aNil))) (f2 (oInD false) (f2 oIxA (fV 6) (fC (.int 0))) (fTup (zA4 (fC (.str "store")) (zA4 (fC (.str "put")) fNil))))) fNil))
   (sIf (fB (f2 (oInD false) (fC (.bl true)) (fO 8)))
   (sMut 1 mApp (zA4 (fTup (zA4 (fV 5) (zA4 (fV 3) fNil))) fNil))
   sNil))))))
def zDK:VS:=
   (sFor (zJH (fSl (f2 oIxA (fV 0) (fC (.int 1))) pNo (pSo (fV 3)))) (gTp 2 (zAT (gN 5) (zAT (gN 6) zDO)))
   zDL)
def zG8:VS:=
   (sSeq (zLJ 1 2 (xO (fLst fNil)) (xV (fTup (zA4 (fC (.str "load")) (zA4 (fC (.str "take")) (zA4 (fC (.str "store")) (zA4 (fC (.str "put")) fNil)))))))
   (sSeq (sFor (zJH (f2 oIxA (fV 0) (fC (.int 1)))) (gTp 2 (zAT (gN 3) (zAT (gN 4) zDO)))
   zDK)
   (sRet (f1 zQJ (fO 1)))))
def zD7:VFun:=runV 9 [] zG8
def zBQ:VS:=
   (sSeq (sSet 6 (xV (zCV [3,4] 1 (iSeq (fO 4)) (gN 2) (fB (f2 oEq (zCV [1,2] 2 (iSeq (fV 0)) (gTp 2 (zAT (gN 2) (zAT (gN 3) zDO))) (bAnd (fB (f2 oEq (fV 3) (fV 1))) (fB (f2 (oInD false) (fV 2) (fO 0)))) (fC (.int 1))) (fLst fNil))) (fV 2))))
   (sSeq (sMut 5 mApp (zA4 (zAI 3 [1] zAP (aE (fV 0) (aO 1 (aE (fV 6) aNil)))) fNil))
   (sMut 4 mRem (zA4 (f2 oIxA (fO 5) (f1 oNeg (fC (.int 1)))) fNil))))
def zCQ:VS:=
   (sSeq (zLI 3 4 5 (xV (zAI 1 [] zD7 (aE (fV 2) aNil))) (xO (zGD (f1 oLen (f2 oIxA (fV 2) (fC (.int 1)))))) (xO (fLst fNil)))
   (sSeq (zHI (fB (f2 oNe (fO 4) (fLst fNil)))
   zBQ)
   (sRet (fO 5))))
def zBD:VFun:=runV 7 [1] zCQ
def zBB:VS:=
   (sSeq (sIf (fB (f2 oEq (f2 oIxA (fV 0) (fC (.int 0))) (fC (.str "number"))))
   (sRet (fV 0))
   sNil)
   (sSeq (sSet 2 (xV (fIf (fB (f2 (oInD false) (f2 oIxA (fV 0) (fC (.int 0))) (fTup (zA4 (fC (.str "load")) (zA4 (fC (.str "take")) (zA4 (fC (.str "store")) (zA4 (fC (.str "put")) fNil))))))) (fC (.int 2)) (fC (.int 1)))))
   (sRet (f2 zCJ (fSl (fV 0) pNo (pSo (fV 2))) (f1 zGS (zCV [1] 1 (iSeq (fSl (fV 0) (pSo (fV 2)) pNo)) (gN 1) bYes (f2 oIxA (fV 0) (fV 1))))))))
def zAL:VFun:=runV 3 [] zBB
def zDY:VS:=
   (sSeq (sSet 3 (xV (zAI 3 [1] zAP (aE (fV 0) (aO 1 (aE (fLst (zA4 (fC (.int 3)) (zA4 (fC (.int 6)) (zA4 (fC (.int 9)) (zA4 (fC (.int 64)) fNil))))) aNil))))))
   (sSeq (sSet 4 (xV (zAI 3 [1] zAP (aE (fV 0) (aO 1 (aE (fLst (zA4 (fC (.int 0)) (zA4 (fV 3) (zA4 (fV 3) (zA4 (zAI 3 [1] zAK (aE (fV 0) (aO 1 (aE (f2 zCJ (fV 3) (fC (.int 1))) aNil)))) fNil))))) aNil))))))
   (sSeq (sSet 5 (xV (fTup (zA4 (fV 4) (zA4 (zAI 4 [1] zD6 (aE (fV 0) (aO 1 (aE (zAI 3 [1] zAK (aE (fV 0) (aO 1 (aE (f2 zCJ (fV 2) (fC (.int 1))) aNil)))) (aE (fV 3) aNil))))) fNil)))))
   (sSeq (sIf (fB (f2 oGt (zAI 3 [1] zAK (aE (fV 0) (aO 1 (aE (fC (.int 3)) aNil)))) (fC (.int 0))))
   (sRet (fV 5))
   sNil)
   (sSeq (sSet 6 (xV (zAI 3 [1] zBD (aE (fV 0) (aO 1 (aE (fV 5) aNil))))))
   (sSeq (sSet 7 (xV (f1 zTB (zCV [] 2 (zJH (fV 6)) (gTp 2 (zAT (gN 0) (zAT (gN 1) zDO))) bYes (fTup (zA4 (fV 1) (zA4 (fV 0) fNil)))))))
   (sRet (fTup (zA4 (fV 4) (zA4 (f1 zGS (zCV [5,7] 1 (iSeq (fV 6)) (gN 2) bYes (zAI 2 [] zAL (aE (f2 oIxA (f2 oIxA (fV 0) (fC (.int 1))) (fV 2)) (aE (fV 1) aNil))))) fNil))))))))))
def zC9:VFun:=runV 8 [1] zDY
def zF2:VS:=
   (sSeq (sSet 3 (xV (zAI 3 [1] zAP (aE (fV 0) (aO 1 (aE (fLst (zA4 (fV 2) (zA4 (f2 oMin (fC (.int 64)) (f2 zCJ (fV 2) (zAI 3 [1] zAK (aE (fV 0) (aO 1 (aE (fC (.int 9)) aNil)))))) (zA4 (fC (.int 64)) fNil)))) aNil))))))
   (sSeq (sSet 4 (xV (zAI 3 [1] zAP (aE (fV 0) (aO 1 (aE (fLst (zA4 (fC (.int 2)) (zA4 (fC (.int 4)) (zA4 (fC (.int 1000)) fNil)))) aNil))))))
   (sRet (zCV [0,1,4] 1 (iR1 (fV 3)) (gN 3) bYes (zAI 3 [1] zAK (aE (fV 0) (aO 1 (aE (fV 2) aNil))))))))
def zCT:VFun:=runV 5 [1] zF2
def zEM:VS:=
   (sSeq (sIf (fB (f2 oEq (fV 0) (fC (.str "pick"))))
   (sRet (fIf (fB (f2 oEq (f2 oIxA (fV 1) (fC (.int 0))) (fC (.int 0)))) (f2 oIxA (fV 1) (fC (.int 2))) (f2 oIxA (fV 1) (fC (.int 1)))))
   sNil)
   (sSeq (sAsg (fV 1) (gTp 2 (zAT (gN 2) (zAT (gN 3) zDO))))
   (sSeq (sIf (fB (f2 (oInD false) (fV 0) (fTup (zA4 (fC (.str "least")) (zA4 (fC (.str "most")) fNil)))))
   (sRet (f2 oIxA (f1 zQK (fV 1)) (fIf (fB (f2 oEq (fV 0) (fC (.str "least")))) (fC (.int 0)) (fC (.int 1)))))
   sNil)
   (sSeq (sIf (fB (f2 oEq (fV 0) (fC (.str "less"))))
   (sRet (fIf (fB (f2 oGt (fV 3) (fV 2))) (fC (.int 1)) (fC (.int 0))))
   sNil)
   (sSeq (sIf (fB (f2 oEq (fV 0) (fC (.str "over"))))
   (sRet (fIf (fB (f2 oEq (fV 3) (fC (.int 0)))) (fC .non) (zNK (fV 3) (f2 zCJ (fV 2) (fC (.int 1))) (fV 3))))
   sNil)
   (sSeq (sSet 4 (xV (f2 oIxA (zTP (zIG (fC (.str "plus")) (f2 zCJ (fV 2) (fV 3)) (zIG (fC (.str "minus")) (f2 oSub (f2 zCJ (fV 2) (fC (.int 1000))) (fV 3)) (zIG (fC (.str "times")) (f2 zGT (fV 2) (fV 3)) zVS)))) (fV 0))))
   (sRet (f2 oSub (fV 4) (f2 zGT (f2 zO9 (fV 4) (fC (.int 1000))) (fC (.int 1000)))))))))))
def zCF:VFun:=runV 5 [] zEM
def zB2:VS:=
   (sSeq (sIf (fB (f2 (oInD true) (f2 oIxA (fV 0) (fC (.int 0))) (fTup (zA4 (fC (.str "load")) (zA4 (fC (.str "take")) (zA4 (fC (.str "store")) (zA4 (fC (.str "put")) fNil)))))))
   (sSeq (sSet 4 (xV (zAI 2 [] zCF (aE (f2 oIxA (fV 0) (fC (.int 0))) (aE (fV 2) aNil)))))
   (sRet (fTup (zA4 (fV 4) (zA4 (fIf (fB (f2 oIsN (fV 4) (fC .non))) (fC (.str "nought")) (fC .non)) fNil)))))
   sNil)
   (sSeq (sSet 5 (xV (f2 zCJ (f2 oIxA (fV 0) (fC (.int 1))) (fV 1))))
   (sSeq (sIf (bAnd (fB (f2 oEq (f2 oIxA (fV 0) (fC (.int 0))) (fC (.str "take")))) (fB (f2 oEq (f2 oIxA (fV 2) (fC (.int 0))) (fC (.int 0)))))
   (sRet (fTup (zA4 (f2 oIxA (fV 2) (fC (.int 1))) (zA4 (fC .non) fNil))))
   sNil)
   (sSeq (sIf (bAnd (fB (f2 oEq (f2 oIxA (fV 0) (fC (.int 0))) (fC (.str "put")))) (fB (f2 oEq (f2 oIxA (fV 2) (fC (.int 1))) (fC (.int 0)))))
   (sRet (fTup (zA4 (fC .non) (zA4 (fC .non) fNil))))
   sNil)
   (sSeq (sIf (fB (f2 oGe (fV 5) (f1 oLen (fO 3))))
   (sRet (fTup (zA4 (fC .non) (zA4 (fC (.str "beyond")) fNil))))
   sNil)
   (sSeq (sIf (fB (f2 (oInD false) (f2 oIxA (fV 0) (fC (.int 0))) (fTup (zA4 (fC (.str "load")) (zA4 (fC (.str "take")) fNil)))))
   (sRet (fTup (zA4 (f2 oIxA (fO 3) (fV 5)) (zA4 (fC .non) fNil))))
   sNil)
   (sSeq (zPJ 3 (fV 5) (f2 oIxA (fV 2) (fC (.int 0))))
   (sRet (fTup (zA4 (fC .non) (zA4 (fC .non) fNil)))))))))))
def zAS:VFun:=runV 6 [3] zB2
def zBN:VS:=
   (sIf (fB (f2 oEq (f2 oIxA (fV 4) (fC (.int 0))) (fC (.str "number"))))
   (sMut 2 mApp (zA4 (f2 oIxA (fV 4) (fC (.int 1))) fNil))
   (sSeq (sAsg (zAI 4 [3] zAS (aE (fV 4) (aE (fC (.int 0)) (aE (zCV [2] 1 (iSeq (zAI 1 [] zB6 (aE (fV 4) aNil))) (gN 1) bYes (f2 oIxA (fO 0) (fV 1))) (aO 1 aNil))))) (gTp 2 (zAT (gN 5) (zAT (gN 6) zDO))))
   (sSeq (sIf (fB (f2 zJE (fV 6) (fC .non)))
   (sRet (fTup (zA4 (fO 1) (zA4 (fO 2) (zA4 (fTup (zA4 (fV 3) (zA4 (fV 6) fNil))) fNil)))))
   sNil)
   (sMut 2 mApp (zA4 (fV 5) fNil)))))
def zEK:VS:=
   (sSeq (zLJ 1 2 (xO (f1 zKJ (fO 1))) (xO (fLst fNil)))
   (sSeq (sFor (zJH (fV 0)) (gTp 2 (zAT (gN 3) (zAT (gN 4) zDO)))
   zBN)
   (sRet (fTup (zA4 (fO 1) (zA4 (fO 2) (zA4 (fC .non) fNil)))))))
def zCE:VFun:=runV 7 [] zEK
def zWU:VS:=
   (sSeq (sSet 1 (xO (fLst fNil)))
   (sSeq (sSet 2 (xV (zAI 3 [1] zC9 (aE (fV 0) (aO 1 (aE (fC (.int 20)) aNil))))))
   (sSeq (sSet 3 (xV (zAI 3 [1] zCT (aE (fV 0) (aO 1 (aE (f2 oIxA (fV 2) (fC (.int 0))) aNil))))))
   (sSeq (sSet 4 (xV (f1 zKJ (fV 3))))
   (sSeq (sAsg (zAI 2 [] zCE (aE (f2 oIxA (fV 2) (fC (.int 1))) (aE (fV 3) aNil))) (gTp 3 (zAT (gN 5) (zAT (gN 6) (zAT (gN 7) zDO)))))
   (sSeq (sIf (bOr (fB (f2 oNe (zAI 2 [] zJT (aE (fV 2) (aE (fV 3) aNil))) (fTup (zA4 (fV 5) (zA4 (fV 7) fNil))))) (bOr (fB (f2 oNe (zAI 2 [] zDN (aE (fV 2) (aE (fV 3) aNil))) (fV 6))) (fB (f2 oNe (fV 3) (fV 4)))))
   (sRet (fC (.bl false)))
   sNil)
   (sSeq (sIf (fB (f2 oIsN (fV 7) (fC .non)))
   (sRet (f2 oEq (f1 oLen (fV 6)) (f1 oLen (f2 oIxA (fV 2) (fC (.int 1))))))
   sNil)
   (sRet (fAnd (f2 oEq (f1 oLen (fV 6)) (f2 oIxA (fV 7) (fC (.int 0)))) (f2 oEq (zAI 2 [] zJT (aE (fTup (zA4 (f2 oIxA (fV 2) (fC (.int 0))) (zA4 (fSl (f2 oIxA (fV 2) (fC (.int 1))) pNo (pSo (f2 oIxA (fV 7) (fC (.int 0))))) fNil))) (aE (fV 3) aNil))) (fTup (zA4 (fV 5) (zA4 (fC .non) fNil)))))))))))))
def zOL:VFun:=runV 8 [] zWU
end L2
namespace RR
open PySem L2
structure Txt(K:Ad)(mg:Str->Option Value):Prop where
 fnm: ∀x a,Hz K mainGlobals x=some (some (.ref a))->mg x=some (.ref a)
 n_len:mg "len"=none
 n_range:mg "range"=none
 n_min:mg "min"=none
 n_max:mg "max"=none
 zDF:mg "list"=none
 n_tuple:mg "tuple"=none
 n_sorted:mg "sorted"=none
 n_isinstance:mg "isinstance"=none
 n_bool:mg "bool"=none
 n_int:mg "int"=none
 n_str:mg "str"=none
 n_enumerate:mg "enumerate"=none
 n_zip:mg "zip"=none
 n_all:mg "all"=none
 n_dict:mg "dict"=none
 v_DEEDS: ∃u v,mg "DEEDS"=some u/\RelV v u/\ ∀N H M,Rep K N H M v zRR
 v_DEED_PARTS: ∃u v,mg "DEED_PARTS"=some u/\RelV v u/\ ∀N H M,Rep K N H M v zGW
 v_MADE: ∃u v,mg "MADE"=some u/\RelV v u/\ ∀N H M,Rep K N H M v zES
 v_MOST_CELLS: ∃u v,mg "MOST_CELLS"=some u/\RelV v u/\ ∀N H M,Rep K N H M v zED
 v_MOST_PLACE: ∃u v,mg "MOST_PLACE"=some u/\RelV v u/\ ∀N H M,Rep K N H M v zEC
 v_MOST_ROWS: ∃u v,mg "MOST_ROWS"=some u/\RelV v u/\ ∀N H M,Rep K N H M v zF6
 v_MOST_SURE: ∃u v,mg "MOST_SURE"=some u/\RelV v u/\ ∀N H M,Rep K N H M v zF5
 v_MOST_WORD: ∃u v,mg "MOST_WORD"=some u/\RelV v u/\ ∀N H M,Rep K N H M v zB5
 v_OTHER_PARTS: ∃u v,mg "OTHER_PARTS"=some u/\RelV v u/\ ∀N H M,Rep K N H M v zFV
 v_READERS: ∃u v,mg "READERS"=some u/\RelV v u/\ ∀N H M,Rep K N H M v zCW
 v_WRITERS: ∃u v,mg "WRITERS"=some u/\RelV v u/\ ∀N H M,Rep K N H M v zB0
section
variable{P:Aw}{w:World}{K:Ad}{mg:Str->Option Value}{base:Heap}{f:Addr}{fd:D9}
noncomputable abbrev Nx0:List Str:=["thing","low","high"]
noncomputable abbrev Qx0:List Str:=["thing","low","high"]
theorem yCK:zAF Nx0 Qx0 (zA6 (top 7)):=mkSc
theorem yDW(F:Fun K "is_whole" "is_whole" (top 7) f fd) (T:Txt K mg):
  FnOk P w K mg base CX0 1 f fd Qx0 (spV K [] 3 zB3):=
 okW P w K mg base Nx0 Qx0 0 zGA [] F yCK fun _ _ _ _ _ _ hr hu hu1=>by
  refine(zA1 ?_ (zA3 ?_))
  ·exact(zAZ (vt_w (zI9 (zE0 (visi T.n_isinstance (vv 0) (vty T.n_bool zX1))) (zFA (zE4 (zE0 (visi T.n_isinstance (vv 0) (vty T.n_int yBF)))))))
   (zA3 (zAB zGZ))
   zAE)
  ·exact(zAB (zS8 zQH zQH s_le s_le (vv 1) (vv 0) (vv 2)))
noncomputable abbrev Nx1:List Str:=["a","b"]
noncomputable abbrev Qx1:List Str:=["a","b"]
theorem yCJ:zAF Nx1 Qx1 (zA6 (top 8)):=mkSc
theorem yDV(F:Fun K "plus" "plus" (top 8) f fd) (T:Txt K mg):
  FnOk P w K mg base CX0 1 f fd Qx1 (spV K [] 2 zIV):=
 okW P w K mg base Nx1 Qx1 0 zR3 [] F yCJ fun _ _ _ _ _ _ hr hu hu1=>by exact(zA3 (zAB (zCX zE6 zHH (zBJ (zDD (K:=K) rfl) zC0 (vv 0) (vv 1)) (zBJ (zDD (K:=K) rfl) zC0 (zBK (by rfl) T.v_MOST_WORD) zA2))))
noncomputable abbrev Nx2:List Str:=["a","b"]
noncomputable abbrev Qx2:List Str:=["a","b"]
theorem yCI:zAF Nx2 Qx2 (zA6 (top 9)):=mkSc
theorem yDU(F:Fun K "minus" "minus" (top 9) f fd) (T:Txt K mg):
  FnOk P w K mg base CX0 1 f fd Qx2 (spV K [] 2 zGJ):=
 okW P w K mg base Nx2 Qx2 0 zLW [] F yCI fun _ _ _ _ _ _ hr hu hu1=>by exact(zA3 (zAB (zCX zE6 zHH (zCX zFK zJ8 (vv 0) (vv 1)) (zBJ (zDD (K:=K) rfl) zC0 (zBK (by rfl) T.v_MOST_WORD) zA2))))
noncomputable abbrev Nx3:List Str:=["a","b"]
noncomputable abbrev Qx3:List Str:=["a","b"]
theorem yCH:zAF Nx3 Qx3 (zA6 (top 10)):=mkSc
theorem yDT(F:Fun K "times" "times" (top 10) f fd) (T:Txt K mg):
  FnOk P w K mg base CX0 1 f fd Qx3 (spV K [] 2 zGI):=
 okW P w K mg base Nx3 Qx3 0 zLV [] F yCH fun _ _ _ _ _ _ hr hu hu1=>by exact(zA3 (zAB (zCX zE6 zHH (zBJ (zHT (K:=K) rfl) zF4 (vv 0) (vv 1)) (zBJ (zDD (K:=K) rfl) zC0 (zBK (by rfl) T.v_MOST_WORD) zA2))))
noncomputable abbrev Nx4:List Str:=["a","b"]
noncomputable abbrev Qx4:List Str:=["a","b"]
theorem yCG:zAF Nx4 Qx4 (zA6 (top 11)):=mkSc
theorem yDS(F:Fun K "least" "least" (top 11) f fd) (T:Txt K mg):
  FnOk P w K mg base CX0 1 f fd Qx4 (spV K [] 2 zGK):=
 okW P w K mg base Nx4 Qx4 0 zLX [] F yCG fun _ _ _ _ _ _ hr hu hu1=>by exact(zA3 (zAB (zNX (zI6 rfl) zVG (by rfl) T.n_min zRS (vv 0) (vv 1))))
noncomputable abbrev Nx5:List Str:=["a","b"]
noncomputable abbrev Qx5:List Str:=["a","b"]
theorem yCF:zAF Nx5 Qx5 (zA6 (top 12)):=mkSc
theorem yDR(F:Fun K "most" "most" (top 12) f fd) (T:Txt K mg):
  FnOk P w K mg base CX0 1 f fd Qx5 (spV K [] 2 zIX):=
 okW P w K mg base Nx5 Qx5 0 zR5 [] F yCF fun _ _ _ _ _ _ hr hu hu1=>by exact(zA3 (zAB (zNX (zL3 rfl) zY2 (by rfl) T.n_max zUS (vv 0) (vv 1))))
noncomputable abbrev Nx6:List Str:=["a","b"]
noncomputable abbrev Qx6:List Str:=["a","b"]
theorem yCE:zAF Nx6 Qx6 (zA6 (top 13)):=mkSc
theorem yDQ(F:Fun K "less" "less" (top 13) f fd) (T:Txt K mg):
  FnOk P w K mg base CX0 1 f fd Qx6 (spV K [] 2 zIY):=
 okW P w K mg base Nx6 Qx6 0 zR6 [] F yCE fun _ _ _ _ _ _ hr hu hu1=>by exact(zA3 (zAB (zEP (zAR zQG s_lt (vv 0) (vv 1) (zBF _)) zA2 zA2)))
noncomputable abbrev Nx7:List Str:=["a","b"]
noncomputable abbrev Qx7:List Str:=["a","b"]
theorem yCD:zAF Nx7 Qx7 (zA6 (top 14)):=mkSc
theorem yDP(F:Fun K "over" "over" (top 14) f fd) (T:Txt K mg):
  FnOk P w K mg base CX0 1 f fd Qx7 (spV K [] 2 zGX):=
 okW P w K mg base Nx7 Qx7 0 zNG [] F yCD fun _ _ _ _ _ _ hr hu hu1=>by exact(zA3 (zAB (zEP (vteq hu (vv 1) zA2) zBI (zCX zJD zMR (vv 0) (vv 1)))))
noncomputable abbrev Nx8:List Str:=["c","a","b"]
noncomputable abbrev Qx8:List Str:=["c","a","b"]
theorem yCC:zAF Nx8 Qx8 (zA6 (top 15)):=mkSc
theorem yDO(F:Fun K "pick" "pick" (top 15) f fd) (T:Txt K mg):
  FnOk P w K mg base CX0 1 f fd Qx8 (spV K [] 3 zIW):=
 okW P w K mg base Nx8 Qx8 0 zR4 [] F yCC fun _ _ _ _ _ _ hr hu hu1=>by exact(zA3 (zAB (zEP (zAR (kNeD (K:=K) rfl hu) s_ne (vv 0) zA2 (zBF _)) (vv 1) (vv 2))))
noncomputable abbrev Nx9:List Str:=["deed","words","made"]
noncomputable abbrev Qx9:List Str:=["deed","words"]
theorem zXO:zAF Nx9 Qx9 (zA6 (top 17)):=mkSc
theorem yDN(F:Fun K "done" "done" (top 17) f fd) (T:Txt K mg) (im:DefV P w K mg base "plus" 1 Qx1 [] zIV f_x1) (il:DefV P w K mg base "minus" 1 Qx2 [] zGJ f_x2) (ik:DefV P w K mg base "times" 1 Qx3 [] zGI f_x3) (ij:DefV P w K mg base "least" 1 Qx4 [] zGK f_x4) (ii:DefV P w K mg base "most" 1 Qx5 [] zIX f_x5) (ig:DefV P w K mg base "less" 1 Qx6 [] zIY f_x6) (i9:DefV P w K mg base "over" 1 Qx7 [] zGX f_x7) (i8:DefV P w K mg base "pick" 1 Qx8 [] zIW f_x8):
  FnOk P w K mg base CX0 2 f fd Qx9 (spV K [] 2 zGY):=
 okW P w K mg base Nx9 Qx9 1 zNH [] F zXO fun _ _ _ _ _ _ hr hu hu1=>by
  refine(zA1 ?_ (zA1 ?_ (zA3 ?_)))
  ·exact(zAZ (vteq hu (vv 0) zAD)
   (zA3 (zAB (vcal i8 hr (zA8 (zA7 (vix hu1 (vv 1) zA2)) (zA8 (zA7 (vix hu1 (vv 1) zA2)) (zA8 (zA7 (vix hu1 (vv 1) zA2)) zA9))))))
   zAE)
  ·exact(zB7 zXO.nd (zCG (zA7 (vix hu1 (zBK (by rfl) T.v_MADE) (vv 0)))))
  ·exact(zAB (zSA (zDU (K:=K) rfl T.fnm hr im (by decide) (zDU (K:=K) rfl T.fnm hr il (by decide) (zDU (K:=K) rfl T.fnm hr ik (by decide) (zDU (K:=K) rfl T.fnm hr ij (by decide) (zDU (K:=K) rfl T.fnm hr ii (by decide) (zDU (K:=K) rfl T.fnm hr ig (by decide) (zDU (K:=K) rfl T.fnm hr i9 (by decide) zV9))))))) (pv 2) (zA8 (zA7 (vix hu1 (vv 1) zA2)) (zA8 (zA7 (vix hu1 (vv 1) zA2)) zA9))))
noncomputable abbrev Nx10:List Str:=["deed"]
noncomputable abbrev Qx10:List Str:=["deed"]
theorem zY1:zAF Nx10 Qx10 (zA6 (top 26)):=mkSc
theorem yA6(F:Fun K "parts_of" "parts_of" (top 26) f fd) (T:Txt K mg):
  FnOk P w K mg base CX0 1 f fd Qx10 (spV K [] 1 zBC):=
 okW P w K mg base Nx10 Qx10 0 zIQ [] F zY1 fun _ _ _ _ _ _ hr hu hu1=>by
  refine(zA1 ?_ (zA3 ?_))
  ·exact (zAZ (zAR (kInD (K := K) rfl hu) (zCY (neg := false)) (vv 0) (zBK (by rfl) T.v_DEEDS) (by with_unfolding_all rfl))
   (zA3 (zAB (zBK (by rfl) T.v_DEED_PARTS)))
   zAE)
  ·exact(zAB (zV6 rfl hu1 (zBK (by rfl) T.v_OTHER_PARTS) (vv 0) ⟨rfl,rfl,rfl,rfl⟩))
noncomputable abbrev Nx11:List Str:=["row"]
noncomputable abbrev Qx11:List Str:=["row"]
theorem zY0:zAF Nx11 Qx11 (zA6 (top 27)):=mkSc
theorem yA5(F:Fun K "makes_word" "makes_word" (top 27) f fd) (T:Txt K mg):
  FnOk P w K mg base CX0 1 f fd Qx11 (spV K [] 1 zCD):=
 okW P w K mg base Nx11 Qx11 0 zEA [] F zY0 fun _ _ _ _ _ _ hr hu hu1=>by exact(zA3 (zAB (zE1 (zHU (K:=K) rfl hu) (zCY (neg:=true)) (vix hu1 (vv 0) zA2) (zBK (by rfl) T.v_WRITERS) (by with_unfolding_all rfl))))
noncomputable abbrev Nx12:List Str:=["row"]
noncomputable abbrev Qx12:List Str:=["row"]
theorem zXZ:zAF Nx12 Qx12 (zA6 (top 28)):=mkSc
theorem yA4(F:Fun K "place_of" "place_of" (top 28) f fd) (T:Txt K mg):
  FnOk P w K mg base CX0 1 f fd Qx12 (spV K [] 1 zAU):=
 okW P w K mg base Nx12 Qx12 0 zCA [] F zXZ fun _ _ _ _ _ _ hr hu hu1=>by exact(zA3 (zAB (zEP (vt_w (zI9 (zAR (kInD (K:=K) rfl hu) (zCY (neg:=false)) (vix hu1 (vv 0) zA2) (zBK (by rfl) T.v_READERS) (by with_unfolding_all rfl)) (zFA (zAR (kInD (K:=K) rfl hu) (zCY (neg:=false)) (vix hu1 (vv 0) zA2) (zBK (by rfl) T.v_WRITERS) (by with_unfolding_all rfl))))) (vix hu1 (vv 0) zA2) zBI)))
noncomputable abbrev Nx13:List Str:=["row","deed","rest"]
noncomputable abbrev Qx13:List Str:=["row"]
theorem zU2:zAF Nx13 Qx13 (zA6 (top 29)):=mkSc
theorem yA3(F:Fun K "names_of" "names_of" (top 29) f fd) (T:Txt K mg) (br:DefV P w K mg base "parts_of" 1 Qx10 [] zBC f_x10):
  FnOk P w K mg base CX0 2 f fd Qx13 (spV K [] 1 zD4):=
 okW P w K mg base Nx13 Qx13 1 zIR [] F zU2 fun _ _ _ _ _ _ hr hu hu1=>by
  refine(zA1 ?_ (zA3 ?_))
  ·exact(zOO (i:=1) (j:=2) rfl rfl zU2.nd rfl rfl (by decide) (Hx rfl) (Hx rfl) (vv 0))
  ·exact(zAB (zB1 (zC5 ["part","given"] [] 2 (zTX rfl (by rfl) T.n_zip (zA7 (vcal br hr (zA8 (vv 1) zA9))) (vv 2)) (fun hn _ _ _ _=>⟨(zD0 (K:=K) rfl rfl (zAJ (zAG hn) (zAJ (zAG hn) zC1))),(zMF (vteq hu (vv 0) zAD)),(vv 1)⟩))))
noncomputable abbrev Nx14:List Str:=["thing","able"]
noncomputable abbrev Qx14:List Str:=["thing","able"]
theorem zXY:zAF Nx14 Qx14 (zA6 (top 30)):=mkSc
theorem yA2(F:Fun K "may_name" "may_name" (top 30) f fd) (T:Txt K mg) (b6:DefV P w K mg base "is_whole" 1 Qx0 [] zB3 f_x0):
  FnOk P w K mg base CX0 2 f fd Qx14 (spV K [] 2 zD5):=
 okW P w K mg base Nx14 Qx14 1 zG5 [] F zXY fun _ _ _ _ _ _ hr hu hu1=>by exact(zA3 (zAB (zFD (vcal b6 hr (zA8 (vv 0) (zA8 zA2 (zA8 (zA7 (zCX zFK zJ8 (vlen T.n_len (vv 1)) zA2)) zA9)))) (zHG (vix hu1 (vv 1) (vv 0))))))
noncomputable abbrev Nx15:List Str:=["part","thing","able"]
noncomputable abbrev Qx15:List Str:=["part","thing","able"]
theorem zXX:zAF Nx15 Qx15 (zA6 (top 31)):=mkSc
theorem yA1(F:Fun K "fits" "fits" (top 31) f fd) (T:Txt K mg) (b6:DefV P w K mg base "is_whole" 1 Qx0 [] zB3 f_x0) (gb:DefV P w K mg base "may_name" 2 Qx14 [] zD5 f_x14):
  FnOk P w K mg base CX0 3 f fd Qx15 (spV K [] 3 zEV):=
 okW P w K mg base Nx15 Qx15 2 zKS [] F zXX fun _ _ _ _ _ _ hr hu hu1=>by
  refine(zA1 ?_ (zA1 ?_ (zA3 ?_)))
  ·exact(zAZ (vteq hu (vv 0) zAD)
   (zA3 (zAB (vcal b6 hr (zA8 (vv 1) (zA8 zA2 (zA8 (zA7 (zBK (by rfl) T.v_MOST_WORD)) zA9))))))
   zAE)
  ·exact(zAZ (vteq hu (vv 0) zAD)
   (zA3 (zAB (vcal b6 hr (zA8 (vv 1) (zA8 zA2 (zA8 (zA7 (zBK (by rfl) T.v_MOST_PLACE)) zA9))))))
   zAE)
  ·exact(zAB (vcal gb hr (zA8 (vv 1) (zA8 (vv 2) zA9))))
noncomputable abbrev Nx16:List Str:=["thing","able","deed","rest","parts"]
noncomputable abbrev Qx16:List Str:=["thing","able"]
theorem zPH:zAF Nx16 Qx16 (zA6 (top 32)):=mkSc
theorem yA0(F:Fun K "is_row" "is_row" (top 32) f fd) (T:Txt K mg) (br:DefV P w K mg base "parts_of" 1 Qx10 [] zBC f_x10) (ga:DefV P w K mg base "fits" 3 Qx15 [] zEV f_x15):
  FnOk P w K mg base CX0 4 f fd Qx16 (spV K [] 2 zEO):=
 okW P w K mg base Nx16 Qx16 3 zJI [] F zPH fun _ _ _ _ _ _ hr hu hu1=>by
  refine(zA1 ?_ (zA1 ?_ (zA1 ?_ (zA1 ?_ (zA3 ?_)))))
  ·exact(zAZ (vt_w (zI9 (zE4 (zE0 (visi T.n_isinstance (vv 0) (vty T.n_tuple zDI)))) (zFA (vteq hu (vlen T.n_len (vv 0)) zA2))))
   (zA3 (zAB zGZ))
   zAE)
  ·exact (zOO (i := 2) (j := 3) rfl rfl zPH.nd rfl rfl (by decide) (Hx rfl) (Hx rfl) (vv 0))
  ·exact(zB7 zPH.nd (zCG (zA7 (zEP (zE0 (visi T.n_isinstance (vv 2) (vty T.n_str yBE))) (vcal br hr (zA8 (vv 2) zA9)) zBI))))
  ·exact(zAZ (vt_w (zI9 (zAR zN4 zSN (vv 4) zBI (zBF _)) (zFA (zAR (kNeD (K:=K) rfl hu) s_ne (vlen T.n_len (vv 4)) (vlen T.n_len (vv 3)) (zBF _)))))
   (zA3 (zAB zGZ))
   zAE)
  ·exact(zAB (zV8 (kAll (K:=K) rfl rfl) zY4 (by rfl) T.n_all zUU (zB1 (zC5 ["able","part","given"] [1] 2 (zTX rfl (by rfl) T.n_zip (vv 4) (vv 3)) (fun hn _ _ _ _=>⟨(zD0 (K:=K) rfl rfl (zAJ (zAG hn) (zAJ (zAG hn) zC1))),zEQ,(zA7 (vcal ga hr (zA8 (vv 1) (zA8 (vv 2) (zA8 (vv 0) zA9)))))⟩)))))
noncomputable abbrev Nx17:List Str:=["thing","sure","rows","able","row"]
noncomputable abbrev Qx17:List Str:=["thing"]
theorem zK9:zAF Nx17 Qx17 (zA6 (top 33)):=mkSc
theorem zZZ(F:Fun K "is_block" "is_block" (top 33) f fd) (T:Txt K mg) (b6:DefV P w K mg base "is_whole" 1 Qx0 [] zB3 f_x0) (gd:DefV P w K mg base "makes_word" 1 Qx11 [] zCD f_x11) (g9:DefV P w K mg base "is_row" 4 Qx16 [] zEO f_x16):
  FnOk P w K mg base CX0 5 f fd Qx17 (spV K [] 1 zD9):=
 okW P w K mg base Nx17 Qx17 4 zGC [] F zK9 fun _ _ _ _ _ _ hr hu hu1=>by
  refine(zA1 ?_ (zA1 ?_ (zA1 ?_ (zA1 ?_ (zA1 ?_ (zA1 ?_ (zA3 ?_)))))))
  ·exact(zAZ (vt_w (zI9 (zE4 (zE0 (visi T.n_isinstance (vv 0) (vty T.n_tuple zDI)))) (zFA (zAR (kNeD (K:=K) rfl hu) s_ne (vlen T.n_len (vv 0)) zA2 (zBF _)))))
   (zA3 (zAB zGZ))
   zAE)
  ·exact(zGM (vv 0) (zD0 (K:=K) rfl rfl (zAJ (zAG zK9.nd) (zAJ (zAG zK9.nd) zC1))))
  ·exact (zAZ (zE4 (zE0 (vcal b6 hr (zA8 (vv 1) (zA8 zA2 (zA8 (zA7 (zBK (by rfl) T.v_MOST_SURE)) zA9))))))
   (zA3 (zAB zGZ))
   zAE)
  ·exact (zAZ (vt_w (zI9 (zE4 (zE0 (visi T.n_isinstance (vv 2) (vty T.n_tuple zDI)))) (zFA (zAR zW6 s_gt (vlen T.n_len (vv 2)) (zBK (by rfl) T.v_MOST_ROWS) (zBF _)))))
   (zA3 (zAB zGZ))
   zAE)
  ·exact(zB7 zK9.nd (zF9 (zBS (zAM zAA))))
  ·exact(zGL Ct rfl (zFB rfl (vv 2)) (zAG zK9.nd)
   (zA1 (zAZ (zE4 (zE0 (vcal g9 hr (zA8 (vv 4) (zBE (pv 3) zA9)))))
   (zA3 (zAB zGZ))
   zAE)
   (zA3 (zCZ (K:=K) rfl Ao Ap zB8 zDB (pv 3) (zAM (zA0 (vcal gd hr (zA8 (vv 4) zA9)) zAA))))))
  ·exact(zAB zGZ)
noncomputable abbrev Nx18:List Str:=["thing","sure"]
noncomputable abbrev Qx18:List Str:=["thing","sure"]
theorem zXW:zAF Nx18 Qx18 (zA6 (top 36)):=mkSc
theorem zZY(F:Fun K "is_cells" "is_cells" (top 36) f fd) (T:Txt K mg) (b6:DefV P w K mg base "is_whole" 1 Qx0 [] zB3 f_x0):
  FnOk P w K mg base CX0 2 f fd Qx18 (spV K [] 2 zD8):=
 okW P w K mg base Nx18 Qx18 1 zGB [] F zXW fun _ _ _ _ _ _ hr hu hu1=>by
  refine(zA1 ?_ (zA3 ?_))
  ·exact (zAZ (vt_w (zI9 (zE4 (zE0 (visi T.n_isinstance (vv 0) (vty T.zDF zEE)))) (zFA (zE4 (zMC zQH zQH s_le s_le (vv 1) (vlen T.n_len (vv 0)) (zBK (by rfl) T.v_MOST_CELLS))))))
   (zA3 (zAB zGZ))
   zAE)
  ·exact(zAB (zV8 (kAll (K:=K) rfl rfl) zY4 (by rfl) T.n_all zUU (zB1 (zC5 ["word"] [] 1 (zFB rfl (vv 0)) (fun hn _ _ _ _=>⟨(zAG hn),zEQ,(zA7 (vcal b6 hr (zA8 (vv 0) (zA8 zA2 (zA8 (zA7 (zBK (by rfl) T.v_MOST_WORD)) zA9)))))⟩)))))
noncomputable abbrev Nx19:List Str:=["deed","words"]
noncomputable abbrev Qx19:List Str:=["deed","words"]
theorem zXV:zAF Nx19 Qx19 (zA6 (top 37)):=mkSc
theorem zZX(F:Fun K "touches" "touches" (top 37) f fd) (T:Txt K mg):
  FnOk P w K mg base CX0 1 f fd Qx19 (spV K [] 2 zC3):=
 okW P w K mg base Nx19 Qx19 0 zFP [] F zXV fun _ _ _ _ _ _ hr hu hu1=>by
  refine(zA1 ?_ (zA1 ?_ (zA3 ?_)))
  ·exact(zAZ (vteq hu (vv 0) zAD)
   (zA3 (zAB (zE1 (kNeD (K:=K) rfl hu) s_ne (vix hu1 (vv 1) zA2) zA2 (zBF _))))
   zAE)
  ·exact(zAZ (vteq hu (vv 0) zAD)
   (zA3 (zAB (zE1 (kNeD (K:=K) rfl hu) s_ne (vix hu1 (vv 1) zA2) zA2 (zBF _))))
   zAE)
  ·exact(zAB zGZ)
noncomputable abbrev Nx20:List Str:=["deed","place","words","cells"]
noncomputable abbrev Qx20:List Str:=["deed","place","words","cells"]
theorem zXU:zAF Nx20 Qx20 (zA6 (top 38)):=mkSc
theorem zZW(F:Fun K "do_on_cell" "do_on_cell" (top 38) f fd) (T:Txt K mg) (g0:DefV P w K mg base "touches" 1 Qx19 [] zC3 f_x19):
  FnOk P w K mg base CX0 2 f fd Qx20 (spV K [3] 4 zAQ):=
 okW P w K mg base Nx20 Qx20 1 zAW [3] F zXU fun _ _ _ _ _ _ hr hu hu1=>by
  refine(zA1 ?_ (zA1 ?_ (zA1 ?_ (zA3 ?_))))
  ·exact(zAZ (zE4 (zE0 (vcal g0 hr (zA8 (vv 0) (zA8 (vv 2) zA9)))))
   (zA3 (zAB (zAN (zA0 (zEP (vteq hu (vv 0) zAD) (vix hu1 (vv 2) zA2) zBI) (zA0 zBI zAA)))))
   zAE)
  ·exact(zAZ (zAR zW7 s_ge (vv 1) (vlen T.n_len (vo 3)) (zBF _))
   (zA3 (zAB (zAN (zA0 zBI (zA0 zAD zAA)))))
   zAE)
  ·exact (zAZ (zAR (kInD (K := K) rfl hu) (zCY (neg := false)) (vv 0) (zBK (by rfl) T.v_WRITERS) (by with_unfolding_all rfl))
   (zA1 (zTW rfl (pv 3) (vv 1) (zA7 (vix hu1 (vv 2) zA2)))
   (zA3 (zAB (zAN (zA0 zBI (zA0 zBI zAA))))))
   zAE)
  ·exact(zAB (zAN (zA0 (vix hu1 (vo 3) (vv 1)) (zA0 zBI zAA))))
noncomputable abbrev Nx21:List Str:=["row","words","cells","shift","deed","place","word"]
noncomputable abbrev Qx21:List Str:=["row","words","cells","shift"]
theorem zMQ:zAF Nx21 Qx21 (zA6 (top 39)):=mkSc
theorem zUH{Td:Addr}(F:FunD K "do_row" "do_row" (top 39) (.ref Td) f fd) (T:Txt K mg) (gn:DefV P w K mg base "done" 2 Qx9 [] zGY f_x9) (d9:DefV P w K mg base "place_of" 1 Qx12 [] zAU f_x12) (d8:DefV P w K mg base "do_on_cell" 2 Qx20 [3] zAQ f_x20):
  FnOk P w K mg base CX0 3 f fd Qx21 (spV K [2] 4 zBY):=
 FunD.okV (P:=P) (w:=w) (mg:=mg) (base:=base) (K:=K) (N:=Nx21) (ps:=Qx21) (k:=2) (g:=zFR) (ml:=[2]) F zMQ (by decide) fun cdv A outer s H E hr=>by
  have hu:=hr.units
  have hu1:=yB3 hr
  refine(zA1 ?_ (zA1 ?_ (zA1 ?_ (zA1 ?_ (zA1 ?_ (zA3 ?_))))))
  ·exact(zB7 zMQ.nd (zCG (zA7 (vix hu1 (vv 0) zA2))))
  ·exact(zAZ (vteq hu (vv 4) zAD)
   (zA3 (zAB (zAN (zA0 (vix hu1 (vv 0) zA2) (zA0 zBI zAA)))))
   zAE)
  ·exact(zB7 zMQ.nd (zCG (zA7 (vcal d9 hr (zA8 (vv 0) zA9)))))
  ·exact(zAZ (zAR zLM zPI (vv 5) zBI (zBF _))
   (zA3 (zAB (vcal d8 hr (zA8 (vv 4) (zA8 (zA7 (zBJ (zDD (K:=K) rfl) zC0 (vv 5) (vv 3))) (zA8 (vv 1) (zBE (pv 2) zA9)))))))
   zAE)
  ·exact(zB7 zMQ.nd (zCG (zA7 (vcal gn hr (zA8 (vv 4) (zA8 (vv 1) zA9))))))
  ·exact(zAB (zAN (zA0 (vv 6) (zA0 (zEP (zAR zN4 zSN (vv 6) zBI (zBF _)) zAD zBI) zAA))))
noncomputable abbrev Nx22:List Str:=["rows","cells","words","at","row","word","why"]
noncomputable abbrev Qx22:List Str:=["rows","cells"]
theorem zIF:zAF Nx22 Qx22 (zA6 (top 40)):=mkSc
theorem zZV(F:Fun K "do_rows" "do_rows" (top 40) f fd) (T:Txt K mg) (gc:DefV P w K mg base "names_of" 2 Qx13 [] zD4 f_x13) (gy:DefV P w K mg base "do_row" 3 Qx21 [2] zBY f_x21) (cv:DefD P w K mg base "do_row" 3 Qx21 (spV K [2] 4 zBY) f_x21 (.int 0)):
  FnOk P w K mg base CX0 4 f fd Qx22 (spV K [1] 2 zC4):=
 okW P w K mg base Nx22 Qx22 3 zFQ [1] F zIF fun _ _ _ _ _ _ hr hu hu1=>by
  refine(zA1 ?_ (zA1 ?_ (zA3 ?_)))
  ·exact(zB7 zIF.nd (zF9 (zBS (zAM zAA))))
  ·exact (zGL Ct rfl (zHF rfl (by rfl) T.n_enumerate (vv 0)) (zD0 (K := K) rfl rfl (zAJ (zAG zIF.nd) (zAJ (zAG zIF.nd) zC1)))
   (zA1 (zGM (zA7 (zSB (K:=K) (v:=(.int 0)) (d:=(.int 0)) rfl cv (fun _ _ _=>(.int _)) (fun _=>nofun) hr (by decide) (by rfl) (zA8 (vv 4) (zA8 (zB1 (zC5 ["words","name"] [2] 1 (zFB rfl (zA7 (vcal gc hr (zA8 (vv 4) zA9)))) (fun hn _ _ _ _=>⟨(zAG hn),zEQ,(zA7 (vix hu1 (vo 0) (vv 1)))⟩))) (zBE (pv 1) zA9))))) (zD0 (K:=K) rfl rfl (zAJ (zAG zIF.nd) (zAJ (zAG zIF.nd) zC1))))
   (zA1 (zAZ (zAR zLM zPI (vv 6) zBI (zBF _))
   (zA3 (zAB (zAN (zDT (pv 2) (zA0 (zAN (zA0 (vv 3) (zA0 (vv 6) zAA))) zAA)))))
   zAE)
   (zA3 (zCZ (K:=K) rfl Ao Ap zB8 zDB (pv 2) (zAM (zA0 (vv 5) zAA)))))))
  ·exact(zAB (zAN (zDT (pv 2) (zA0 zBI zAA))))
noncomputable abbrev Nx23:List Str:=["block","cells"]
noncomputable abbrev Qx23:List Str:=["block","cells"]
theorem zXT:zAF Nx23 Qx23 (zA6 (top 41)):=mkSc
theorem zZU(F:Fun K "check_run" "check_run" (top 41) f fd) (T:Txt K mg) (g8:DefV P w K mg base "is_block" 5 Qx17 [] zD9 f_x17) (g7:DefV P w K mg base "is_cells" 2 Qx18 [] zD8 f_x18):
  FnOk P w K mg base CX0 6 f fd Qx23 (spV K [] 2 zBV):=
 okW P w K mg base Nx23 Qx23 5 zF3 [] F zXT fun _ _ _ _ _ _ hr hu hu1=>by
  refine(zA1 ?_ (zA3 ?_))
  ·exact(zAZ (zE4 (zE0 (vcal g8 hr (zA8 (vv 0) zA9))))
   (zA3 zME)
   zAE)
  ·exact(zAZ (zE4 (zE0 (vcal g7 hr (zA8 (vv 1) (zA8 (zA7 (vix hu1 (vv 0) zA2)) zA9)))))
   (zA3 zME)
   zAE)
noncomputable abbrev Nx24:List Str:=["block","cells","then","words","fault"]
noncomputable abbrev Qx24:List Str:=["block","cells"]
theorem zMP:zAF Nx24 Qx24 (zA6 (top 42)):=mkSc
theorem zZT(F:Fun K "run" "run" (top 42) f fd) (T:Txt K mg) (bq:DefV P w K mg base "do_rows" 4 Qx22 [1] zC4 f_x22) (bp:DefV P w K mg base "check_run" 6 Qx23 [] zBV f_x23):
  FnOk P w K mg base CX0 7 f fd Qx24 (spV K [] 2 zJT):=
 okW P w K mg base Nx24 Qx24 6 zTN [] F zMP fun _ _ _ _ _ _ hr hu hu1=>by
  refine(zA1 ?_ (zA1 ?_ (zA1 ?_ (zA3 ?_))))
  ·exact(zOP (vcal bp hr (zA8 (vv 0) (zA8 (vv 1) zA9))))
  ·exact(zB7 zMP.nd (zF9 (zOT (zIO (K:=K) rfl) zDF (by rfl) T.zDF zEE (vv 1))))
  ·exact(zGM (zA7 (vcal bq hr (zA8 (zA7 (vix hu1 (vv 0) zA2)) (zBE (pv 2) zA9)))) (zD0 (K:=K) rfl rfl (zAJ (zAG zMP.nd) (zAJ (zAG zMP.nd) zC1))))
  ·exact(zAB (zAN (zDT (pv 2) (zA0 (vv 4) zAA))))
noncomputable abbrev Nx25:List Str:=["block","cells","words","fault"]
noncomputable abbrev Qx25:List Str:=["block","cells"]
theorem zPG:zAF Nx25 Qx25 (zA6 (top 43)):=mkSc
theorem zZS(F:Fun K "values" "values" (top 43) f fd) (T:Txt K mg) (bq:DefV P w K mg base "do_rows" 4 Qx22 [1] zC4 f_x22) (bp:DefV P w K mg base "check_run" 6 Qx23 [] zBV f_x23):
  FnOk P w K mg base CX0 7 f fd Qx25 (spV K [] 2 zDN):=
 okW P w K mg base Nx25 Qx25 6 zHB [] F zPG fun _ _ _ _ _ _ hr hu hu1=>by
  refine(zA1 ?_ (zA1 ?_ (zA3 ?_)))
  ·exact(zOP (vcal bp hr (zA8 (vv 0) (zA8 (vv 1) zA9))))
  ·exact(zGM (zA7 (zS9 (K:=K) (i:=1) (mF:=[]) rfl bq (by decide) hr (by decide) (by rfl) (yC1 (zA7 (vix hu1 (vv 0) zA2)) (zV5 rfl (by rfl) T.zDF zEE (vv 1))))) (zD0 (K:=K) rfl rfl (zAJ (zAG zPG.nd) (zAJ (zAG zPG.nd) zC1))))
  ·exact(zAB (vv 2))
noncomputable abbrev Nx26:List Str:=["_law_script","_law_k","_law_rest","_law_again"]
noncomputable abbrev Qx26:List Str:=["_law_script","_law_k"]
theorem zMO:zAF Nx26 Qx26 (zA6 (top 45)):=mkSc
theorem zZR(F:Fun K "_law_cell_at" "_law_cell_at" (top 45) f fd) (T:Txt K mg):
  FnOk P w K mg base CX0 1 f fd Qx26 (spV K [] 2 zBL):=
 okW P w K mg base Nx26 Qx26 0 zDX [] F zMO fun _ _ _ _ _ _ hr hu hu1=>by
  refine(zA1 ?_ (zA1 ?_ (zA1 ?_ (zA1 ?_ (zA3 ?_)))))
  ·exact(zAZ (zAR zQG s_lt (vv 1) (vlen T.n_len (vv 0)) (zBF _))
   (zA3 (zAB (vix hu1 (vv 0) (vv 1))))
   zAE)
  ·exact(zAZ (vteq hu (vv 0) (zB1 (zBS (zAM zAA))))
   (zA3 (zAB zA2))
   zAE)
  ·exact(zB7 zMO.nd (zCG (zA7 (vix hu1 (vv 0) (zCX zE6 zHH (vv 1) (vlen T.n_len (vv 0)))))))
  ·exact (zGL Ct rfl (zFC (by rfl) T.n_range (zNX (zI6 rfl) zVG (by rfl) T.n_min zRS (zCX zJD zMR (vv 1) (vlen T.n_len (vv 0))) zA2)) (zAG zMO.nd)
   (zA3 (zB7 zMO.nd (zCG (zA7 (zCX zJD zMR (vv 2) zA2))))))
  ·exact(zAB (zBJ (zDD (K:=K) rfl) zC0 (zBJ (zDD (K:=K) rfl) zC0 (zBJ (zHT (K:=K) rfl) zF4 (vix hu1 (vv 0) (zCX zE6 zHH (vv 1) (vlen T.n_len (vv 0)))) zA2) (vv 1)) (zBJ (zHT (K:=K) rfl) zF4 (vv 2) zA2)))
noncomputable abbrev Nx27:List Str:=["_law_script","_law_k","_law_bound","_law_drawn"]
noncomputable abbrev Qx27:List Str:=["_law_script","_law_k","_law_bound"]
theorem zU1:zAF Nx27 Qx27 (zA6 (top 46)):=mkSc
theorem zZQ(F:Fun K "_law_mixed" "_law_mixed" (top 46) f fd) (T:Txt K mg) (ft:DefV P w K mg base "_law_cell_at" 1 Qx26 [] zBL f_x26):
  FnOk P w K mg base CX0 2 f fd Qx27 (spV K [] 3 zCS):=
 okW P w K mg base Nx27 Qx27 1 zF1 [] F zU1 fun _ _ _ _ _ _ hr hu hu1=>by
  refine(zA1 ?_ (zA3 ?_))
  ·exact(zB7 zU1.nd (zCG (zA7 (zCX zE6 zHH (zBJ (zDD (K:=K) rfl) zC0 (zBJ (zDD (K:=K) rfl) zC0 (zBJ (zHT (K:=K) rfl) zF4 (vcal ft hr (zA8 (vv 0) (zA8 (vv 1) zA9))) zA2) (zBJ (zHT (K:=K) rfl) zF4 zA2 (vv 1))) zA2) zA2))))
  ·exact(zAB (zCX zE6 zHH (zCX zE6 zHH (zCX zE6 zHH (zCX zZ4 yCL (vv 3) zA2) zA2) zA2) (vv 2)))
noncomputable abbrev Nx28:List Str:=["_law_script","_law_town","_law_bound"]
noncomputable abbrev Qx28:List Str:=["_law_script","_law_town","_law_bound"]
theorem zXS:zAF Nx28 Qx28 (zA6 (top 47)):=mkSc
theorem zZP(F:Fun K "_law_draw" "_law_draw" (top 47) f fd) (T:Txt K mg) (fo:DefV P w K mg base "_law_mixed" 2 Qx27 [] zCS f_x27):
  FnOk P w K mg base CX0 3 f fd Qx28 (spV K [1] 3 zAK):=
 okW P w K mg base Nx28 Qx28 2 zG9 [1] F zXS fun _ _ _ _ _ _ hr hu hu1=>by
  refine(zA1 ?_ (zA3 ?_))
  ·exact(zCZ (K:=K) rfl Ao Ap zB8 zDB (pv 1) (zAM (zA0 zA2 zAA)))
  ·exact(zAB (vcal fo hr (zA8 (vv 0) (zA8 (zA7 (vlen T.n_len (vo 1))) (zA8 (vv 2) zA9)))))
noncomputable abbrev Nx29:List Str:=["_law_script","_law_town","_law_some"]
noncomputable abbrev Qx29:List Str:=["_law_script","_law_town","_law_some"]
theorem zXR:zAF Nx29 Qx29 (zA6 (top 48)):=mkSc
theorem zZO(F:Fun K "_law_pick" "_law_pick" (top 48) f fd) (T:Txt K mg) (ah:DefV P w K mg base "_law_draw" 3 Qx28 [1] zAK f_x28):
  FnOk P w K mg base CX0 4 f fd Qx29 (spV K [1] 3 zAP):=
 okW P w K mg base Nx29 Qx29 3 zG7 [1] F zXR fun _ _ _ _ _ _ hr hu hu1=>by exact(zA3 (zAB (vix hu1 (vv 2) (vcal ah hr (zA8 (vv 0) (zBE (pv 1) (zA8 (zA7 (vlen T.n_len (vv 2))) zA9)))))))
noncomputable abbrev Nx30:List Str:=["_law_script","_law_town","_law_seen","_law_deed_here","_law_room"]
noncomputable abbrev Qx30:List Str:=["_law_script","_law_town","_law_seen","_law_deed_here","_law_room"]
theorem zXQ:zAF Nx30 Qx30 (zA6 (top 49)):=mkSc
theorem zZN(F:Fun K "_law_place" "_law_place" (top 49) f fd) (T:Txt K mg) (ah:DefV P w K mg base "_law_draw" 3 Qx28 [1] zAK f_x28) (ag:DefV P w K mg base "_law_pick" 4 Qx29 [1] zAP f_x29):
  FnOk P w K mg base CX0 5 f fd Qx30 (spV K [1,2] 5 zBH):=
 okW P w K mg base Nx30 Qx30 4 zF0 [1,2] F zXQ fun _ _ _ _ _ _ hr hu hu1=>by
  refine(zA1 ?_ (zA3 ?_))
  ·exact(zOQ hu1 (pv 2) (vv 3) (zA7 (zCX zE6 zHH (zBJ (zDD (K:=K) rfl) zC0 (zS7 hu1 (pv 2) (vv 3) (zA7 (vcal ah hr (zA8 (vv 0) (zBE (pv 1) (zA8 (vv 4) zA9))))) ⟨rfl,rfl,rfl,rfl⟩) (vcal ag hr (zA8 (vv 0) (zBE (pv 1) (zA8 (zB1 (zBS (zAM (zA0 zA2 (zA0 zA2 (zA0 zA2 (zA0 zA2 (zA0 zA2 zAA)))))))) zA9))))) (vv 4))) rfl)
  ·exact(zAB (vix hu1 (vo 2) (vv 3)))
noncomputable abbrev Nx31:List Str:=["_law_script","_law_town","_law_made","_law_seen","_law_room","_law_kind","_law_a","_law_b","_law_c"]
noncomputable abbrev Qx31:List Str:=["_law_script","_law_town","_law_made","_law_seen","_law_room"]
theorem zK8:zAF Nx31 Qx31 (zA6 (top 50)):=mkSc
theorem zZM(F:Fun K "_law_row" "_law_row" (top 50) f fd) (T:Txt K mg) (ah:DefV P w K mg base "_law_draw" 3 Qx28 [1] zAK f_x28) (ag:DefV P w K mg base "_law_pick" 4 Qx29 [1] zAP f_x29) (bh:DefV P w K mg base "_law_place" 5 Qx30 [1,2] zBH f_x30):
  FnOk P w K mg base CX0 6 f fd Qx31 (spV K [1,3] 5 zDS):=
 okW P w K mg base Nx31 Qx31 5 zHY [1,3] F zK8 fun _ _ _ _ _ _ hr hu hu1=>by
  refine(zA1 ?_ (zA1 ?_ (zA1 ?_ (zA1 ?_ (zA1 ?_ (zA1 ?_ (zA1 ?_ (zA1 ?_ (zA3 ?_)))))))))
  ·exact(zB7 zK8.nd (zCG (zA7 (vcal ah hr (zA8 (vv 0) (zBE (pv 1) (zA8 zA2 zA9)))))))
  ·exact(zAZ (vt_w (zI9 (vteq hu (vv 2) (zB1 (zBS (zAM zAA)))) (zFA (vteq hu (vv 5) zA2))))
   (zA1 (zAZ (vteq hu (vcal ah hr (zA8 (vv 0) (zBE (pv 1) (zA8 zA2 zA9)))) zA2)
   (zA3 (zAB (zAN (zA0 zAD (zA0 (vcal ag hr (zA8 (vv 0) (zBE (pv 1) (zA8 (zB1 (zBS (zAM (zA0 zA2 (zA0 zA2 (zA0 zA2 (zA0 zA2 (zA0 zA2 (zA0 (vcal ah hr (zA8 (vv 0) (zBE (pv 1) (zA8 zA2 zA9)))) zAA))))))))) zA9)))) zAA)))))
   zAE)
   (zA3 (zAB (zAN (zA0 zAD (zA0 (vcal bh hr (zA8 (vv 0) (zBE (pv 1) (zBE (pv 3) (zA8 zAD (zA8 (vv 4) zA9)))))) zAA))))))
   zAE)
  ·exact (zGM (zB1 (zC5 ["_law_script","_law_town","_law_made","_law_k"] [0,1,2] 1 (zFC (by rfl) T.n_range zA2) (fun hn _ _ _ _ => ⟨(zAG hn),zEQ,(zA7 (vix hu1 (vv 2) (zNX (zL3 rfl) zY2 (by rfl) T.n_max zUS zA2 (zCX zFK zJ8 (zCX zFK zJ8 (vlen T.n_len (vv 2)) zA2) (vcal ah hr (zA8 (vv 0) (zBE (pv 1) (zA8 zA2 zA9))))))))⟩))) (zD0 (K := K) rfl rfl (zAJ (zAG zK8.nd) (zAJ (zAG zK8.nd) (zAJ (zAG zK8.nd) zC1)))))
  ·exact (zAZ (zAR (kInD (K := K) rfl hu) (zCY (neg := false)) (vv 5) (zAN (zA0 zA2 (zA0 zA2 zAA))) (by with_unfolding_all rfl))
   (zA3 (zAB (zAN (zA0 zAD (zA0 (vcal bh hr (zA8 (vv 0) (zBE (pv 1) (zBE (pv 3) (zA8 zAD (zA8 (vv 4) zA9)))))) zAA)))))
   zAE)
  ·exact(zAZ (vteq hu (vv 5) zA2)
   (zA3 (zAB (zAN (zA0 zAD (zA0 (vcal bh hr (zA8 (vv 0) (zBE (pv 1) (zBE (pv 3) (zA8 zAD (zA8 (vv 4) zA9)))))) (zA0 (vv 8) (zA0 (vv 6) zAA)))))))
   zAE)
  ·exact (zAZ (zAR (kInD (K := K) rfl hu) (zCY (neg := false)) (vv 5) (zAN (zA0 zA2 (zA0 zA2 zAA))) (by with_unfolding_all rfl))
   (zA3 (zAB (zAN (zA0 zAD (zA0 (vcal bh hr (zA8 (vv 0) (zBE (pv 1) (zBE (pv 3) (zA8 zAD (zA8 (vv 4) zA9)))))) (zA0 (vv 6) zAA))))))
   zAE)
  ·exact(zAZ (vteq hu (vv 5) zA2)
   (zA3 (zAB (zAN (zA0 zAD (zA0 (vcal bh hr (zA8 (vv 0) (zBE (pv 1) (zBE (pv 3) (zA8 zAD (zA8 (vv 4) zA9)))))) (zA0 (vv 6) (zA0 (vv 8) zAA)))))))
   zAE)
  ·exact(zAZ (vteq hu (vv 5) zA2)
   (zA3 (zAB (zAN (zA0 zAD (zA0 (vv 8) (zA0 (vv 6) (zA0 (vv 7) zAA)))))))
   zAE)
  ·exact(zAB (zAN (zA0 (vix hu1 (zB1 (zBS (zAM (zA0 zAD (zA0 zAD (zA0 zAD (zA0 zAD (zA0 zAD (zA0 zAD (zA0 zAD zAA)))))))))) (vcal ah hr (zA8 (vv 0) (zBE (pv 1) (zA8 zA2 zA9))))) (zA0 (vv 6) (zA0 (vv 7) zAA)))))
noncomputable abbrev Nx33:List Str:=["_law_script","_law_town","_law_rows_here","_law_made","_law_seen","_law_room","_law_last","_law_first","_law_names_here","_law_name","_law_at"]
noncomputable abbrev Qx33:List Str:=["_law_script","_law_town","_law_rows_here","_law_made","_law_seen","_law_room"]
theorem zIE:zAF Nx33 Qx33 (zA6 (top 52)):=mkSc
theorem zZK(F:Fun K "_law_next" "_law_next" (top 52) f fd) (T:Txt K mg) (ag:DefV P w K mg base "_law_pick" 4 Qx29 [1] zAP f_x29):
  FnOk P w K mg base CX0 5 f fd Qx33 (spV K [1,4] 6 zBX):=
 okW P w K mg base Nx33 Qx33 4 zEL [1,4] F zIE fun _ _ _ _ _ _ hr hu hu1=>by
  refine(zA1 ?_ (zA1 ?_ (zA1 ?_ (zA1 ?_ (zA1 ?_ (zA1 ?_ (zA3 ?_)))))))
  ·exact(zB7 zIE.nd (zCG (zA7 (vix hu1 (vv 2) (zIA zA2)))))
  ·exact (zB7 zIE.nd (zCG (zA7 (zEP (zAR (kInD (K := K) rfl hu) (zCY (neg := false)) (vix hu1 (vv 6) zA2) (zAN (zA0 zAD (zA0 zAD (zA0 zAD (zA0 zAD zAA))))) (by with_unfolding_all rfl)) zA2 zA2))))
  ·exact(zB7 zIE.nd (zF9 (zBS (zAM zAA))))
  ·exact(zGL Ct rfl (zFB rfl (zA7 (zJ3 rfl (vv 6) (zJ1 (vv 7)) zJ2))) (zAG zIE.nd)
   (zA1 (zB7 zIE.nd (zCG (zA7 (zBJ (zDD (K:=K) rfl) zC0 (zS5 rfl (vv 3) (vv 9)) (vcal ag hr (zA8 (vv 0) (zBE (pv 1) (zA8 (zB1 (zBS (zAM (zA0 zA2 (zA0 zA2 (zA0 zA2 (zA0 zA2 (zA0 (zIA zA2) (zA0 zA2 (zA0 zA2 zAA)))))))))) zA9))))))))
   (zA3 (zCZ (K:=K) rfl Ao Ap zB8 zDB (pv 8) (zAM (zA0 (zEP (vt_w (zJX (zMC zQH zQG s_le s_lt zA2 (vv 10) (vlen T.n_len (vv 3))) (zHE (zAR (kNeD (K:=K) rfl hu) s_ne (vix hu1 (vv 3) (vv 10)) (zCX zFK zJ8 (vlen T.n_len (vv 2)) zA2) (zBF _))))) (vix hu1 (vv 3) (vv 10)) (vv 9)) zAA))))))
  ·exact(zAZ (vteq hu (vv 7) zA2)
   (zA3 (zAB (zBJ (zDD (K:=K) rfl) zC0 (zJ3 rfl (vv 6) zJ2 (zJ1 zA2)) (zOV (zHS (K:=K) rfl) zI7 (by rfl) T.n_tuple zDI (vo 8)))))
   zAE)
  ·exact(zOQ hu1 (pv 4) (vix hu1 (vv 6) zA2) (zA7 (zCX zE6 zHH (zBJ (zDD (K:=K) rfl) zC0 (vix hu1 (vv 6) zA2) zA2) (vv 5))) rfl)
  ·exact(zAB (zBJ (zDD (K:=K) rfl) zC0 (zAN (zA0 (vix hu1 (vv 6) zA2) (zA0 (vix hu1 (vo 4) (vix hu1 (vv 6) zA2)) zAA))) (zOV (zHS (K:=K) rfl) zI7 (by rfl) T.n_tuple zDI (vo 8))))
noncomputable abbrev Nx32:List Str:=["_law_script","_law_town","_law_many","_law_room","_law_rows_here","_law_made","_law_seen","_law_again"]
noncomputable abbrev Qx32:List Str:=["_law_script","_law_town","_law_many","_law_room"]
theorem zPF:zAF Nx32 Qx32 (zA6 (top 51)):=mkSc
theorem zZL(F:Fun K "_law_rows" "_law_rows" (top 51) f fd) (T:Txt K mg) (ag:DefV P w K mg base "_law_pick" 4 Qx29 [1] zAP f_x29) (fm:DefV P w K mg base "_law_row" 6 Qx31 [1,3] zDS f_x31) (fg:DefV P w K mg base "_law_next" 5 Qx33 [1,4] zBX f_x33):
  FnOk P w K mg base CX0 7 f fd Qx32 (spV K [1] 4 zD6):=
 okW P w K mg base Nx32 Qx32 6 zG6 [1] F zPF fun _ _ _ _ _ _ hr hu hu1=>by
  refine(zA1 ?_ (zA1 ?_ (zA3 ?_)))
  ·exact (zV1 (i := 4) (j := 5) (k := 6) rfl zPF.nd rfl rfl rfl (by decide) (by decide) (by decide) rfl rfl rfl (zF9 (zBS (zAM zAA))) (zF9 (zBS (zAM zAA))) (zF9 zS3) rfl)
  ·exact(zMD Ct (zAR zQG s_lt (vlen T.n_len (vo 4)) (vv 2) (zBF _))
   (zA1 (zCZ (K:=K) rfl Ao Ap zB8 zDB (pv 4) (zAM (zA0 (vcal fm hr (zA8 (vv 0) (zBE (pv 1) (zBE (pv 5) (zBE (pv 6) (zA8 (vv 3) zA9)))))) zAA)))
   (zA1 (zAZ (zAR (zHU (K:=K) rfl hu) (zCY (neg:=true)) (vix hu1 (vix hu1 (vo 4) (zIA zA2)) zA2) (zAN (zA0 zAD (zA0 zAD zAA))) (by with_unfolding_all rfl))
   (zA3 (zCZ (K:=K) rfl Ao Ap zB8 zDB (pv 5) (zAM (zA0 (zCX zFK zJ8 (vlen T.n_len (vo 4)) zA2) zAA))))
   zAE)
   (zA3 (zGL Ct rfl (zFC (by rfl) T.n_range (vcal ag hr (zA8 (vv 0) (zBE (pv 1) (zA8 (zB1 (zBS (zAM (zA0 zA2 (zA0 zA2 (zA0 zA2 (zA0 zA2 (zA0 zA2 zAA)))))))) zA9))))) (zAG zPF.nd)
   (zA3 (zAZ (vt_w (zJX (zAR zQG s_lt (vlen T.n_len (vo 4)) (vv 2) (zBF _)) (zHE (zAR (kNeD (K:=K) rfl hu) s_ne (vix hu1 (vix hu1 (vo 4) (zIA zA2)) zA2) zAD (zBF _)))))
   (zA1 (zCZ (K:=K) rfl Ao Ap zB8 zDB (pv 4) (zAM (zA0 (vcal fg hr (zA8 (vv 0) (zBE (pv 1) (zBE (pv 4) (zBE (pv 5) (zBE (pv 6) (zA8 (vv 3) zA9))))))) zAA)))
   (zA3 (zAZ (zAR (zHU (K:=K) rfl hu) (zCY (neg:=true)) (vix hu1 (vix hu1 (vo 4) (zIA zA2)) zA2) (zAN (zA0 zAD (zA0 zAD zAA))) (by with_unfolding_all rfl))
   (zA3 (zCZ (K:=K) rfl Ao Ap zB8 zDB (pv 5) (zAM (zA0 (zCX zFK zJ8 (vlen T.n_len (vo 4)) zA2) zAA))))
   zAE)))
   zAE)))))))
  ·exact(zAB (zOV (zHS (K:=K) rfl) zI7 (by rfl) T.n_tuple zDI (vo 4)))
noncomputable abbrev Nx38:List Str:=["_law_row_here"]
noncomputable abbrev Qx38:List Str:=["_law_row_here"]
theorem zXP:zAF Nx38 Qx38 (zA6 (top 57)):=mkSc
theorem zZF(F:Fun K "_law_names" "_law_names" (top 57) f fd) (T:Txt K mg):
  FnOk P w K mg base CX0 1 f fd Qx38 (spV K [] 1 zB6):=
 okW P w K mg base Nx38 Qx38 0 zHZ [] F zXP fun _ _ _ _ _ _ hr hu hu1=>by
  refine(zA1 ?_ (zA3 ?_))
  ·exact(zAZ (vteq hu (vix hu1 (vv 0) zA2) zAD)
   (zA3 (zAB (zB1 (zBS (zAM zAA)))))
   zAE)
  ·exact(zAB (zEP (zAR (kInD (K:=K) rfl hu) (zCY (neg:=false)) (vix hu1 (vv 0) zA2) (zAN (zA0 zAD (zA0 zAD (zA0 zAD (zA0 zAD zAA))))) (by with_unfolding_all rfl)) (zB1 (zOT (zIO (K:=K) rfl) zDF (by rfl) T.zDF zEE (zS6 (zJ3 rfl (vv 0) (zJ1 zA2) zJ2)))) (zB1 (zOT (zIO (K:=K) rfl) zDF (by rfl) T.zDF zEE (zS6 (zJ3 rfl (vv 0) (zJ1 zA2) zJ2))))))
noncomputable abbrev Nx40:List Str:=["_law_block_here","_law_row_here","_law_here"]
noncomputable abbrev Qx40:List Str:=["_law_block_here","_law_row_here"]
theorem zU0:zAF Nx40 Qx40 (zA6 (top 59)):=mkSc
theorem zZD(F:Fun K "_law_may" "_law_may" (top 59) f fd) (T:Txt K mg):
  FnOk P w K mg base CX0 1 f fd Qx40 (spV K [] 2 zCL):=
 okW P w K mg base Nx40 Qx40 0 zI0 [] F zU0 fun _ _ _ _ _ _ hr hu hu1=>by
  refine(zA1 ?_ (zA1 ?_ (zA3 ?_)))
  ·exact(zB7 zU0.nd (zCG (zA7 (vix hu1 (vix hu1 (vv 0) zA2) (vv 1)))))
  ·exact (zAZ (zAR (kInD (K := K) rfl hu) (zCY (neg := false)) (vix hu1 (vv 2) zA2) (zAN (zA0 zAD (zA0 zAD (zA0 zAD (zA0 zAD zAA))))) (by with_unfolding_all rfl))
   (zA3 (zAB (zE1 zW7 s_ge (vix hu1 (vv 2) zA2) (vix hu1 (vv 0) zA2) (zBF _))))
   zAE)
  ·exact(zAB (zFD (veq hu (vix hu1 (vv 2) zA2) zAD) (zHG (zE1 (zHU (K:=K) rfl hu) (zCY (neg:=true)) (zJ3 rfl (vix hu1 (vix hu1 (vv 0) zA2) (vix hu1 (vv 2) zA2)) zJ2 (zJ1 zA2)) (zB1 (zC5 ["_law_k"] [] 1 (zOU (by rfl) T.n_range zA2 zA2) (fun hn _ _ _ _=>⟨(zAG hn),zEQ,(zA7 (zAN (zA0 zAD (zA0 (vv 0) zAA))))⟩))) (by with_unfolding_all rfl)))))
noncomputable abbrev Nx41:List Str:=["_law_block_here","_law_made","_law_cells_here","_law_two","_law_there","_law_one","_law_here","_law_writes","_law_reasons"]
noncomputable abbrev Qx41:List Str:=["_law_block_here"]
theorem zGQ:zAF Nx41 Qx41 (zA6 (top 60)):=mkSc
theorem zZC(F:Fun K "_law_must" "_law_must" (top 60) f fd) (T:Txt K mg) (bo:DefV P w K mg base "_law_names" 1 Qx38 [] zB6 f_x38) (bn:DefV P w K mg base "_law_may" 1 Qx40 [] zCL f_x40):
  FnOk P w K mg base CX0 2 f fd Qx41 (spV K [] 1 zD7):=
 okW P w K mg base Nx41 Qx41 1 zG8 [] F zGQ fun _ _ _ _ _ _ hr hu hu1=>by
  refine(zA1 ?_ (zA1 ?_ (zA3 ?_)))
  ·exact (zV2 (i := 1) (j := 2) rfl zGQ.nd rfl rfl (by decide) rfl rfl (zF9 (zBS (zAM zAA))) (zCG (zA7 (zAN (zA0 zAD (zA0 zAD (zA0 zAD (zA0 zAD zAA))))))) rfl)
  ·exact (zGL Ct rfl (zHF rfl (by rfl) T.n_enumerate (zA7 (vix hu1 (vv 0) zA2))) (zD0 (K := K) rfl rfl (zAJ (zAG zGQ.nd) (zAJ (zAG zGQ.nd) zC1)))
   (zA3 (zGL Ct rfl (zHF rfl (by rfl) T.n_enumerate (zA7 (zJ3 rfl (vix hu1 (vv 0) zA2) zJ2 (zJ1 (vv 3))))) (zD0 (K:=K) rfl rfl (zAJ (zAG zGQ.nd) (zAJ (zAG zGQ.nd) zC1)))
   (zA1 (zS2 false zGQ.nd ["_law_row_here"] [] 1 (zFB rfl (zA7 (zAN (zA0 (vv 6) (zA0 (vv 4) zAA))))) (fun hn _ _ _ _=>⟨(zAG hn),(zMF (zAR (kInD (K:=K) rfl hu) (zCY (neg:=false)) (vix hu1 (vv 0) zA2) (zAN (zA0 zAD (zA0 zAD zAA))) (by with_unfolding_all rfl))),(vv 0)⟩))
   (zA1 (zB7 zGQ.nd (zF9 (zBS (zAM (zA0 (zE1 (kInD (K:=K) rfl hu) (zCY (neg:=false)) (vv 5) (vcal bo hr (zA8 (vv 4) zA9)) (by with_unfolding_all rfl)) (zA0 (zFD (vcal bn hr (zA8 (vv 0) (zA8 (vv 5) zA9))) (zHG (vcal bn hr (zA8 (vv 0) (zA8 (vv 3) zA9))))) zAA))))))
   (zA1 (zCZ (K:=K) rfl Ao Ap zB8 zDB (pv 8) (zAM (zA0 (zFD (zE1 (kInD (K:=K) rfl hu) (zCY (neg:=false)) (vix hu1 (vv 6) zA2) (vv 2) (by with_unfolding_all rfl)) (zFD (zE1 (kInD (K:=K) rfl hu) (zCY (neg:=false)) (vix hu1 (vv 4) zA2) (vv 2) (by with_unfolding_all rfl)) (zFD (veq hu (vix hu1 (vv 6) zA2) (vix hu1 (vv 4) zA2)) (zHG (zE1 (kNeD (K:=K) rfl hu) s_ne (vv 7) (zB1 (zBS (zAM zAA))) (zBF _)))))) zAA)))
   (zA1 (zCZ (K:=K) rfl Ao Ap zB8 zDB (pv 8) (zAM (zA0 (zFD (vcal bn hr (zA8 (vv 0) (zA8 (vv 5) zA9))) (zHG (zE1 (kInD (K:=K) rfl hu) (zCY (neg:=false)) (vix hu1 (vv 4) zA2) (zAN (zA0 zAD (zA0 zAD zAA))) (by with_unfolding_all rfl)))) zAA)))
   (zA1 (zCZ (K:=K) rfl Ao Ap zB8 zDB (pv 8) (zAM (zA0 (zFD (vcal bn hr (zA8 (vv 0) (zA8 (vv 3) zA9))) (zHG (zE1 (kInD (K:=K) rfl hu) (zCY (neg:=false)) (vix hu1 (vv 6) zA2) (zAN (zA0 zAD (zA0 zAD zAA))) (by with_unfolding_all rfl)))) zAA)))
   (zA3 (zAZ (zAR (kInD (K:=K) rfl hu) (zCY (neg:=false)) zGZ (vo 8) (by with_unfolding_all rfl))
   (zA3 (zCZ (K:=K) rfl Ao Ap zB8 zDB (pv 1) (zAM (zA0 (zAN (zA0 (vv 5) (zA0 (vv 3) zAA))) zAA))))
   zAE))))))))))
  ·exact(zAB (zB1 (zX6 (yAS (K:=K) rfl) zWF (by rfl) T.n_sorted zL8 (zS6 (vo 1)))))
noncomputable abbrev Nx42:List Str:=["_law_script","_law_town","_law_block_here","_law_pairs","_law_left","_law_made","_law_ready"]
noncomputable abbrev Qx42:List Str:=["_law_script","_law_town","_law_block_here"]
theorem zPC:zAF Nx42 Qx42 (zA6 (top 61)):=mkSc
theorem zZB(F:Fun K "_law_mixed_order" "_law_mixed_order" (top 61) f fd) (T:Txt K mg) (ag:DefV P w K mg base "_law_pick" 4 Qx29 [1] zAP f_x29) (en:DefV P w K mg base "_law_must" 2 Qx41 [] zD7 f_x41):
  FnOk P w K mg base CX0 5 f fd Qx42 (spV K [1] 3 zBD):=
 okW P w K mg base Nx42 Qx42 4 zCQ [1] F zPC fun _ _ _ _ _ _ hr hu hu1=>by
  refine(zA1 ?_ (zA1 ?_ (zA3 ?_)))
  ·exact (zUY (i := 3) (j := 4) (k := 5) rfl rfl zPC.nd rfl rfl rfl (by decide) (by decide) (by decide) (Hy rfl) (Hy rfl) (Hx rfl) (zCG (zA7 (vcal en hr (zA8 (vv 2) zA9)))) (zF9 (zOR rfl (by rfl) T.zDF zEE (by rfl) T.n_range zNT (vlen T.n_len (vix hu1 (vv 2) zA2)))) (zF9 (zBS (zAM zAA))))
  ·exact(zMD Ct (zAR (kNeD (K:=K) rfl hu) s_ne (vo 4) (zB1 (zBS (zAM zAA))) (zBF _))
   (zA1 (zS1 false zPC.nd ["_law_pairs","_law_left","_law_row_here"] [3,4] 1 (zX7 rfl (vo 4)) (fun hn _ _ _ _=>⟨(zAG hn),(zMF (vteq hu (zB1 (zC5 ["_law_left","_law_row_here","_law_one","_law_two"] [1,2] 2 (zFB rfl (vv 0)) (fun hn _ _ _ _=>⟨(zD0 (K:=K) rfl rfl (zAJ (zAG hn) (zAJ (zAG hn) zC1))),(zMF (vt_w (zJX (vteq hu (vv 3) (vv 1)) (zHE (zAR (kInD (K:=K) rfl hu) (zCY (neg:=false)) (vv 2) (vo 0) (by with_unfolding_all rfl)))))),zA2⟩))) (zB1 (zBS (zAM zAA))))),(vv 2)⟩))
   (zA1 (zCZ (K:=K) rfl Ao Ap zB8 zDB (pv 5) (zAM (zA0 (vcal ag hr (zA8 (vv 0) (zBE (pv 1) (zA8 (vv 6) zA9)))) zAA)))
   (zA3 (zCZ (K:=K) rfl PySem.F.slot_list_remove PySem.F.type_list_remove zQO yAE (pv 4) (zAM (zA0 (vix hu1 (vo 5) (zIA zA2)) zAA)))))))
  ·exact(zV0 (pv 5))
noncomputable abbrev Nx43:List Str:=["_law_row_here","_law_names_here","_law_first"]
noncomputable abbrev Qx43:List Str:=["_law_row_here","_law_names_here"]
theorem zTZ:zAF Nx43 Qx43 (zA6 (top 62)):=mkSc
theorem zZA(F:Fun K "_law_renamed" "_law_renamed" (top 62) f fd) (T:Txt K mg):
  FnOk P w K mg base CX0 1 f fd Qx43 (spV K [] 2 zAL):=
 okW P w K mg base Nx43 Qx43 0 zBB [] F zTZ fun _ _ _ _ _ _ hr hu hu1=>by
  refine(zA1 ?_ (zA1 ?_ (zA3 ?_)))
  ·exact(zAZ (vteq hu (vix hu1 (vv 0) zA2) zAD)
   (zA3 (zAB (vv 0)))
   zAE)
  ·exact(zB7 zTZ.nd (zCG (zA7 (zEP (zAR (kInD (K:=K) rfl hu) (zCY (neg:=false)) (vix hu1 (vv 0) zA2) (zAN (zA0 zAD (zA0 zAD (zA0 zAD (zA0 zAD zAA))))) (by with_unfolding_all rfl)) zA2 zA2))))
  ·exact(zAB (zBJ (zDD (K:=K) rfl) zC0 (zJ3 rfl (vv 0) zJ2 (zJ1 (vv 2))) (zOV (zHS (K:=K) rfl) zI7 (by rfl) T.n_tuple zDI (zB1 (zC5 ["_law_names_here","_law_name"] [1] 1 (zFB rfl (zA7 (zJ3 rfl (vv 0) (zJ1 (vv 2)) zJ2))) (fun hn _ _ _ _=>⟨(zAG hn),zEQ,(zA7 (vix hu1 (vv 0) (vv 1)))⟩))))))
noncomputable abbrev Nx34:List Str:=["_law_script","_law_town","_law_most","_law_room","_law_sure","_law_block_here","_law_order_there","_law_names_here"]
noncomputable abbrev Qx34:List Str:=["_law_script","_law_town","_law_most"]
theorem zID:zAF Nx34 Qx34 (zA6 (top 53)):=mkSc
theorem zZJ(F:Fun K "_law_block" "_law_block" (top 53) f fd) (T:Txt K mg) (ah:DefV P w K mg base "_law_draw" 3 Qx28 [1] zAK f_x28) (ag:DefV P w K mg base "_law_pick" 4 Qx29 [1] zAP f_x29) (fj:DefV P w K mg base "_law_rows" 7 Qx32 [1] zD6 f_x32) (eg:DefV P w K mg base "_law_mixed_order" 5 Qx42 [1] zBD f_x42) (ee:DefV P w K mg base "_law_renamed" 1 Qx43 [] zAL f_x43):
  FnOk P w K mg base CX0 8 f fd Qx34 (spV K [1] 3 zC9):=
 okW P w K mg base Nx34 Qx34 7 zDY [1] F zID fun _ _ _ _ _ _ hr hu hu1=>by
  refine(zA1 ?_ (zA1 ?_ (zA1 ?_ (zA1 ?_ (zA1 ?_ (zA1 ?_ (zA3 ?_)))))))
  ·exact(zB7 zID.nd (zCG (zA7 (vcal ag hr (zA8 (vv 0) (zBE (pv 1) (zA8 (zB1 (zBS (zAM (zA0 zA2 (zA0 zA2 (zA0 zA2 (zA0 zA2 zAA))))))) zA9)))))))
  ·exact(zB7 zID.nd (zCG (zA7 (vcal ag hr (zA8 (vv 0) (zBE (pv 1) (zA8 (zB1 (zBS (zAM (zA0 zA2 (zA0 (vv 3) (zA0 (vv 3) (zA0 (vcal ah hr (zA8 (vv 0) (zBE (pv 1) (zA8 (zA7 (zBJ (zDD (K:=K) rfl) zC0 (vv 3) zA2)) zA9)))) zAA))))))) zA9)))))))
  ·exact(zB7 zID.nd (zCG (zA7 (zAN (zA0 (vv 4) (zA0 (vcal fj hr (zA8 (vv 0) (zBE (pv 1) (zA8 (zA7 (vcal ah hr (zA8 (vv 0) (zBE (pv 1) (zA8 (zA7 (zBJ (zDD (K:=K) rfl) zC0 (vv 2) zA2)) zA9))))) (zA8 (vv 3) zA9))))) zAA))))))
  ·exact(zAZ (zAR zW6 s_gt (vcal ah hr (zA8 (vv 0) (zBE (pv 1) (zA8 zA2 zA9)))) zA2 (zBF _))
   (zA3 (zAB (vv 5)))
   zAE)
  ·exact(zB7 zID.nd (zCG (zA7 (vcal eg hr (zA8 (vv 0) (zBE (pv 1) (zA8 (vv 5) zA9)))))))
  ·exact(zB7 zID.nd (zCG (zB1 (zOS rfl rfl (by rfl) T.n_dict zX0 (zB1 (zC5 ["_law_number","_law_row_here"] [] 2 (zHF rfl (by rfl) T.n_enumerate (vv 6)) (fun hn _ _ _ _=>⟨(zD0 (K:=K) rfl rfl (zAJ (zAG hn) (zAJ (zAG hn) zC1))),zEQ,(zA7 (zAN (zA0 (vv 1) (zA0 (vv 0) zAA))))⟩)))))))
  ·exact(zAB (zAN (zA0 (vv 4) (zA0 (zOV (zHS (K:=K) rfl) zI7 (by rfl) T.n_tuple zDI (zB1 (zC5 ["_law_block_here","_law_names_here","_law_row_here"] [5,7] 1 (zFB rfl (vv 6)) (fun hn _ _ _ _=>⟨(zAG hn),zEQ,(zA7 (vcal ee hr (zA8 (zA7 (vix hu1 (vix hu1 (vv 0) zA2) (vv 2))) (zA8 (vv 1) zA9))))⟩)))) zAA))))
noncomputable abbrev Nx35:List Str:=["_law_script","_law_town","_law_low","_law_many","_law_small"]
noncomputable abbrev Qx35:List Str:=["_law_script","_law_town","_law_low"]
theorem zPE:zAF Nx35 Qx35 (zA6 (top 54)):=mkSc
theorem zZI(F:Fun K "_law_cells" "_law_cells" (top 54) f fd) (T:Txt K mg) (ah:DefV P w K mg base "_law_draw" 3 Qx28 [1] zAK f_x28) (ag:DefV P w K mg base "_law_pick" 4 Qx29 [1] zAP f_x29):
  FnOk P w K mg base CX0 5 f fd Qx35 (spV K [1] 3 zCT):=
 okW P w K mg base Nx35 Qx35 4 zF2 [1] F zPE fun _ _ _ _ _ _ hr hu hu1=>by
  refine(zA1 ?_ (zA1 ?_ (zA3 ?_)))
  ·exact(zB7 zPE.nd (zCG (zA7 (vcal ag hr (zA8 (vv 0) (zBE (pv 1) (zA8 (zB1 (zBS (zAM (zA0 (vv 2) (zA0 (zNX (zI6 rfl) zVG (by rfl) T.n_min zRS zA2 (zBJ (zDD (K:=K) rfl) zC0 (vv 2) (vcal ah hr (zA8 (vv 0) (zBE (pv 1) (zA8 zA2 zA9)))))) (zA0 zA2 zAA)))))) zA9)))))))
  ·exact(zB7 zPE.nd (zCG (zA7 (vcal ag hr (zA8 (vv 0) (zBE (pv 1) (zA8 (zB1 (zBS (zAM (zA0 zA2 (zA0 zA2 (zA0 zA2 zAA)))))) zA9)))))))
  ·exact(zAB (zB1 (zC5 ["_law_script","_law_town","_law_small","_law_k"] [0,1,4] 1 (zFC (by rfl) T.n_range (vv 3)) (fun hn _ _ _ _=>⟨(zAG hn),zEQ,(zA7 (vcal ah hr (zA8 (vv 0) (zBE (pv 1) (zA8 (vv 2) zA9)))))⟩))))
noncomputable abbrev Nx36:List Str:=["_law_deed_here","_law_words","_law_one","_law_two","_law_whole"]
noncomputable abbrev Qx36:List Str:=["_law_deed_here","_law_words"]
theorem zMN:zAF Nx36 Qx36 (zA6 (top 55)):=mkSc
theorem zZH(F:Fun K "_law_deed" "_law_deed" (top 55) f fd) (T:Txt K mg):
  FnOk P w K mg base CX0 1 f fd Qx36 (spV K [] 2 zCF):=
 okW P w K mg base Nx36 Qx36 0 zEM [] F zMN fun _ _ _ _ _ _ hr hu hu1=>by
  refine(zA1 ?_ (zA1 ?_ (zA1 ?_ (zA1 ?_ (zA1 ?_ (zA1 ?_ (zA3 ?_)))))))
  ·exact(zAZ (vteq hu (vv 0) zAD)
   (zA3 (zAB (zEP (vteq hu (vix hu1 (vv 1) zA2) zA2) (vix hu1 (vv 1) zA2) (vix hu1 (vv 1) zA2))))
   zAE)
  ·exact(zGM (vv 1) (zD0 (K:=K) rfl rfl (zAJ (zAG zMN.nd) (zAJ (zAG zMN.nd) zC1))))
  ·exact (zAZ (zAR (kInD (K := K) rfl hu) (zCY (neg := false)) (vv 0) (zAN (zA0 zAD (zA0 zAD zAA))) (by with_unfolding_all rfl))
   (zA3 (zAB (vix hu1 (zB1 (zX6 (yAT (K:=K) rfl) zWG (by rfl) T.n_sorted zL8 (vv 1))) (zEP (vteq hu (vv 0) zAD) zA2 zA2))))
   zAE)
  ·exact(zAZ (vteq hu (vv 0) zAD)
   (zA3 (zAB (zEP (zAR zW6 s_gt (vv 3) (vv 2) (zBF _)) zA2 zA2)))
   zAE)
  ·exact(zAZ (vteq hu (vv 0) zAD)
   (zA3 (zAB (zEP (vteq hu (vv 3) zA2) zBI (zS4 (by rfl) T.n_len zUT (by rfl) T.n_range zNT (vv 3) (zBJ (zDD (K:=K) rfl) zC0 (vv 2) zA2) (vv 3)))))
   zAE)
  ·exact(zB7 zMN.nd (zCG (zA7 (vix hu1 (zB1 (zV4 (zJ0 zAD (zA7 (zBJ (zDD (K:=K) rfl) zC0 (vv 2) (vv 3))) (zJ0 zAD (zA7 (zCX zFK zJ8 (zBJ (zDD (K:=K) rfl) zC0 (vv 2) zA2) (vv 3))) (zJ0 zAD (zA7 (zBJ (zHT (K:=K) rfl) zF4 (vv 2) (vv 3))) zV3))) rfl rfl (by simp) (by decide))) (vv 0)))))
  ·exact(zAB (zCX zFK zJ8 (vv 4) (zBJ (zHT (K:=K) rfl) zF4 (zCX zJD zMR (vv 4) zA2) zA2)))
noncomputable abbrev Nx37:List Str:=["_law_row_here","_law_lane","_law_words","_law_cells_here","_law_made","_law_at"]
noncomputable abbrev Qx37:List Str:=["_law_row_here","_law_lane","_law_words","_law_cells_here"]
theorem zPD:zAF Nx37 Qx37 (zA6 (top 56)):=mkSc
theorem zZG(F:Fun K "_law_step" "_law_step" (top 56) f fd) (T:Txt K mg) (f7:DefV P w K mg base "_law_deed" 1 Qx36 [] zCF f_x36):
  FnOk P w K mg base CX0 2 f fd Qx37 (spV K [3] 4 zAS):=
 okW P w K mg base Nx37 Qx37 1 zB2 [3] F zPD fun _ _ _ _ _ _ hr hu hu1=>by
  refine(zA1 ?_ (zA1 ?_ (zA1 ?_ (zA1 ?_ (zA1 ?_ (zA1 ?_ (zA1 ?_ (zA3 ?_))))))))
  ·exact (zAZ (zAR (zHU (K := K) rfl hu) (zCY (neg := true)) (vix hu1 (vv 0) zA2) (zAN (zA0 zAD (zA0 zAD (zA0 zAD (zA0 zAD zAA))))) (by with_unfolding_all rfl))
   (zA1 (zB7 zPD.nd (zCG (zA7 (vcal f7 hr (zA8 (zA7 (vix hu1 (vv 0) zA2)) (zA8 (vv 2) zA9))))))
   (zA3 (zAB (zAN (zA0 (vv 4) (zA0 (zEP (zAR zN4 zSN (vv 4) zBI (zBF _)) zAD zBI) zAA))))))
   zAE)
  ·exact(zB7 zPD.nd (zCG (zA7 (zBJ (zDD (K:=K) rfl) zC0 (vix hu1 (vv 0) zA2) (vv 1)))))
  ·exact(zAZ (vt_w (zJX (vteq hu (vix hu1 (vv 0) zA2) zAD) (zHE (vteq hu (vix hu1 (vv 2) zA2) zA2))))
   (zA3 (zAB (zAN (zA0 (vix hu1 (vv 2) zA2) (zA0 zBI zAA)))))
   zAE)
  ·exact(zAZ (vt_w (zJX (vteq hu (vix hu1 (vv 0) zA2) zAD) (zHE (vteq hu (vix hu1 (vv 2) zA2) zA2))))
   (zA3 (zAB (zAN (zA0 zBI (zA0 zBI zAA)))))
   zAE)
  ·exact(zAZ (zAR zW7 s_ge (vv 5) (vlen T.n_len (vo 3)) (zBF _))
   (zA3 (zAB (zAN (zA0 zBI (zA0 zAD zAA)))))
   zAE)
  ·exact (zAZ (zAR (kInD (K := K) rfl hu) (zCY (neg := false)) (vix hu1 (vv 0) zA2) (zAN (zA0 zAD (zA0 zAD zAA))) (by with_unfolding_all rfl))
   (zA3 (zAB (zAN (zA0 (vix hu1 (vo 3) (vv 5)) (zA0 zBI zAA)))))
   zAE)
  ·exact(zTW rfl (pv 3) (vv 5) (zA7 (vix hu1 (vv 2) zA2)))
  ·exact(zAB (zAN (zA0 zBI (zA0 zBI zAA))))
noncomputable abbrev Nx39:List Str:=["_law_rows_here","_law_cells_here","_law_words","_law_number","_law_row_here","_law_made","_law_why"]
noncomputable abbrev Qx39:List Str:=["_law_rows_here","_law_cells_here"]
theorem zIC:zAF Nx39 Qx39 (zA6 (top 58)):=mkSc
theorem zZE(F:Fun K "_law_play" "_law_play" (top 58) f fd) (T:Txt K mg) (f6:DefV P w K mg base "_law_step" 2 Qx37 [3] zAS f_x37) (bo:DefV P w K mg base "_law_names" 1 Qx38 [] zB6 f_x38):
  FnOk P w K mg base CX0 3 f fd Qx39 (spV K [] 2 zCE):=
 okW P w K mg base Nx39 Qx39 2 zEK [] F zIC fun _ _ _ _ _ _ hr hu hu1=>by
  refine(zA1 ?_ (zA1 ?_ (zA3 ?_)))
  ·exact (zUZ (i := 1) (j := 2) rfl rfl zIC.nd rfl rfl (by decide) (Hx rfl) (Hy rfl) (zF9 (zOT (zIO (K := K) rfl) zDF (by rfl) T.zDF zEE (zS6 (vo 1)))) (zF9 (zBS (zAM zAA))))
  ·exact (zGL Ct rfl (zHF rfl (by rfl) T.n_enumerate (vv 0)) (zD0 (K := K) rfl rfl (zAJ (zAG zIC.nd) (zAJ (zAG zIC.nd) zC1)))
   (zA3 (zAZ (vteq hu (vix hu1 (vv 4) zA2) zAD)
   (zA3 (zCZ (K:=K) rfl Ao Ap zB8 zDB (pv 2) (zAM (zA0 (vix hu1 (vv 4) zA2) zAA))))
   (zA1 (zGM (zA7 (vcal f6 hr (zA8 (vv 4) (zA8 zA2 (zA8 (zB1 (zC5 ["_law_words","_law_name"] [2] 1 (zFB rfl (zA7 (vcal bo hr (zA8 (vv 4) zA9)))) (fun hn _ _ _ _=>⟨(zAG hn),zEQ,(zA7 (vix hu1 (vo 0) (vv 1)))⟩))) (zBE (pv 1) zA9)))))) (zD0 (K:=K) rfl rfl (zAJ (zAG zIC.nd) (zAJ (zAG zIC.nd) zC1))))
   (zA1 (zAZ (zAR zLM zPI (vv 6) zBI (zBF _))
   (zA3 (zAB (zAN (zDT (pv 1) (zDT (pv 2) (zA0 (zAN (zA0 (vv 3) (zA0 (vv 6) zAA))) zAA))))))
   zAE)
   (zA3 (zCZ (K:=K) rfl Ao Ap zB8 zDB (pv 2) (zAM (zA0 (vv 5) zAA)))))))))
  ·exact(zAB (zAN (zDT (pv 1) (zDT (pv 2) (zA0 zBI zAA)))))
noncomputable abbrev Nx44:List Str:=["_law_script","_law_town","_law_block_here","_law_cells_here","_law_kept","_law_later","_law_words","_law_fault"]
noncomputable abbrev Qx44:List Str:=["_law_script"]
theorem zGP:zAF Nx44 Qx44 (zA6 (top 63)):=mkSc
theorem zZ9(F:Fun K "law" "law" (top 63) f fd) (T:Txt K mg) (d7:DefV P w K mg base "run" 7 Qx24 [] zJT f_x24) (fu:DefV P w K mg base "values" 7 Qx25 [] zDN f_x25) (f9:DefV P w K mg base "_law_block" 8 Qx34 [1] zC9 f_x34) (f8:DefV P w K mg base "_law_cells" 5 Qx35 [1] zCT f_x35) (eo:DefV P w K mg base "_law_play" 3 Qx39 [] zCE f_x39):
  FnOk P w K mg base CX0 9 f fd Qx44 (spV K [] 1 zOL):=
 okW P w K mg base Nx44 Qx44 8 zWU [] F zGP fun _ _ _ _ _ _ hr hu hu1=>by
  refine(zA1 ?_ (zA1 ?_ (zA1 ?_ (zA1 ?_ (zA1 ?_ (zA1 ?_ (zA1 ?_ (zA3 ?_))))))))
  ·exact(zB7 zGP.nd (zF9 (zBS (zAM zAA))))
  ·exact(zB7 zGP.nd (zCG (zA7 (vcal f9 hr (zA8 (vv 0) (zBE (pv 1) (zA8 zA2 zA9)))))))
  ·exact(zB7 zGP.nd (zCG (zA7 (vcal f8 hr (zA8 (vv 0) (zBE (pv 1) (zA8 (zA7 (vix hu1 (vv 2) zA2)) zA9)))))))
  ·exact (zB7 zGP.nd (zCG (zB1 (zOT (zIO (K := K) rfl) zDF (by rfl) T.zDF zEE (vv 3)))))
  ·exact(zGM (zA7 (vcal eo hr (zA8 (zA7 (vix hu1 (vv 2) zA2)) (zA8 (vv 3) zA9)))) (zD0 (K:=K) rfl rfl (zAJ (zAG zGP.nd) (zAJ (zAG zGP.nd) (zAJ (zAG zGP.nd) zC1)))))
  ·exact(zAZ (vt_w (zI9 (zAR (kNeD (K:=K) rfl hu) s_ne (vcal d7 hr (zA8 (vv 2) (zA8 (vv 3) zA9))) (zAN (zA0 (vv 5) (zA0 (vv 7) zAA))) (zBF _)) (zI9 (zAR (kNeD (K:=K) rfl hu) s_ne (vcal fu hr (zA8 (vv 2) (zA8 (vv 3) zA9))) (vv 6) (zBF _)) (zFA (zAR (kNeD (K:=K) rfl hu) s_ne (vv 3) (vv 4) (zBF _))))))
   (zA3 (zAB zGZ))
   zAE)
  ·exact(zAZ (zAR zN4 zSN (vv 7) zBI (zBF _))
   (zA3 (zAB (veq hu (vlen T.n_len (vv 6)) (vlen T.n_len (vix hu1 (vv 2) zA2)))))
   zAE)
  ·exact(zAB (zFD (veq hu (vlen T.n_len (vv 6)) (vix hu1 (vv 7) zA2)) (zHG (veq hu (vcal d7 hr (zA8 (zA7 (zAN (zA0 (vix hu1 (vv 2) zA2) (zA0 (zJ3 rfl (vix hu1 (vv 2) zA2) zJ2 (zJ1 (vix hu1 (vv 7) zA2))) zAA)))) (zA8 (vv 3) zA9))) (zAN (zA0 (vv 5) (zA0 zBI zAA)))))))
end
end RR
namespace L2
open PySem
theorem zAY(a b:String):Av a=Av b↔a=b:=by
 refine⟨fun h=> ?_,fun h=>by rw[h]⟩
 rw[F0,F0] at h
 injection h with h
 have h2:a.toList.map Ju=b.toList.map Ju:=by simpa using h
 have h3:a.toList=b.toList:=by
  have inj: ∀(l m:List Char),l.map Ju=m.map Ju->l=m:=by
   intro l
   induction l with
   | nil => intro m h;cases m with
    |nil=>rfl
    |cons=>cases h
   | cons c l ih => intro m h;cases m with
    |nil=>cases h
    |cons e m=>
     simp only[An,G4] at h
     rw[ih m h.2,Char.toNat_inj.mp h.1]
  exact inj _ _ h2
 exact String.toList_inj.mp h3
theorem zP6(a:String):Lz (Av a)=true:=by
 unfold Lz
 rw[F0]
 simp only[List.all_toArray,Ly,Fd,Lp,decide_eq_true_eq]
 intro c _
 have:=c.valid
 rcases this with h|⟨_,h⟩
 ·show c.val.toNat<1114112
  have:c.val.toNat<55296:=h
  omega
 ·exact h
def okk(k:Nat)(d:Dat):Prop:=d.isD=true/\d.pd.canLay0=true/\d.pd.depth<=k
theorem zCO{k:Nat}{i:Int}:okk k (.int i):=⟨rfl,rfl,Cc _⟩
theorem zUG{k:Nat}{i:Bool}:okk k (.bl i):=⟨rfl,rfl,Cc _⟩
theorem zLN{k:Nat}:okk k .non:=⟨rfl,rfl,Cc _⟩
theorem zCN{k:Nat}{a:String}:okk k (.str (Av a)):=⟨rfl,by simp[Dat.pd,Dw,zP6],Cc _⟩
theorem zLO{k:Nat}: ∀{ds:List Dat},(∀d∈ds,okk k d)->isDs ds=true/\F9 (pds ds)=true/\D8 (pds ds)<=k
 |[],_=>⟨rfl,rfl,Cc _⟩
 |d::ds,h=>by
  obtain⟨a1,a2,a3⟩:=h d Ak
  obtain⟨b1,b2,b3⟩:=zLO fun e he=>h e (Ag _ he)
  refine⟨by simp[isDs,a1,b1],by simp[pds,F9,a2,b2],?_⟩
  simp only[pds,D8]
  omega
theorem zE7{k:Nat}{ds:List Dat}(h: ∀d∈ds,okk k d):okk (k+1) (.tup ds):=by
 obtain⟨a,b,c⟩:=zLO h
 exact⟨by simpa[Dat.isD] using a,by simpa[Dat.pd,Dw] using b,by simp only[Dat.pd,Fc];omega⟩
theorem zC6{k:Nat}{ds:List Dat}(h: ∀d∈ds,okk k d):okk (k+1) (.lst ds):=by
 obtain⟨a,b,c⟩:=zLO h
 exact⟨by simpa[Dat.isD] using a,by simpa[Dat.pd,Dw] using b,by simp only[Dat.pd,Fc];omega⟩
theorem okk.ok{k:Nat}{d:Dat}(h:okk k d)(hk:k<=64:=by decide):okD d=true:=by
 unfold okD Cz
 simp only[h.1,h.2.1,Lr,A3,decide_eq_true_eq]
 have:=h.2.2
 omega
@[simp] theorem yDX{a:String}:okD (.str (Av a))=true:=(zCN (k:=0)).ok
theorem zCI{k:Nat}: ∀d∈([]:List Dat),okk k d:=fun _ h=>nomatch h
theorem zAX{k:Nat}{d:Dat}{ds:List Dat}(h:okk k d)(t: ∀d∈ds,okk k d): ∀e∈d::ds,okk k e:=fun e he=>by
 rcases A8.mp he with z|z
 ·rw[z];exact h
 ·exact t e z
@[simp] theorem yB6{i j:Int}:eqD (.int i) (.int j)=decide (i=j):=by show(i==j)=_;rw[Ie]
@[simp] theorem yHP{a b:String}:eqD (.str (Av a)) (.str (Av b))=decide (a=b):=by
 show(Av a==Av b)=_
 rw[Ie]
 simp only[zAY]
@[simp] theorem yH5{i j:Int}:oEq (.int i) (.int j)=some (.bl (decide (i=j))):=by unfold oEq;simp
@[simp] theorem yGS{i j:Int}:oNe (.int i) (.int j)=some (.bl (!decide (i=j))):=by unfold oNe;simp
@[simp] theorem yH4{a b:String}:oEq (.str (Av a)) (.str (Av b))=some (.bl (decide (a=b))):=by unfold oEq;simp
@[simp] theorem yGR{a b:String}:oNe (.str (Av a)) (.str (Av b))=some (.bl (!decide (a=b))):=by unfold oNe;simp
theorem yA9{j k:Nat}{d e:Dat}(h:okk j d)(h':okk k e)(hj:j<=64:=by decide)(hk:k<=64:=by decide):oEq d e=some (.bl (eqD d e)):=by
 unfold oEq
 rw[h.ok hj,h'.ok hk]
 rfl
theorem zTA{j k:Nat}{d e:Dat}(h:okk j d)(h':okk k e)(hj:j<=64:=by decide)(hk:k<=64:=by decide):oNe d e=some (.bl (!eqD d e)):=by
 unfold oNe
 rw[h.ok hj,h'.ok hk]
 rfl
theorem zWB{j k:Nat}{neg:Bool}{d:Dat}{ds:List Dat}(h:okk j d)(h': ∀e∈ds,okk k e)(hj:j<=64:=by decide)(hk:k+1<=64:=by decide):oInD neg d (.tup ds)=some (.bl (if neg then !inE d ds else inE d ds)):=by
 unfold oInD
 simp[h.ok hj,(zE7 h').ok hk]
theorem zN5{j k:Nat}{neg:Bool}{d:Dat}{ds:List Dat}(h:okk j d)(h': ∀e∈ds,okk k e)(hj:j<=64:=by decide)(hk:k+1<=64:=by decide):oInD neg d (.lst ds)=some (.bl (if neg then !inE d ds else inE d ds)):=by
 unfold oInD
 simp[h.ok hj,(zC6 h').ok hk]
@[simp] theorem yJC{d:Dat}:inE d []=false:=(rfl)
@[simp] theorem zWS{d e:Dat}{ds:List Dat}:inE d (e::ds)=(eqD e d || inE d ds):=(rfl)
@[simp] theorem zTL{neg:Bool}{a b c:String}:oInD neg (.str (Av a)) (.tup [.str (Av b),.str (Av c)])=some (.bl (if neg then !(decide (b=a) || decide (c=a)) else decide (b=a) || decide (c=a))):=by
 rw[zWB (j:=0) zCN (zAX (zCN (k:=0)) (zAX zCN zCI))]
 simp
@[simp] theorem yB1{neg:Bool}{a b c d e:String}:oInD neg (.str (Av a)) (.tup [.str (Av b),.str (Av c),.str (Av d),.str (Av e)])=some (.bl (if neg then !(decide (b=a) || (decide (c=a) || (decide (d=a) || decide (e=a)))) else decide (b=a) || (decide (c=a) || (decide (d=a) || decide (e=a))))):=by
 rw[zWB (j:=0) zCN (zAX (zCN (k:=0)) (zAX zCN (zAX zCN (zAX zCN zCI))))]
 simp
@[simp] theorem yJB{neg:Bool}{a b c:Int}:oInD neg (.int a) (.tup [.int b,.int c])=some (.bl (if neg then !(decide (b=a) || decide (c=a)) else decide (b=a) || decide (c=a))):=by
 rw[zWB (j:=0) zCO (zAX (zCO (k:=0)) (zAX zCO zCI))]
 simp
theorem zNN{k:Nat}{d:Dat}(h:okk k d):eqD d d=true:=PySem.SeqAt.eqv_refl _ h.2.1
noncomputable def Scp(ns:List Int):Dat:= .lst (ns.map .int)
noncomputable def Twn(n:Nat):Dat:= .lst (B4 n (.int 0))
theorem zKP: ∀ns:List Int,isDs (ns.map Dat.int)=true
 |[]=>rfl
 |n::ns=>by simp[isDs,Dat.isD,zKP ns]
theorem zN2: ∀ns:List Int,pds (ns.map Dat.int)=ns.map Jn
 |[]=>rfl
 |n::ns=>by simp[pds,Dat.pd,zN2 ns]
theorem zT9(ns:List Int):okD (.lst (ns.map .int))=true:=by
 unfold okD
 simp only[Dat.isD,zKP,Dat.pd,zN2,Lr]
 exact zLH ns
theorem zE3(ns:List Int):oEq (.lst (ns.map .int)) (.lst [])=some (.bl ns.isEmpty):=by
 unfold oEq
 rw[zT9,show okD (.lst [])=true from by decide+kernel]
 cases ns<;>rfl
theorem zKQ: ∀n:Nat,zH4 (B4 n (.int 0))=true
 |0=>rfl
 |n+1=>by simp[List.replicate_succ,zH4,Dat.hard,zKQ n]
@[simp] theorem yBT(n:Nat):zFN (Twn n)=true:=zKQ n
theorem zL1: ∀(ds:List Dat) (a b:Dat) (r:Int) (s:Sl),∃r' s',forV (gN 3) (sSet 2 (xV (f2 zO9 (fV 2) (fC (.int 1000003))))) ds [.va a,.va b,.va (.int r),s]=some (.nx [.va a,.va b,.va (.int r'),s'])
 |[],a,b,r,s=>⟨r,s,rfl⟩
 |d::ds,a,b,r,s=>by
  obtain⟨r',s',h⟩:=zL1 ds a b (r/1000003) (.va d)
  exact⟨r',s',by simp[cDiv,h]⟩
theorem zHW{ns:List Int}{i:Int}(h0:0<=i)(h1:i<ns.length): ∃r∈ns,atI (ns.map Dat.int) i=some (.int r):=by
 obtain⟨x,hx,e⟩:=zRU (xs:=ns.map Dat.int) h0 (by simpa using h1)
 obtain⟨r,hr,rfl⟩:=By.mp hx
 exact⟨r,hr,e⟩
theorem zWY(ns:List Int)(k:Nat)(hl:ns.length<=63)(hk:k<1000000): ∃r,zBL [Scp ns,.int k]=some (.int r,[]):=by
 unfold zBL
 rw[zAC]
 unfold zDX zEH Scp
 by_cases h:(k:Int)<ns.length
 ·obtain ⟨r,_,e⟩ := zHW (ns := ns) (i := k) (by omega) h
  exact⟨r,by simp[envD,h,e]⟩
 ·cases ns with
  |nil=>
   have h0: ¬((k:Int)<0):=by omega
   have e:oEq (.lst []) (.lst [])=some (.bl true):=zE3 []
   exact⟨0,by simp[envD,h0,e]⟩
  |cons m ms=>
   generalize hns:m::ms=ns at*
   have cn:(0:Int)<ns.length:=by rw[<- hns];simp
   have hb:=Ey (k:Int) (show(ns.length:Int)≠0 by omega)
   have hb2:=D3 (k:Int) cn
   obtain⟨r,_,e⟩:=zHW (ns:=ns) hb hb2
   have he:ns.isEmpty=false:=by rw[<- hns];rfl
   have hq:0<=(k:Int)/ns.length:=Ic (by omega) (by omega)
   have hm: -4611686018427387904<=(if(60:Int)<(k:Int)/ns.length then 60 else(k:Int)/ns.length)/\(if(60:Int)<(k:Int)/ns.length then 60 else(k:Int)/ns.length)<4611686018427387904:=by split<;>omega
   obtain⟨r',s',e2⟩:=zL1 (rngD 0 (if(60:Int)<(k:Int)/ns.length then 60 else(k:Int)/ns.length).toNat) (.lst (ns.map .int)) (.int k) r .no
   have hp2:0<ns.length:=by omega
   have hp3:(ns.length:Int)<1073741824:=by omega
   exact⟨r*31+k+r'*101,by simp[envD,h,zE3,he,cn,hp2,hp3,e,cDiv,hm,e2,cMul]⟩
noncomputable def cel(ns:List Int)(k:Nat):Int:=match zBL [Scp ns,.int k] with
 |some (.int r,_)=>r
 |_=>0
theorem yBC(ns:List Int)(k:Nat)(hl:ns.length<=63)(hk:k<1000000):zBL [Scp ns,.int k]=some (.int (cel ns k),[]):=by
 obtain⟨r,e⟩:=zWY ns k hl hk
 unfold cel
 rw[e]
noncomputable def drw(ns:List Int)(n:Nat)(b:Int):Int:=((cel ns (n+1)*1103515245+7919*(((n+1:Nat)):Int)+12345) % 2147483647) ^ 5 % 2147483647 % 999983 % b
theorem zJN(ns:List Int)(n:Nat){b:Int}(h:0<b):0<=drw ns n b:=Ey _ (by omega)
theorem zRB(ns:List Int)(n:Nat){b:Int}(h:0<b):drw ns n b<b:=D3 _ h
theorem yAF(ns:List Int)(n:Nat)(b:Int)(hl:ns.length<=63)(hn:n<900000)(hb:0<b):zCS [Scp ns,.int ((n+1:Nat):Int),.int b]=some (.int (drw ns n b),[]):=by
 have e:=yBC ns (n+1) hl (by omega)
 unfold zCS
 rw[zAC]
 unfold zF1 drw
 have e1:=Ey (cel ns (n+1)*1103515245+7919*((n+1:Nat):Int)+12345) (show(2147483647:Int)≠0 by decide)
 have e2:=D3 (cel ns (n+1)*1103515245+7919*((n+1:Nat):Int)+12345) (show(0:Int)<2147483647 by decide)
 generalize hz:(cel ns (n+1)*1103515245+7919*((n+1:Nat):Int)+12345) % 2147483647=z at*
 have hz2:z.natAbs<18446744073709551616:=by omega
 generalize hk:((n+1:Nat):Int)=k at*
 simp[envD,e,cMul,cPow,hz,hz2,hb]
theorem zDC(ns:List Int)(n:Nat)(b:Int)(hl:ns.length<=63)(hn:n<900000)(hb:0<b):zAK [Scp ns,Twn n,.int b]=some (.int (drw ns n b),[Twn (n+1)]):=by
 have e:=yAF ns n b hl hn hb
 unfold zAK
 rw[zAC]
 unfold zG9
 have ht:Twn n= .lst (B4 n (.int 0)):=rfl
 have ht2:Twn (n+1)= .lst (B4 n (.int 0)++[.int 0]):=by unfold Twn;rw[List.replicate_succ']
 rw[ht2,ht]
 have hs:n<16777216:=by omega
 push_cast at e
 simp[envD,hs,e]
theorem zDW(ns:List Int)(n:Nat)(xs:List Dat)(hl:ns.length<=63)(hn:n<900000)(hx:0<xs.length): ∃x∈xs,zAP [Scp ns,Twn n,.lst xs]=some (x,[Twn (n+1)]):=by
 have hx':(0:Int)<xs.length:=by omega
 obtain⟨x,hm,e⟩:=zRU (xs:=xs) (zJN ns n hx') (zRB ns n hx')
 refine⟨x,hm,?_⟩
 unfold zAP
 rw[zAC]
 unfold zG7
 simp[envD,zDC ns n _ hl hn hx',e]
theorem zTQ(ns:List Int)(n:Nat)(b:Int)(hl:ns.length<=63)(hn:n<900000)(hb:0<b)(tl:Ev):zAI 3 [1] zAK (aE (fV 0) (aO 1 (aE (fC (.int b)) aNil))) (.va (Scp ns):: .ow (Twn n)::tl)=some (.int (drw ns n b),.va (Scp ns):: .ow (Twn (n+1))::tl):=by simp[zDC ns n b hl hn hb]
abbrev Sn(m:Nat)(d:Dat):Prop:= ∃(ks:List Key) (vs:List Int),d= .dct ks (vs.map .int)/\ks.length=vs.length/\ks.Nodup/\ks.length<=m
abbrev Seen(n:Nat)(d:Dat):Prop:=Sn (8*n) d
theorem Seen.mono{n m:Nat}{d:Dat}(h:Seen n d)(hn:n<=m):Seen m d:=by
 obtain⟨ks,vs,h1,h2,h3,h4⟩:=h
 exact⟨ks,vs,h1,h2,h3,by omega⟩
theorem yAK: ∀(ks:List Key) (vs:List Int) (k:Key) (q:Int),∃r,(zB4 ks (vs.map .int) k).getD (.int q)= .int r
 | [],_,_,q => ⟨q,by simp [zB4]⟩
 | _ :: _,[],_,q => ⟨q,by simp [zB4]⟩
 | k' :: ks,v :: vs,k,q => by
  by_cases h:k'=k
  ·exact ⟨v,by simp [zB4,h]⟩
  ·obtain⟨r,e⟩:=yAK ks vs k q
   exact⟨r,by simp only[An,zB4,if_neg h];exact e⟩
theorem putI: ∀(ks:List Key) (vs:List Int) (k:Key) (p:Int),ks.length=vs.length->ks.Nodup-> ∃(ks':List Key) (vs':List Int),zDV ks (vs.map .int) k (.int p)=(ks',vs'.map .int)/\ks'.length=vs'.length/\ks'.Nodup/\ks'.length<=ks.length+1/\(∀z∈ks',z=k∨z∈ks)/\zB4 ks' (vs'.map .int) k=some (.int p)
 | [],[],k,p,_,_ => ⟨[k],[p],by simp [zDV],rfl,by simp,by simp,by simp,by simp [zB4]⟩
 | k' :: ks,v :: vs,k,p,hl,hn => by
  by_cases h:k'=k
  ·subst h
   exact⟨k'::ks,p::vs,by simp[zDV],by simpa using hl,hn,by simp,by simp,by simp[zB4]⟩
  ·obtain ⟨ks',vs',e,h1,h2,h3,h4,h5⟩ := putI ks vs k p (by simpa using hl) (Bv.mp hn).2
   refine⟨k'::ks',v::vs',by simp only[An,zDV,if_neg h,e],by simp[h1],?_,by simp;omega,?_,by simp only[An,zB4,if_neg h];exact h5⟩
   ·refine Bv.mpr ⟨fun z => ?_,h2⟩
    rcases h4 _ z with y|y
    ·exact h y
    ·exact(Bv.mp hn).1 y
   ·intro z hz
    rcases A8.mp hz with y|y
    ·exact .inr (by rw[y];exact Ak)
    ·exact(h4 z y).imp id (Ag _)
theorem zN0(ns:List Int)(n:Nat)(sn:Dat)(x:Str)(a7:Int)(hl:ns.length<=63)(hn:n<800000)(hs:Seen n sn)(hr:0<a7):
  ∃p sn',0<=p/\p<a7/\Seen (n+2) sn'/\zBH [Scp ns,Twn n,sn,.str x,.int a7]=some (.int p,[Twn (n+2),sn']):=by
 obtain⟨ks,vs,rfl,h1,h2,h3⟩:=hs
 obtain⟨a,ha⟩:=yAK ks vs (.inr x) (drw ns n a7)
 obtain⟨y,hy,ey⟩:=zDW ns (n+1) [.int 1,.int 1,.int 1,.int 0,.int 3] hl (by omega) (by simp)
 obtain⟨b,rfl⟩: ∃b,y= .int b:=by
  simp only[A8,Aj,or_false] at hy
  rcases hy with h|h|h|h|h<;>exact⟨_,h⟩
 obtain⟨ks',vs',e,h4,h5,h6,h7,h8⟩:=putI ks vs (.inr x) ((a+b) % a7) h1 h2
 refine⟨(a+b) % a7,.dct ks' (vs'.map .int),Ey _ (by omega),D3 _ hr,⟨ks',vs',rfl,h4,h5,by omega⟩,?_⟩
 have hk:ks.length<16777216:=by omega
 unfold zBH
 rw[zAC]
 unfold zF0
 simp[envD,zDC ns n a7 hl (by omega) hr,ha,ey,hr,hk,h2,e,h8]
inductive zBR(M:Int->Prop):Dat->Prop
 |number {n:Int}:0<=n->n<=999->zBR M (.tup [.str "number",.int n])
 |two {x:String} {a b:Int}:x∈["over","plus","minus","times","least","most","less"]->M a->M b->zBR M (.tup [.str x,.int a,.int b])
 |pick {c a b:Int}:M c->M a->M b->zBR M (.tup [.str "pick",.int c,.int a,.int b])
 |load {p:Int}:0<=p->p<=63->zBR M (.tup [.str "load",.int p])
 |take {p c a:Int}:0<=p->p<=63->M c->M a->zBR M (.tup [.str "take",.int p,.int c,.int a])
 |store {p a:Int}:0<=p->p<=63->M a->zBR M (.tup [.str "store",.int p,.int a])
 |put {p a c:Int}:0<=p->p<=63->M a->M c->zBR M (.tup [.str "put",.int p,.int a,.int c])
theorem zSH(ns:List Int)(n:Nat)(made:List Int)(hl:ns.length<=63)(hn:n<800000)(hm:0<made.length)(s:Sl): ∃a b c,a∈made/\b∈made/\c∈made∧
  zC2 3 1 (gN 3) bYes (f2 oIxA (fV 2) (f2 oMax (fC (.int 0)) (f2 oSub (f2 oSub (f1 oLen (fV 2)) (fC (.int 1))) (zAI 3 [1] zAK (aE (fV 0) (aO 1 (aE (fC (.int 6)) aNil))))))) [.int 0,.int 1,.int 2] [] [.va (Scp ns),.ow (Twn n),.va (.lst (made.map .int))]=
   some ([.int a,.int b,.int c],[.va (Scp ns),.ow (Twn (n+3)),.va (.lst (made.map .int))]):=by
 have one: ∀m,∃a∈made,atI (made.map Dat.int) (if(made.length:Int) - 1 - drw ns m 6>0 then(made.length:Int) - 1 - drw ns m 6 else 0)=some (.int a):=fun m=>by
  have:=zJN ns m (b:=6) (by decide)
  exact zHW (by split<;>omega) (by split<;>omega)
 obtain⟨a,ha,ea⟩:=one n
 obtain⟨b,hb,eb⟩:=one (n+1)
 obtain⟨c,hc,ec⟩:=one (n+2)
 refine⟨a,b,c,ha,hb,hc,?_⟩
 have d0:=zDC ns n 6 hl (by omega) (by decide)
 have d1:=zDC ns (n+1) 6 hl (by omega) (by decide)
 have d2:=zDC ns (n+2) 6 hl (by omega) (by decide)
 simp only[gt_iff_lt,Int.sub_pos] at ea eb ec
 simp[d0,d1,d2,ea,eb,ec]
def onC(x:String):Prop:=x= "load" ∨x= "take" ∨x= "store" ∨x= "put"
def PlOK(a7:Int)(row:Dat):Prop:= ∀(x:String) (p:Int) (t:List Dat),row= .tup (.str x:: .int p::t)->onC x->p<a7
theorem zHL{a7 p:Int}{x:String}{t:List Dat}(h:p<a7):PlOK a7 (.tup (.str x:: .int p::t)):=fun y q u e _=>by
 simp only[Dat.tup.injEq,G4,Dat.int.injEq] at e
 omega
theorem zQ7{a7:Int}{x:String}{t:List Dat}(h: ¬onC x):PlOK a7 (.tup (.str x::t)):=fun y q u e hy=>by
 simp only[Dat.tup.injEq,G4,Dat.str.injEq,zAY] at e
 rw[<- e.1] at hy
 exact absurd hy h
theorem zOW{x:String}(hx:x∈["over","plus","minus","times","least","most","less"]): ¬onC x:=fun h=>by
 simp only[A8,Aj,or_false] at hx
 rcases hx with rfl|rfl|rfl|rfl|rfl|rfl|rfl<;>rcases h with h|h|h|h<;>exact absurd h (by decide)
theorem zY9(ns:List Int)(n:Nat)(made:List Int)(sn:Dat)(a7:Int)(hl:ns.length<=63)(hn:n<700000)(hs:Seen n sn)(hr:0<a7)(hr2:a7<=64):
    ∃row n' sn',n<=n'/\n'<=n+10/\Seen n' sn'/\zBR (· ∈made) row/\PlOK a7 row/\zDS [Scp ns,Twn n,.lst (made.map .int),sn,.int a7]=some (row,[Twn n',sn']):=by
  have d0 := zTQ ns n 13 hl (by omega) (by decide)
  have k0 := zJN ns n (b := 13) (by decide)
  have k1 := zRB ns n (b := 13) (by decide)
  generalize drw ns n 13=kd at*
  unfold zDS
  rw[zAC]
  unfold zHY
  by_cases h0:made.isEmpty=true∨kd=0
  · have d1 := zTQ ns (n + 1) 2 hl (by omega) (by decide)
    have hor:made.isEmpty=true∨(made.isEmpty=false/\kd=0):=by
      cases hm:made.isEmpty with
      | true => exact .inl rfl
      | false => rcases h0 with h | h
                 · rw[hm] at h;cases h
                 · exact .inr ⟨rfl,h⟩
    by_cases h2:drw ns (n+1) 2=0
    · have d2 := zTQ ns (n + 2) 1000 hl (by omega) (by decide)
      obtain⟨y,hy,ey⟩:=zDW ns (n+3) [.int 0,.int 1,.int 2,.int 5,.int 999,.int (drw ns (n+2) 1000)] hl (by omega) (by simp)
      obtain⟨b,rfl,hb0,hb1⟩: ∃b,y= .int b/\0<=b/\b<=999:=by
        have:=zJN ns (n+2) (b:=1000) (by decide)
        have:=zRB ns (n+2) (b:=1000) (by decide)
        simp only[A8,Aj,or_false] at hy
        rcases hy with h|h|h|h|h|h<;>exact⟨_,h,by omega,by omega⟩
      refine⟨.tup [.str "number",.int b],n+4,sn,by omega,by omega,hs.mono (by omega),.number hb0 hb1,zQ7 (by unfold onC;decide),?_⟩
      rcases hor with h|⟨h,h'⟩
      · simp[envD,↓d0,zE3,h,↓d1,h2,↓d2,ey]
      · simp[envD,↓d0,zE3,h,h',↓d1,h2,↓d2,ey]
    · obtain ⟨p,sn',p0,p1,hs',ep⟩ := zN0 ns (n + 2) sn "load" a7 hl (by omega) (hs.mono (by omega)) hr
      refine⟨.tup [.str "load",.int p],n+4,sn',by omega,by omega,hs',.load p0 (by omega),zHL p1,?_⟩
      rcases hor with h|⟨h,h'⟩
      · simp[envD,↓d0,zE3,h,↓d1,h2,ep]
      · simp[envD,↓d0,zE3,h,h',↓d1,h2,ep]
  · obtain⟨hm,hkd⟩:=not_or.mp h0
    have hm':made.isEmpty=false:=by simpa using hm
    have cn:0<made.length:=by
      cases made with
      |nil=>cases hm'
      |cons=>simp
    obtain⟨a,b,c,ha,hb,hc,e3⟩:=zSH ns (n+1) made hl (by omega) cn .no
    have lu:(kd=1∨kd=2)∨kd=3∨(kd=4∨kd=5)∨kd=6∨kd=7∨(8<=kd/\kd<=12):=by omega
    have pl: ∀x:Str,∃p sn',0<=p/\p<=63/\p<a7/\Seen (n+6) sn'/\ ∀s tl,zAI 5 [1,2] zBH (aE (fV 0) (aO 1 (aO 3 (aE (fC (.str x)) (aE (fV 4) aNil))))) (.va (Scp ns):: .ow (Twn (n+4))::s:: .ow sn:: .va (.int a7)::tl)=some (.int p,.va (Scp ns):: .ow (Twn (n+6))::s:: .ow sn':: .va (.int a7)::tl):=fun x=>by
      obtain⟨p,sn',p0,p1,hs',ep⟩:=zN0 ns (n+4) sn x a7 hl (by omega) (hs.mono (by omega)) hr
      exact⟨p,sn',p0,by omega,p1,hs',fun s tl=>by simp[ep]⟩
    rcases lu with h|h|h|h|h|h
    · have t12 : (decide (1 = kd) || decide (2 = kd)) = true := by rcases h with rfl | rfl <;> decide
      obtain⟨p,sn',p0,p1,p2,hs',ep⟩:=pl "load"
      exact⟨.tup [.str "load",.int p],n+6,sn',by omega,by omega,hs',.load p0 p1,zHL p2,by simp[envD,↓d0,zE3,hm',hkd,zBG,e3,↓ep,t12]⟩
    · subst h
      obtain⟨p,sn',p0,p1,p2,hs',ep⟩:=pl "take"
      exact⟨.tup [.str "take",.int p,.int c,.int a],n+6,sn',by omega,by omega,hs',.take p0 p1 hc ha,zHL p2,by simp[envD,↓d0,zE3,hm',zBG,e3,↓ep]⟩
    · have t45 : (decide (4 = kd) || decide (5 = kd)) = true := by rcases h with rfl | rfl <;> decide
      have n3: ¬kd=3:=by omega
      have m1: ¬1=kd:=by omega
      have m2: ¬2=kd:=by omega
      obtain⟨p,sn',p0,p1,p2,hs',ep⟩:=pl "store"
      exact⟨.tup [.str "store",.int p,.int a],n+6,sn',by omega,by omega,hs',.store p0 p1 ha,zHL p2,by simp[envD,↓d0,zE3,hm',hkd,zBG,e3,↓ep,n3,m1,m2,t45]⟩
    · subst h
      obtain⟨p,sn',p0,p1,p2,hs',ep⟩:=pl "put"
      exact⟨.tup [.str "put",.int p,.int a,.int c],n+6,sn',by omega,by omega,hs',.put p0 p1 ha hc,zHL p2,by simp[envD,↓d0,zE3,hm',zBG,e3,↓ep]⟩
    · subst h
      exact⟨.tup [.str "pick",.int c,.int a,.int b],n+4,sn,by omega,by omega,hs.mono (by omega),.pick hc ha hb,zQ7 (by unfold onC;decide),by simp[envD,↓d0,zE3,hm',zBG,e3]⟩
    · have d4 := zTQ ns (n + 4) 7 hl (by omega) (by decide)
      have q0:=zJN ns (n+4) (b:=7) (by decide)
      have q1:=zRB ns (n+4) (b:=7) (by decide)
      obtain⟨y,hy,ey⟩:=zRU (xs:=["over","plus","minus","times","least","most","less"].map fun s:String=>Dat.str (Av s)) q0 (by simpa using q1)
      obtain⟨x,hx,rfl⟩:=By.mp hy
      simp only[An,Ce] at ey
      have n1: ¬kd=1:=by omega
      have n2: ¬kd=2:=by omega
      have n3: ¬kd=3:=by omega
      have n4: ¬kd=4:=by omega
      have n5: ¬kd=5:=by omega
      have n6: ¬kd=6:=by omega
      have n7: ¬kd=7:=by omega
      have m1: ¬1=kd:=by omega
      have m2: ¬2=kd:=by omega
      have m4: ¬4=kd:=by omega
      have m5: ¬5=kd:=by omega
      exact⟨.tup [.str x,.int a,.int b],n+5,sn,by omega,by omega,hs.mono (by omega),.two hx ha hb,zQ7 (zOW hx),by simp[envD,↓d0,zE3,hm',hkd,zBG,e3,n3,n6,n7,m1,m2,m4,m5,↓d4,ey]⟩
inductive Kd where
 |w|p|n
 deriving DecidableEq
def Nm(kds:List Kd)(k:Kd)(a:Int):Prop:=0<=a/\kds[a.toNat]? =some k
theorem Nm.lt{kds:List Kd}{k:Kd}{a:Int}(h:Nm kds k a):a<kds.length:=by
 have:=(A5.mp h.2).1
 have:=h.1
 omega
theorem Nm.snoc{kds:List Kd}{k j:Kd}{a:Int}(h:Nm kds k a):Nm (kds++[j]) k a:=⟨h.1,by rw[A6 (A5.mp h.2).1];exact h.2⟩
theorem Nm.new{kds:List Kd}{k:Kd}:Nm (kds++[k]) k kds.length:=⟨by omega,by simp⟩
noncomputable def mk1(k:Kd):Dat->Kd
 | .tup (.str x::_)=>if x= "store" ∨x= "put" then .n else k
 |_=> .n
theorem zBR.imp{M M':Int->Prop}{row:Dat}(h:zBR M row)(f: ∀a,M a->M' a):zBR M' row:=by
 cases h with
 |number a b=>exact .number a b
 |two a b c=>exact .two a (f _ b) (f _ c)
 |pick a b c=>exact .pick (f _ a) (f _ b) (f _ c)
 |load a b=>exact .load a b
 |take a b c d=>exact .take a b (f _ c) (f _ d)
 |store a b c=>exact .store a b (f _ c)
 |put a b c d=>exact .put a b (f _ c) (f _ d)
theorem zBR.hard{M:Int->Prop}{row:Dat}(h:zBR M row):row.hard=true:=by
 cases h<;>simp[Dat.hard,zH4]
theorem zKZ(ns:List Int)(b:Int)(hl:ns.length<=63)(hb:0<b)(fe:VF)(x:Sl)(tail:Ev)(nn:Nat)(hnn:nn=tail.length+2)
  (hfe: ∀n d,n<800000->fe ([.va (Scp ns),.ow (Twn n)]++tail++[.va d])=some (.int (drw ns n b),[.va (Scp ns),.ow (Twn (n+1))]++tail++[.va d])):
  ∀(ds:List Dat) (n:Nat) (acc:List Dat),n+ds.length<800000->acc.length+ds.length<1000000-> ∃ws:List Int,ws.length=ds.length/\(∀w∈ws,0<=w/\w<b)∧
   zC2 nn 1 (gN nn) bYes fe ds acc ([.va (Scp ns),.ow (Twn n)]++tail)=some (acc++ws.map .int,[.va (Scp ns),.ow (Twn (n+ds.length))]++tail)
 | [],n,acc,_,_ => ⟨[],rfl,(fun _ h => nomatch h),by simp⟩
 | d :: ds,n,acc,hn,ha => by
  obtain⟨ws,h1,h2,h3⟩:=zKZ ns b hl hb fe x tail nn hnn hfe ds (n+1) (acc++[.int (drw ns n b)]) (by simp at hn;omega) (by simp at ha⊢;omega)
  refine⟨drw ns n b::ws,by simp[h1],fun w hw=> ?_,?_⟩
  ·rcases A8.mp hw with z|z
   ·rw[z];exact⟨zJN ns n hb,zRB ns n hb⟩
   ·exact h2 w z
  ·have e := hfe n d (by simp at hn;omega)
   have b7:([Sl.va (Scp ns),Sl.ow (Twn n)]++tail++[Sl.no]).set nn (.va d)=[Sl.va (Scp ns),Sl.ow (Twn n)]++tail++[Sl.va d]:=by
    rw[D0 _ _ (by simp[hnn])]
    simp[hnn]
   have ao:([Sl.va (Scp ns),Sl.ow (Twn (n+1))]++tail++[Sl.va d]).take nn=[Sl.va (Scp ns),Sl.ow (Twn (n+1))]++tail:=by rw[Bw (by simp[hnn]),Bm (by simp[hnn])]
   have aq:acc.length<16777216:=by simp at ha;omega
   simp only[zGF,zTC,gN_e,b7,zO5,zUV,zSS,e,zSR,if_pos aq,ao,h3]
   simp[show n+1+ds.length=n+(ds.length+1) by omega]
@[simp] theorem yGQ{i:Int}:oNeg (.int i)=some (.int (-i)):=(rfl)
theorem zFS{ds:List Dat}{k:Nat}(h:k<=ds.length):cutD ds (some (k:Int)) none=ds.drop k:=by
 unfold cutD
 rw[HT.zPK,HT.zMS,E5 h,Bm (by simp)]
theorem zGE{ds:List Dat}{k:Nat}:cutD ds none (some (k:Int))=ds.take k:=by
 unfold cutD
 rw[HT.zPK,HT.zMS]
 simp only[Il,Nat.sub_zero]
 by_cases h:k<=ds.length
 ·rw[E5 h]
 ·rw[Nat.min_eq_right (by omega),Bm (by omega),Bm (by omega)]
@[simp] theorem yHS{d:Dat}{ds:List Dat}:cutD (d::ds) (some 1) none=ds:=zFS (k:=1) (by simp)
@[simp] theorem yHR{d e:Dat}{ds:List Dat}:cutD (d::e::ds) (some 2) none=ds:=zFS (k:=2) (by simp)
@[simp] theorem yEZ{ds:List Dat}:cutD ds none (some 2)=ds.take 2:=zGE (k:=2)
@[simp] theorem yF0{ds:List Dat}:cutD ds none (some 1)=ds.take 1:=zGE (k:=1)
@[simp] theorem yF8{α:Type}{xs:List α}{x:α}:atI (xs++[x]) (-1)=some x:=by
 unfold atI ixN
 rw[if_neg (by decide),if_pos (by simp;omega)]
 have e:(-1+((xs++[x]).length:Int)).toNat=xs.length:=by simp;omega
 show(xs++[x])[(-1+((xs++[x]).length:Int)).toNat]? =some x
 rw[e]
 simp
@[simp] theorem yJL{α:Type}{x:α}{xs:List α}:atI (x::xs) 0=some x:=by rw[zEU (by decide) (by simp)];rfl
@[simp] theorem yJK{α:Type}{x y:α}{xs:List α}:atI (x::y::xs) 1=some y:=by rw[zEU (by decide) (by simp;omega)];rfl
@[simp] theorem yJJ{α:Type}{x y z:α}{xs:List α}:atI (x::y::z::xs) 2=some z:=by rw[zEU (by decide) (by simp;omega)];rfl
theorem yED{k:Kd}{x:String}{t:List Dat}(hx:x∉["store","put"]):mk1 k (.tup (.str x::t))=k:=by
 simp only[A8,Aj,or_false,not_or] at hx
 simp[mk1,zAY,hx]
theorem yEC{k:Kd}{x:String}{t:List Dat}(hx:x= "store" ∨x= "put"):mk1 k (.tup (.str x::t))= .n:=by
 rcases hx with rfl|rfl<;>simp[mk1,zAY]
theorem zFG{M:Int->Prop}{row:Dat}(h:zBR M row): ∃(x:String) (t:List Dat),row= .tup (.str x::t)/\x∉["wide","gather","shuffle"]:=by
 cases h with
 |two hx _ _=>
  simp only[A8,Aj,or_false] at hx
  rcases hx with rfl|rfl|rfl|rfl|rfl|rfl|rfl<;>exact⟨_,_,rfl,by decide⟩
 |_=>exact⟨_,_,rfl,by decide⟩
@[simp] theorem yBO(n lo hi:Int):zB3 [.int n,.int lo,.int hi]=some (.bl (decide (lo<=n) && decide (n<=hi)),[]):=by
 unfold zB3
 rw[zAC]
 unfold zGA
 simp[envD]
 by_cases h:lo<=n<;>simp[h]
theorem zQE{x:String}(h:x∈["over","plus","minus","times","least","most","less"]):zBC [.str x]=some (.tup [.str "row",.str "row"],[]):=by
 simp only[A8,Aj,or_false] at h
 rcases h with rfl|rfl|rfl|rfl|rfl|rfl|rfl<;>kernel_rfl
@[simp] theorem yDM:zBC [.str "number"]=some (.tup [.str "word"],[]):=by kernel_rfl
@[simp] theorem yDL:zBC [.str "pick"]=some (.tup [.str "row",.str "row",.str "row"],[]):=by kernel_rfl
@[simp] theorem yDK:zBC [.str "load"]=some (.tup [.str "place"],[]):=by kernel_rfl
@[simp] theorem yDJ:zBC [.str "take"]=some (.tup [.str "place",.str "row",.str "row"],[]):=by kernel_rfl
@[simp] theorem yDI:zBC [.str "store"]=some (.tup [.str "place",.str "row"],[]):=by kernel_rfl
@[simp] theorem yDH:zBC [.str "put"]=some (.tup [.str "place",.str "row",.str "row"],[]):=by kernel_rfl
def Ab(able:List Bool)(a:Int):Prop:=0<=a/\able[a.toNat]? =some true
theorem yAI{able:List Bool}{a:Int}(h:Ab able a):zD5 [.int a,.lst (able.map .bl)]=some (.bl true,[]):=by
 have hlt:=(A5.mp h.2).1
 have h0:=h.1
 have h1:a<=(able.length:Int) - 1:=by omega
 have h2:atI (able.map Dat.bl) a=some (.bl true):=by
  rw[zEU h0 (by simp;omega)]
  simp[h.2]
 unfold zD5
 rw[zAC]
 unfold zG5
 simp[envD,h0,h1,h2]
theorem zCU{able:List Bool}{a:Int}(h:Ab able a):zEV [.str "row",.int a,.lst (able.map .bl)]=some (.bl true,[]):=by
 unfold zEV
 rw[zAC]
 unfold zKS
 simp[envD,yAI h]
theorem zR7{d:Dat}{a:Int}(h:0<=a)(h':a<=999):zEV [.str "word",.int a,d]=some (.bl true,[]):=by
 unfold zEV
 rw[zAC]
 unfold zKS
 simp[envD,zB5,h,h']
theorem zEN{d:Dat}{a:Int}(h:0<=a)(h':a<=63):zEV [.str "place",.int a,d]=some (.bl true,[]):=by
 unfold zEV
 rw[zAC]
 unfold zKS
 simp[envD,zEC,h,h']
@[simp] theorem yHT:blsD []=some []:=(rfl)
@[simp] theorem yHU{b:Bool}{ds:List Dat}:blsD (.bl b::ds)=(blsD ds).map fun ks=>b::ks:=(rfl)
@[simp] theorem yE9{g:List Bool->Bool}{ds:List Dat}:zWC g (.lst ds)=(blsD ds).map fun ks=> .bl (g ks):=(rfl)
@[simp] theorem yC0{ds:List Dat}:zipD ds []=[]:=by cases ds<;>rfl
@[simp] theorem yFI{d e:Dat}{ds es:List Dat}:zipD (d::ds) (e::es)= .tup [d,e]::zipD ds es:=(rfl)
theorem zTJ{able:List Bool}{row:Dat}(h:zBR (Ab able) row):zEO [row,.lst (able.map .bl)]=some (.bl true,[]):=by
 unfold zEO
 rw[zAC]
 unfold zJI
 cases h with
 |number a b=>simp[envD,zBG,zR7 a b]
 |two hx a b=>simp[envD,zBG,zQE hx,zCU a,zCU b]
 |pick a b c=>simp[envD,zBG,zCU a,zCU b,zCU c]
 |load a b=>simp[envD,zBG,zEN a b]
 |take a b c d=>simp[envD,zBG,zEN a b,zCU c,zCU d]
 |store a b c=>simp[envD,zBG,zEN a b,zCU c]
 |put a b c d=>simp[envD,zBG,zEN a b,zCU c,zCU d]
theorem zFT(nn:Nat)(fe:VF)(δ:Ev)(f:Dat->Dat)(hδ:δ.length=nn): ∀(ds acc:List Dat),(∀d∈ds,fe (δ++[Sl.va d])=some (f d,δ++[Sl.va d]))->acc.length+ds.length<16777216->zC2 nn 1 (gN nn) bYes fe ds acc δ=some (acc++ds.map f,δ)
 | [],acc,_,_ => by simp
 | d :: ds,acc,h,hl => by
  have b7:(δ++[Sl.no]).set nn (.va d)=δ++[Sl.va d]:=by
   rw[D0 _ _ (by omega)]
   simp[hδ]
  have ao:(δ++[Sl.va d]).take nn=δ:=by rw[Bw (by omega),Bm (by omega)]
  have aq:acc.length<16777216:=by simp at hl;omega
  have ih:=zFT nn fe δ f hδ ds (acc++[f d]) (fun e he=>h e (Ag _ he)) (by simp at hl⊢;omega)
  simp only[zGF,zTC,gN_e,b7,zO5,zUV,zSS,h d Ak,zSR,if_pos aq,ao,ih]
  simp
theorem zNU{α:Type}: ∀ds:List α,blsD (ds.map fun _=> .bl true)=some (ds.map fun _=>true)
 |[]=>rfl
 |d::ds=>by simp[zNU ds]
@[simp] theorem yBH{α β:Type}(f:α->β)(ds:List α):blsD (ds.map ((fun _=>Dat.bl true)∘f))=some (ds.map fun _=>true):=zNU ds
def Wd(w:Int):Prop:=0<=w/\w<=999
theorem yCB(a b:Int):zJ6 [a,b]=if a<=b then[a,b] else[b,a]:=by
 refine(zML ?_ ?_).symm
 ·split
  ·exact List.Perm.refl _
  ·exact List.Perm.swap _ _ _
 ·split
  ·simp;omega
  ·simp;omega
@[simp] theorem yBS{a b:Int}:zQK (.lst [.int a,.int b])=some (.lst (if a<=b then[.int a,.int b] else[.int b,.int a])):=by
 show some (Dat.lst ((zJ6 [a,b]).map Dat.int))=_
 rw[yCB]
 split<;>rfl
theorem zSG{a b:Int}(ha:Wd a)(hb:Wd b):0<=a*b/\a*b<=998001:=by
 obtain⟨a0,a1⟩:=ha
 obtain⟨b0,b1⟩:=hb
 exact⟨Int.mul_nonneg a0 b0,Int.le_trans (Int.mul_le_mul a1 b1 b0 (by decide)) (by decide)⟩
theorem zT6{a b:Int}(h0:0<=a)(hb:0<b):zDQ b (a+1) b=a/b:=by
 unfold zDQ
 split
 ·have e : a = (a - b) + 1 * b := by omega
  have:=Int.add_mul_ediv_right (a - b) 1 (show b≠0 by omega)
  rw[<- e] at this
  rw[this,show a+1 - b - 1=a - b by omega]
 ·rw[Int.ediv_eq_zero_of_lt h0 (by omega)]
theorem zRE{x:String}(hx:x∈["over","plus","minus","times","least","most","less"]) {a b:Int} (ha:Wd a) (hb:Wd b): ∃r,zCF [.str x,.lst [.int a,.int b]]=some (r,[])/\zGY [.str x,.lst [.int a,.int b]]=some (r,[])/\(r= .non∨ ∃w,r= .int w/\Wd w):=by
 have ab:=zSG ha hb
 obtain⟨a0,a1⟩:=ha
 obtain⟨b0,b1⟩:=hb
 have hc:cMul a b=true:=by simp[cMul];omega
 have hc2: -18446744073709551616<a/\a<18446744073709551616∨ -18446744073709551616<b/\b<18446744073709551616:=by omega
 unfold zCF zGY
 rw[zAC,zAC]
 unfold zEM zNH
 simp only[A8,Aj,or_false] at hx
 rcases hx with rfl|rfl|rfl|rfl|rfl|rfl|rfl
 ·by_cases h:b=0
  ·subst h
   have e:zGX [.int a,.int 0]=some (.non,[]):=by
    unfold zGX
    rw[zAC]
    unfold zNG
    simp[envD]
   exact⟨.non,by simp[envD],by simp[envD,zES,zB4,zAY,zEX,e,Dat.hard],.inl rfl⟩
  ·have hp : 0 < b := by omega
   have hq:b<1073741824:=by omega
   have q0:0<=a/b:=Ic a0 (by omega)
   have q1:a/b<=a:=Int.ediv_le_self _ a0
   have hr:a/b<9223372036854775808:=by omega
   have e:zGX [.int a,.int b]=some (.int (a/b),[]):=by
    unfold zGX
    rw[zAC]
    unfold zNG
    simp[envD,h,cDiv,hp,hq]
   exact⟨.int (a/b),by simp[envD,h,zT6 a0 hp,hp,hq,hr],by simp[envD,zES,zB4,zAY,zEX,e,Dat.hard],.inr ⟨_,rfl,q0,by omega⟩⟩
 ·have e:zIV [.int a,.int b]=some (.int ((a+b) % 1000),[]):=by
   unfold zIV
   rw[zAC]
   unfold zR3
   simp[envD,zB5]
  refine⟨.int ((a+b) % 1000),?_,by simp[envD,zES,zB4,zAY,zEX,e,Dat.hard],.inr ⟨_,rfl,by omega,by omega⟩⟩
  have:a+b - (a+b)/1000*1000=(a+b) % 1000:=by omega
  simp[envD,zB4,zAY,hc2,cDiv,cMul,this]
 ·have e:zGJ [.int a,.int b]=some (.int ((a - b) % 1000),[]):=by
   unfold zGJ
   rw[zAC]
   unfold zLW
   simp[envD,zB5]
  refine⟨.int ((a - b) % 1000),?_,by simp[envD,zES,zB4,zAY,zEX,e,Dat.hard],.inr ⟨_,rfl,by omega,by omega⟩⟩
  have:a+1000 - b - (a+1000 - b)/1000*1000=(a - b) % 1000:=by omega
  simp[envD,zB4,zAY,hc2,cDiv,cMul,this]
 ·have e:zGI [.int a,.int b]=some (.int (a*b % 1000),[]):=by
   unfold zGI
   rw[zAC]
   unfold zLV
   simp[envD,zB5,hc]
  refine⟨.int (a*b % 1000),?_,by simp[envD,zES,zB4,zAY,zEX,e,Dat.hard],.inr ⟨_,rfl,by omega,by omega⟩⟩
  have:a*b - a*b/1000*1000=a*b % 1000:=by
   generalize a*b=z
   omega
  simp[envD,zB4,zAY,hc2,cDiv,cMul,this]
 ·have e:zGK [.int a,.int b]=some (.int (if a<=b then a else b),[]):=by
   unfold zGK
   rw[zAC]
   unfold zLX
   by_cases h:a<=b
   ·have h' : ¬ b < a := by omega
    simp[envD,h,h']
   ·have h' : b < a := by omega
    simp[envD,h,h']
  refine⟨.int (if a<=b then a else b),?_,by simp[envD,zES,zB4,zAY,zEX,e,Dat.hard],.inr ⟨_,rfl,by split<;>omega,by split<;>omega⟩⟩
  by_cases h:a<=b<;>simp[envD,h]
 ·have e:zIX [.int a,.int b]=some (.int (if a<=b then b else a),[]):=by
   unfold zIX
   rw[zAC]
   unfold zR5
   by_cases h:a<b
   ·have h' : a <= b := by omega
    simp[envD,h,h']
   ·by_cases h2:a=b
    ·subst h2
     simp[envD]
    ·have h' : ¬ a <= b := by omega
     simp[envD,h,h']
  refine⟨.int (if a<=b then b else a),?_,by simp[envD,zES,zB4,zAY,zEX,e,Dat.hard],.inr ⟨_,rfl,by split<;>omega,by split<;>omega⟩⟩
  by_cases h:a<=b<;>simp[envD,h]
 ·have e:zIY [.int a,.int b]=some (.int (if a<b then 1 else 0),[]):=by
   unfold zIY
   rw[zAC]
   unfold zR6
   by_cases h:a<b<;>simp[envD,h]
  refine⟨.int (if a<b then 1 else 0),?_,by simp[envD,zES,zB4,zAY,zEX,e,Dat.hard],.inr ⟨_,rfl,by split<;>omega,by split<;>omega⟩⟩
  by_cases h:a<b<;>simp[envD,h]
theorem zQ8{c a b:Int}(ha:Wd a)(hb:Wd b): ∃w,Wd w/\zCF [.str "pick",.lst [.int c,.int a,.int b]]=some (.int w,[])/\zGY [.str "pick",.lst [.int c,.int a,.int b]]=some (.int w,[]):=by
 have e:zIW [.int c,.int a,.int b]=some (.int (if c=0 then b else a),[]):=by
  unfold zIW
  rw[zAC]
  unfold zR4
  by_cases h:c=0<;>simp[envD,h]
 refine⟨if c=0 then b else a,by split<;>assumption,?_,?_⟩
 ·unfold zCF
  rw[zAC]
  unfold zEM
  by_cases h:c=0<;>simp[envD,h]
 ·unfold zGY
  rw[zAC]
  unfold zNH
  simp[envD,e,Dat.hard]
noncomputable def cnt:Dat->Nat
 | .tup (.str x::_)=>if x= "number" ∨x= "load" then 0 else if x= "store" then 1 else if x= "pick" then 3 else 2
 |_=>0
structure Both(row:Dat)(lane:Int)(ws cs:List Int)(m y:Dat)(cs':List Int):Prop where
 law:zAS [row,.int lane,.lst (ws.map .int),.lst (cs.map .int)]=some (.tup [m,y],[.lst (cs'.map .int)])
 prog:zBY [row,.lst (ws.map .int),.lst (cs.map .int),.int lane]=some (.tup [m,y],[.lst (cs'.map .int)])
 len:cs'.length=cs.length
 ok: ∀c∈cs',Wd c
 why:y= .non∨ ∃s:String,y= .str s
 made:m= .non∨ ∃w,m= .int w/\Wd w
 word:y= .non->mk1 .w row= .w-> ∃w,m= .int w/\Wd w
 keep:y≠ .non->cs'=cs
theorem zRM{cs:List Int}{i:Int}(h0:0<=i)(h1:i<cs.length)(hc: ∀c∈cs,Wd c): ∃w,Wd w/\atI (cs.map Dat.int) i=some (.int w):=by
 obtain⟨w,hw,e⟩:=zHW h0 h1
 exact⟨w,hc w hw,e⟩
theorem zNQ{cs:List Int}{i:Int}{w:Int}(h0:0<=i)(h1:i<cs.length)(hc: ∀c∈cs,Wd c)(hw:Wd w):ixN cs.length i=some i.toNat/\(cs.map Dat.int).set i.toNat (.int w)=(cs.set i.toNat w).map Dat.int/\ ∀c∈cs.set i.toNat w,Wd c:=by
 refine⟨by unfold ixN;rw[if_pos h0,if_pos h1],by rw[Ge],fun c h=> ?_⟩
 rcases List.mem_or_eq_of_mem_set h with z|z
 ·exact hc c z
 ·rw[z];exact hw
@[simp] theorem yDC{p:Int}{t:List Dat}:zAU [.tup (.str "load":: .int p::t)]=some (.int p,[]):=by unfold zAU;rw[zAC];unfold zCA;simp[envD,zCW,zB0]
@[simp] theorem yDB{p:Int}{t:List Dat}:zAU [.tup (.str "take":: .int p::t)]=some (.int p,[]):=by unfold zAU;rw[zAC];unfold zCA;simp[envD,zCW,zB0]
@[simp] theorem yDA{p:Int}{t:List Dat}:zAU [.tup (.str "store":: .int p::t)]=some (.int p,[]):=by unfold zAU;rw[zAC];unfold zCA;simp[envD,zCW,zB0]
@[simp] theorem yD9{p:Int}{t:List Dat}:zAU [.tup (.str "put":: .int p::t)]=some (.int p,[]):=by unfold zAU;rw[zAC];unfold zCA;simp[envD,zCW,zB0]
@[simp] theorem yD8{t:List Dat}:zAU [.tup (.str "pick"::t)]=some (.non,[]):=by unfold zAU;rw[zAC];unfold zCA;simp[envD,zCW,zB0]
theorem dne{x:String}(hx:x∈["over","plus","minus","times","least","most","less"]) {y:String} (hy:(["over","plus","minus","times","least","most","less"].contains y)=false):(¬x=y)/\¬y=x:=by
 have h: ¬x=y:=fun e=>by
  subst e
  rw[List.contains_iff_mem.mpr hx] at hy
  cases hy
 exact⟨h,fun e=>h e.symm⟩
theorem zVW{x:String}(hx:x∈["over","plus","minus","times","least","most","less"]) {t:List Dat}:zAU [.tup (.str x::t)]=some (.non,[]):=by
 unfold zAU;rw[zAC];unfold zCA
 have z1:=(dne hx (y:= "load") (by decide)).2
 have z2:=(dne hx (y:= "take") (by decide)).2
 have z3:=(dne hx (y:= "store") (by decide)).2
 have z4:=(dne hx (y:= "put") (by decide)).2
 simp[envD,zCW,zB0,z1,z2,z3,z4]
@[simp] theorem yI0{d:Dat}:zC3 [.str "load",d]=some (.bl true,[]):=by kernel_rfl
@[simp] theorem yHZ{d:Dat}:zC3 [.str "store",d]=some (.bl true,[]):=by kernel_rfl
@[simp] theorem yHY{a:Int}{ds:List Dat}:zC3 [.str "take",.lst (.int a::ds)]=some (.bl (!decide (a=0)),[]):=by unfold zC3;rw[zAC];unfold zFP;simp[envD]
@[simp] theorem yHX{a b:Int}{ds:List Dat}:zC3 [.str "put",.lst (.int a:: .int b::ds)]=some (.bl (!decide (b=0)),[]):=by unfold zC3;rw[zAC];unfold zFP;simp[envD]
theorem zDP{x:Str}{p lane:Int}{t ws cs:List Dat}{r:Dat×List Dat}{c:Dat}(hx:x= "load" ∨x= "take" ∨x= "store" ∨x= "put") (h:zAQ [.str x,.int (p+lane),.lst ws,.lst cs]=some (r.1,[c])):zBY [.tup (.str x:: .int p::t),.lst ws,.lst cs,.int lane]=some (r.1,[c]):=by
 unfold zBY;rw[zAC];unfold zFR
 rcases hx with rfl|rfl|rfl|rfl<;>simp[envD,h]
theorem zP7{M:Int->Prop}{row:Dat}(h:zBR M row)(hn: ∀n,row≠ .tup [.str "number",.int n]) (ws cs:List Int) (lane:Int) (hl:0<=lane) (hw:ws.length=cnt row) (hws: ∀w∈ws,Wd w) (hcs: ∀c∈cs,Wd c): ∃m y cs',Both row lane ws cs m y cs':=by
 cases h with
 | number => exact absurd rfl (hn _)
 | @two x a b hx _ _=>
  have hc:cnt (.tup [.str x,.int a,.int b])=2:=by
   simp only[A8,Aj,or_false] at hx
   rcases hx with rfl|rfl|rfl|rfl|rfl|rfl|rfl<;>kernel_rfl
  rw[hc] at hw
  match ws,hw with
  |[u,v],_=>
   have hu:=hws u (by simp)
   have hv:=hws v (by simp)
   obtain⟨r,e1,e2,e3⟩:=zRE hx hu hv
   have hno:zAS [.tup [.str x,.int a,.int b],.int lane,.lst [.int u,.int v],.lst (cs.map .int)]=some (.tup [r,if isN r=true then .str "nought" else .non],[.lst (cs.map .int)]):=by
    unfold zAS
    rw[zAC]
    unfold zB2
    have z1:=(dne hx (y:= "load") (by decide)).2
    have z2:=(dne hx (y:= "take") (by decide)).2
    have z3:=(dne hx (y:= "store") (by decide)).2
    have z4:=(dne hx (y:= "put") (by decide)).2
    rcases e3 with rfl|⟨w,rfl,_⟩<;>simp[envD,e1,isN,z1,z2,z3,z4]
   have hpr:zBY [.tup [.str x,.int a,.int b],.lst [.int u,.int v],.lst (cs.map .int),.int lane]=some (.tup [r,if isN r=true then .str "nought" else .non],[.lst (cs.map .int)]):=by
    have hp:=zVW hx (t:=[.int a,.int b])
    unfold zBY
    rw[zAC]
    unfold zFR
    have z1:=(dne hx (y:= "number") (by decide)).1
    rcases e3 with rfl|⟨w,rfl,_⟩<;>simp[envD,hp,e2,isN,z1]
   refine⟨r,if isN r=true then .str "nought" else .non,cs,hno,hpr,rfl,hcs,?_,e3,fun hy _=> ?_,fun _=>rfl⟩
   ·rcases e3 with rfl|⟨w,rfl,_⟩
    ·exact .inr ⟨"nought",by simp [isN]⟩
    ·exact .inl (by simp [isN])
   ·rcases e3 with rfl|h
    ·simp[isN] at hy
    ·exact h
 | @pick c a b _ _ _=>
  have hc:cnt (.tup [.str "pick",.int c,.int a,.int b])=3:=by kernel_rfl
  rw[hc] at hw
  match ws,hw with
  |[u,v,z],_=>
   obtain⟨w,h1,e1,e2⟩:=zQ8 (c:=u) (hws v (by simp)) (hws z (by simp))
   refine⟨.int w,.non,cs,?_,?_,rfl,hcs,.inl rfl,.inr ⟨w,rfl,h1⟩,fun _ _=>⟨w,rfl,h1⟩,fun _=>rfl⟩
   ·unfold zAS
    rw[zAC]
    unfold zB2
    simp[envD,e1]
   ·unfold zBY
    rw[zAC]
    unfold zFR
    simp[envD,e2]
 | @load p p0 p1=>
  have hc:cnt (.tup [.str "load",.int p])=0:=by kernel_rfl
  rw[hc] at hw
  match ws,hw with
  |[],_=>
   by_cases hb:(cs.length:Int)<=p+lane
   ·refine ⟨.non,.str "beyond",cs,?_,?_,rfl,hcs,.inr ⟨_,rfl⟩,.inl rfl,(fun z => nomatch z),fun _ => rfl⟩
    ·unfold zAS;rw[zAC];unfold zB2;simp[envD,hb]
    ·refine zDP (r := (_,[])) (by simp) ?_
     unfold zAQ;rw[zAC];unfold zAW;simp[envD,hb]
   ·obtain ⟨w,h1,e⟩ := zRM (i := p + lane) (by omega) (by omega) hcs
    refine⟨.int w,.non,cs,?_,?_,rfl,hcs,.inl rfl,.inr ⟨w,rfl,h1⟩,fun _ _=>⟨w,rfl,h1⟩,fun _=>rfl⟩
    ·unfold zAS;rw[zAC];unfold zB2;simp[envD,hb,e]
    ·refine zDP (r := (_,[])) (by simp) ?_
     unfold zAQ;rw[zAC];unfold zAW;simp[envD,hb,e,zB0]
 | @take p c a p0 p1 _ _=>
  have hc:cnt (.tup [.str "take",.int p,.int c,.int a])=2:=by kernel_rfl
  rw[hc] at hw
  match ws,hw with
  |[u,v],_=>
   have hv:=hws v (by simp)
   by_cases hu:u=0
   ·refine ⟨.int v,.non,cs,?_,?_,rfl,hcs,.inl rfl,.inr ⟨v,rfl,hv⟩,fun _ _ => ⟨v,rfl,hv⟩,fun _ => rfl⟩
    ·unfold zAS;rw[zAC];unfold zB2;simp[envD,hu]
    ·refine zDP (r := (_,[])) (by simp) ?_
     unfold zAQ;rw[zAC];unfold zAW;simp[envD,hu]
   ·by_cases hb:(cs.length:Int)<=p+lane
    ·refine ⟨.non,.str "beyond",cs,?_,?_,rfl,hcs,.inr ⟨_,rfl⟩,.inl rfl,(fun z => nomatch z),fun _ => rfl⟩
     ·unfold zAS;rw[zAC];unfold zB2;simp[envD,hu,hb]
     ·refine zDP (r := (_,[])) (by simp) ?_
      unfold zAQ;rw[zAC];unfold zAW;simp[envD,hu,hb]
    ·obtain ⟨w,h1,e⟩ := zRM (i := p + lane) (by omega) (by omega) hcs
     refine⟨.int w,.non,cs,?_,?_,rfl,hcs,.inl rfl,.inr ⟨w,rfl,h1⟩,fun _ _=>⟨w,rfl,h1⟩,fun _=>rfl⟩
     ·unfold zAS;rw[zAC];unfold zB2;simp[envD,hu,hb,e]
     ·refine zDP (r := (_,[])) (by simp) ?_
      unfold zAQ;rw[zAC];unfold zAW;simp[envD,hu,hb,e,zB0]
 | @store p a p0 p1 _=>
  have hc:cnt (.tup [.str "store",.int p,.int a])=1:=by kernel_rfl
  rw[hc] at hw
  match ws,hw with
  |[u],_=>
   have hu:=hws u (by simp)
   by_cases hb:(cs.length:Int)<=p+lane
   ·refine ⟨.non,.str "beyond",cs,?_,?_,rfl,hcs,.inr ⟨_,rfl⟩,.inl rfl,(fun z => nomatch z),fun _ => rfl⟩
    ·unfold zAS;rw[zAC];unfold zB2;simp[envD,hb]
    ·refine zDP (r := (_,[])) (by simp) ?_
     unfold zAQ;rw[zAC];unfold zAW;simp[envD,hb]
   ·obtain ⟨e1,e2,e3⟩ := zNQ (i := p + lane) (by omega) (by omega) hcs hu
    refine⟨.non,.non,cs.set (p+lane).toNat u,?_,?_,by simp,e3,.inl rfl,.inl rfl,fun _ z=>by simp[mk1,zAY] at z,fun z=>absurd rfl z⟩
    ·unfold zAS;rw[zAC];unfold zB2;simp[envD,hb,e1,Ge]
    ·refine zDP (r := (_,[])) (by simp) ?_
     unfold zAQ;rw[zAC];unfold zAW;simp[envD,hb,e1,Ge,zB0]
 | @put p a c p0 p1 _ _=>
  have hc:cnt (.tup [.str "put",.int p,.int a,.int c])=2:=by kernel_rfl
  rw[hc] at hw
  match ws,hw with
  |[u,v],_=>
   have hu:=hws u (by simp)
   by_cases hv:v=0
   ·refine ⟨.non,.non,cs,?_,?_,rfl,hcs,.inl rfl,.inl rfl,fun _ z => by simp [mk1,zAY] at z,fun z => absurd rfl z⟩
    ·unfold zAS;rw[zAC];unfold zB2;simp[envD,hv]
    ·refine zDP (r := (_,[])) (by simp) ?_
     unfold zAQ;rw[zAC];unfold zAW;simp[envD,hv]
   ·by_cases hb:(cs.length:Int)<=p+lane
    ·refine ⟨.non,.str "beyond",cs,?_,?_,rfl,hcs,.inr ⟨_,rfl⟩,.inl rfl,(fun z => nomatch z),fun _ => rfl⟩
     ·unfold zAS;rw[zAC];unfold zB2;simp[envD,hv,hb]
     ·refine zDP (r := (_,[])) (by simp) ?_
      unfold zAQ;rw[zAC];unfold zAW;simp[envD,hv,hb]
    ·obtain ⟨e1,e2,e3⟩ := zNQ (i := p + lane) (by omega) (by omega) hcs hu
     refine⟨.non,.non,cs.set (p+lane).toNat u,?_,?_,by simp,e3,.inl rfl,.inl rfl,fun _ z=>by simp[mk1,zAY] at z,fun z=>absurd rfl z⟩
     ·unfold zAS;rw[zAC];unfold zB2;simp[envD,hv,hb,e1,Ge]
     ·refine zDP (r := (_,[])) (by simp) ?_
      unfold zAQ;rw[zAC];unfold zAW;simp[envD,hv,hb,e1,Ge,zB0]
theorem yAA{n:Int}{lane:Int}{ds:List Dat}{cs:List Dat}:zBY [.tup [.str "number",.int n],.lst ds,.lst cs,.int lane]=some (.tup [.int n,.non],[.lst cs]):=by kernel_rfl
theorem zIL{M:Int->Prop}{row:Dat}(h:zBR M row): ∃as:List Int,(∀a∈as,M a)/\as.length=cnt row/\zB6 [row]=some (.lst (as.map .int),[])/\zD4 [row]=some (.lst (as.map .int),[]):=by
 cases h with
 | @number n _ _=>
  refine⟨[],(fun _ h=>nomatch h),by kernel_rfl,?_,?_⟩
  ·kernel_rfl
  ·kernel_rfl
 | @two x a b hx ha hb=>
  refine⟨[a,b],by simp[ha,hb],?_,?_,?_⟩
  ·simp only[A8,Aj,or_false] at hx
   rcases hx with rfl|rfl|rfl|rfl|rfl|rfl|rfl<;>kernel_rfl
  ·simp only[A8,Aj,or_false] at hx
   rcases hx with rfl|rfl|rfl|rfl|rfl|rfl|rfl<;>kernel_rfl
  ·simp only[A8,Aj,or_false] at hx
   rcases hx with rfl|rfl|rfl|rfl|rfl|rfl|rfl<;>kernel_rfl
 | @pick c a b hc ha hb=>
  refine⟨[c,a,b],by simp[hc,ha,hb],by kernel_rfl,?_,?_⟩
  ·kernel_rfl
  ·kernel_rfl
 | @load p _ _=>
  refine⟨[],(fun _ h=>nomatch h),by kernel_rfl,?_,?_⟩
  ·kernel_rfl
  ·kernel_rfl
 | @take p c a _ _ hc ha=>
  refine⟨[c,a],by simp[hc,ha],by kernel_rfl,?_,?_⟩
  ·kernel_rfl
  ·kernel_rfl
 | @store p a _ _ ha=>
  refine⟨[a],by simp[ha],by kernel_rfl,?_,?_⟩
  ·kernel_rfl
  ·kernel_rfl
 | @put p a c _ _ ha hc=>
  refine⟨[a,c],by simp[ha,hc],by kernel_rfl,?_,?_⟩
  ·kernel_rfl
  ·kernel_rfl
theorem zMU(k:Nat):(rngD 0 k).length=k:=by simp[rngD]
theorem zTR{cs:List Int}{sure:Int}(hcs: ∀c∈cs,Wd c)(h1:sure<=cs.length)(h2:cs.length<=64):zD8 [.lst (cs.map .int),.int sure]=some (.bl true,[]):=by
 have e:=zFT 0 (zAI 3 [] zB3 (aE (fV 0) (aE (fC (.int 0)) (aE (fC zB5) aNil)))) [] (fun _=> .bl true) rfl (cs.map .int) [] (fun x hx=>by
  obtain⟨w,hw',rfl⟩:=By.mp hx
  have:=hcs w hw'
  simp[zB5,this.1,this.2]) (by simp;omega)
 have h3:(cs.length:Int)<=64:=by omega
 unfold zD8
 rw[zAC]
 unfold zGB
 simp only[D1] at e
 simp[envD,zED,h1,h3,zBG,e]
theorem zTS(ns:List Int)(n:Nat)(sure:Int)(hl:ns.length<=63)(hn:n<10000)(h0:0<=sure)(h1:sure<=64): ∃(cs:List Int) (n':Nat),(∀c∈cs,Wd c)/\sure<=cs.length/\cs.length<=64/\n'<=n+67/\zCT [Scp ns,Twn n,.int sure]=some (.lst (cs.map .int),[Twn n']):=by
 have d0:=zDC ns n 9 hl (by omega) (by decide)
 have k0:=zJN ns n (b:=9) (by decide)
 obtain⟨y,hy,ey⟩:=zDW ns (n+1) [.int sure,.int (if sure+drw ns n 9<64 then sure+drw ns n 9 else 64),.int 64] hl (by omega) (by simp)
 obtain⟨m,rfl,m0,m1⟩: ∃m:Int,y= .int m/\sure<=m/\m<=64:=by
  simp only[A8,Aj,or_false] at hy
  rcases hy with h|h|h
  ·exact⟨_,h,by omega,by omega⟩
  ·exact⟨_,h,by split<;>omega,by split<;>omega⟩
  ·exact⟨_,h,by omega,by omega⟩
 obtain⟨z,hz,ez⟩:=zDW ns (n+2) [.int 2,.int 4,.int 1000] hl (by omega) (by simp)
 obtain⟨b,rfl,b0,b1⟩: ∃b:Int,z= .int b/\0<b/\b<=1000:=by
  simp only[A8,Aj,or_false] at hz
  rcases hz with h|h|h<;>exact⟨_,h,by omega,by omega⟩
 have hrl:=zMU m.toNat
 obtain⟨ws,w1,w2,w3⟩:=zKZ ns b hl b0 (zAI 3 [1] zAK (aE (fV 0) (aO 1 (aE (fV 2) aNil)))) .no [.va (.int b)] 3 rfl (fun q d hq=>by simp[zDC ns q b hl (by omega) b0]) (rngD 0 m.toNat) (n+3) [] (by rw[hrl];omega) (by rw[hrl];simp;omega)
 simp only[D1,hrl,Ee] at w3
 rw[hrl] at w1
 have hm:(-4611686018427387904:Int)<=m/\m<4611686018427387904:=by omega
 refine⟨ws,n+3+m.toNat,fun c hc=> ?_,by omega,by omega,by omega,?_⟩
 ·have:=w2 c hc
  exact⟨by omega,by omega⟩
 ·unfold zCT
  rw[zAC]
  unfold zF2
  simp[envD,d0,ey,ez,hm,zBG,w3]
theorem zNB: ∀(ks:List Key) (ws:List Dat) (i:Nat) (k:Key),ks.Nodup->ks.length=ws.length->ks[i]? =some k->zB4 ks ws k=ws[i]?
 |[],_,i,k,_,_,e=>by simp at e
 |k'::ks,[],i,k,_,hl,_=>by simp at hl
 |k'::ks,w::ws,0,k,_,_,e=>by simp at e;simp[zB4,e]
 |k'::ks,w::ws,i+1,k,nd,hl,e=>by
  have e':ks[i]? =some k:=by simpa using e
  have hne: ¬k'=k:=fun z=>(Bv.mp nd).1 (by rw[z];exact Cu e')
  have:=zNB ks ws i k (Bv.mp nd).2 (by simpa using hl) e'
  simp[zB4,hne,this]
structure Ws(kds:List Kd)(ws:List Dat):Prop where
 len:ws.length=kds.length
 wd: ∀a,Nm kds .w a-> ∃x,Wd x/\atI ws a=some (.int x)
theorem Ws.nil:Ws [] []:=⟨rfl,fun a h=>by have:=h.2;simp at this⟩
theorem Ws.snoc{kds:List Kd}{ws:List Dat}{k:Kd}{m:Dat}(W:Ws kds ws)(h:k= .w-> ∃x,Wd x/\m= .int x):Ws (kds++[k]) (ws++[m]):=by
 refine⟨by simp[W.len],fun a ha=> ?_⟩
 have h0:=ha.1
 have hlt:=ha.lt
 have hl:=W.len
 rw[Bg,Dh] at hlt
 rw[zEU h0 (by simp;omega)]
 by_cases hi:a.toNat<kds.length
 ·obtain ⟨x,hx,e⟩ := W.wd a ⟨h0,by have := ha.2;rwa [A6 hi] at this⟩
  rw[zEU h0 (by omega)] at e
  exact⟨x,hx,by rw[A6 (by omega)];exact e⟩
 ·have hii : a.toNat = kds.length := by omega
  have e:=ha.2
  rw[hii] at e
  simp at e
  obtain⟨x,hx,rfl⟩:=h e
  exact⟨x,hx,by rw[hii,<- hl];simp⟩
noncomputable def wv(lm:List Dat)(a:Int):Int:=match atI lm a with
 |some (.int x)=>x
 |_=>0
theorem Ws.word{kds:List Kd}{ws:List Dat}{a:Int}(W:Ws kds ws)(h:Nm kds .w a):atI ws a=some (.int (wv ws a))/\Wd (wv ws a):=by
 obtain⟨x,hx,e⟩:=W.wd a h
 unfold wv
 rw[e]
 exact⟨rfl,hx⟩
noncomputable def fW(lm:List Dat):Dat->Dat
 | .int a=> .int (wv lm a)
 |_=> .non
theorem yAJ(lm:List Dat)(as:List Int):(as.map Dat.int).map (fW lm)=(as.map (wv lm)).map Dat.int:=by simp[fW]
theorem yBB(row:Dat):cnt row<=3:=by
 unfold cnt
 split
 ·split
  ·omega
  ·split
   ·omega
   ·split<;>omega
 ·omega
theorem zNV{as:List Int}{d:Dat}{ws:List Dat}(has:as.length<=3)(h: ∀a∈as,oIxA d (.int a)=some (.int (wv ws a))):zC2 1 1 (gN 1) bYes (f2 oIxA (fO 0) (fV 1)) (as.map .int) [] [.ow d]=some ((as.map (wv ws)).map .int,[.ow d]):=by
 rw[zFT 1 _ [.ow d] (fW ws) rfl _ [] (fun e he=> ?_) (by simp;omega),yAJ]
 ·rfl
 ·obtain⟨a,ha,rfl⟩:=By.mp he
  simp[h a ha,fW]
inductive Bl:List Kd->List Dat->List Kd->Prop
 |nil {kds:List Kd}:Bl kds [] kds
 |cons {kds aa:List Kd} {row:Dat} {rows:List Dat}:zBR (Nm kds .w) row->Bl (kds++[mk1 .w row]) rows aa->Bl kds (row::rows) aa
theorem Bl.snoc{kds aa:List Kd}{rows:List Dat}{row:Dat}(h:Bl kds rows aa)(r:zBR (Nm aa .w) row):Bl kds (rows++[row]) (aa++[mk1 .w row]):=by
 induction h with
 |nil=>exact .cons r .nil
 |cons a _ ih=>exact .cons a (ih r)
theorem Bl.len{kds aa:List Kd}{rows:List Dat}(h:Bl kds rows aa):aa.length=kds.length+rows.length:=by
 induction h with
 |nil=>simp
 |cons _ _ ih=>simp only[ih,Bg,B0,Fw];omega
theorem Bl.all{kds aa:List Kd}{rows:List Dat}(h:Bl kds rows aa): ∀d∈rows,zBR (Nm aa .w) d:=by
 induction h with
 | nil => intro d hd;cases hd
 | @cons kds aa row rows a t ih=>
  intro d hd
  rcases A8.mp hd with rfl|hd
  ·refine a.imp fun x hx => ?_
   have: ∀{k k':List Kd} {rs:List Dat},Bl k rs k'->Nm k .w x->Nm k' .w x:=by
    intro k k' rs h
    induction h with
    |nil=>exact id
    |cons _ _ ih=>exact fun z=>ih z.snoc
   exact this t hx.snoc
  ·exact ih d hd
theorem zHX: ∀ns:List Int,zE9 (ns.map .int)=some ns
 |[]=>rfl
 |i::ns=>by
  show(zE9 (ns.map .int)).map (fun ns=>i::ns)=_
  rw[zHX ns]
  rfl
theorem zQ6{n:Int}: ∀{ns:List Int},n∈ns-> ∃j:Nat,posI n ns=some j/\j<ns.length
 | i :: ns,h => by
  unfold posI
  by_cases e:i=n
  ·rw [if_pos e];exact ⟨0,rfl,by simp⟩
  ·rw[if_neg e]
   obtain⟨j,h1,h2⟩:=zQ6 (ns:=ns) (by
    rcases A8.mp h with z|z
    ·exact absurd z.symm e
    ·exact z)
   exact⟨j+1,by rw[h1];rfl,by simp;omega⟩
noncomputable def nst(ns:List Int)(n:Nat)(rows:List Dat)(made:List Int)(sn:Dat)(a7:Int)(last:Dat)(fi:Int)(bs:List Int)(s9 s10:Sl):Ev:=
 [.va (Scp ns),.ow (Twn n),.va (.lst rows),.va (.lst (made.map .int)),.ow sn,.va (.int a7),.va last,.va (.int fi),.ow (.lst (bs.map .int)),s9,s10]
theorem yAC(ns:List Int)(n:Nat)(rows:List Dat)(made:List Int)(sn:Dat)(a7:Int)(last:Dat)(fi:Int)(bs:List Int)(a:Int)(s10:Sl)(hl:ns.length<=63)(hn:n<700000)(ha:a∈made)(hb:bs.length<100):
  ∃b∈made,∃dh,zCC (nst ns n rows made sn a7 last fi bs (.va (.int a)) s10)=some (.nx (nst ns (n+1) rows made sn a7 last fi (bs++[b]) (.va (.int a)) dh)):=by
 obtain⟨j,hj,hj2⟩:=zQ6 ha
 obtain⟨x,hx,ex⟩:=zDW ns n [.int 1,.int 1,.int 1,.int 1,.int (-1),.int 0,.int 2] hl (by omega) (by simp)
 obtain⟨p,rfl⟩: ∃p,x= .int p:=by
  simp only[A8,Aj,or_false] at hx
  rcases hx with rfl|rfl|rfl|rfl|rfl|rfl|rfl<;>exact⟨_,rfl⟩
 have hi:zQL (.lst (made.map .int)) (.int a)=some (.int j):=by
  show(zE9 (made.map .int)).bind (fun ns=>(posI a ns).map fun j=>Dat.int j)=_
  rw[zHX,Aa,hj]
  rfl
 have hb':bs.length<16777216:=by omega
 by_cases h1:0<=(j:Int)+p/\(j:Int)+p<made.length
 ·obtain⟨q,hq,eq⟩:=zHW (ns:=made) h1.1 h1.2
  by_cases h2:q=(rows.length:Int) - 1
  ·refine⟨a,ha,.va (.int (j+p)),?_⟩
   unfold zCC
   simp[nst,hi,ex,h1.1,h1.2,eq,h2,hb']
  ·refine⟨q,hq,.va (.int (j+p)),?_⟩
   unfold zCC
   simp[nst,hi,ex,h1.1,h1.2,eq,h2,hb']
 ·refine⟨a,ha,.va (.int (j+p)),?_⟩
  unfold zCC
  by_cases h3:0<=(j:Int)+p
  ·have h4 : ¬ (j : Int) + p < made.length := fun z => h1 ⟨h3,z⟩
   simp[nst,hi,ex,h3,h4,hb']
  ·simp[nst,hi,ex,h3,hb']
theorem zQM(ns:List Int)(rows:List Dat)(made:List Int)(sn:Dat)(a7:Int)(last:Dat)(fi:Int)(hl:ns.length<=63): ∀(as:List Int) (n:Nat) (bs:List Int) (s9 s10:Sl),n+as.length<700000->(∀a∈as,a∈made)->bs.length+as.length<100→
  ∃cs:List Int,(∀c∈cs,c∈made)/\cs.length=as.length/\ ∃s9' dh,forV (gN 9) zCC (as.map .int) (nst ns n rows made sn a7 last fi bs s9 s10)=some (.nx (nst ns (n+as.length) rows made sn a7 last fi (bs++cs) s9' dh))
 | [],n,bs,s9,s10,_,_,_ => ⟨[],by simp,rfl,s9,s10,by simp⟩
 | a :: as,n,bs,s9,s10,hn,ha,hb => by
  simp only[B0] at hn hb
  obtain⟨b,hb1,u10,e⟩:=yAC ns n rows made sn a7 last fi bs a s10 hl (by omega) (ha a Ak) (by omega)
  obtain⟨cs,h1,h2,s9',dh,ih⟩:=zQM ns rows made sn a7 last fi hl as (n+1) (bs++[b]) (.va (.int a)) u10 (by omega) (fun x hx=>ha x (Ag _ hx)) (by simp;omega)
  refine⟨b::cs,fun c hc=> ?_,by simp[h2],s9',dh,?_⟩
  ·rcases A8.mp hc with rfl|hc
   ·exact hb1
   ·exact h1 c hc
  rw[An,zEB,gN_e,zHK,show(nst ns n rows made sn a7 last fi bs s9 s10).set 9 (.va (.int a))=nst ns n rows made sn a7 last fi bs (.va (.int a)) s10 from rfl,e,zJB,ih]
  simp[Lq,Nat.add_comm 1]
theorem cel4{x:String}(h:onC x):(decide ("load"=x) || (decide ("take"=x) || (decide ("store"=x) || decide ("put"=x))))=true:=by
 rcases h with rfl|rfl|rfl|rfl<;>decide
theorem snM{m k:Nat}{d:Dat}(h:Sn m d)(hk:m<=k):Sn k d:=by
 obtain⟨ks,vs,e,h1,h2,h3⟩:=h
 exact⟨ks,vs,e,h1,h2,by omega⟩
theorem zJF(ns:List Int)(n:Nat)(rows:List Dat)(made:List Int)(sn:Dat)(a7:Int){x:String}{p:Int}{as:List Int}{m:Nat}(hl:ns.length<=63)(hn:n<600000)(hm:m<8000000)(hs:Sn m sn)(hr:0<a7)(hx:onC x)(am:atI rows (-1)=some (.tup (.str x:: .int p::as.map .int)))(ha: ∀a∈as,a∈made)(h3:as.length<=3):
  ∃(q:Int) (cs:List Int) (sn':Dat),0<=q/\q<a7/\(∀c∈cs,c∈made)/\cs.length=as.length/\Sn (m+1) sn'/\zBX [Scp ns,Twn n,.lst rows,.lst (made.map .int),sn,.int a7]=some (.tup (.str x:: .int q::cs.map .int),[Twn (n+as.length),sn']):=by
 obtain⟨cs,h1,h2,s9,s10,e⟩:=zQM ns rows made sn a7 (.tup (.str x:: .int p::as.map .int)) 2 hl as n [] .no .no (by omega) ha (by simp;omega)
 simp only[nst,D1,Ce] at e
 obtain⟨ks,vs,rfl,k1,k2,k3⟩:=hs
 obtain⟨ks',vs',pe,h4,h5,h6,h7,h8⟩:=putI ks vs (.inr (x:Str)) ((p+1) % a7) k1 k2
 have hk:ks.length<16777216:=by omega
 refine⟨(p+1) % a7,cs,.dct ks' (vs'.map .int),Ey _ (by omega),D3 _ hr,h1,h2,⟨ks',vs',rfl,h4,h5,by omega⟩,?_⟩
 unfold zBX
 rw[zAC,zEL.eq_1]
 have hin:=cel4 hx
 have dw:cutD (.str x:: .int p::as.map Dat.int) (some 2) none=as.map Dat.int:=by
  have:=zFS (ds:= .str x:: .int p::as.map Dat.int) (k:=2) (by simp)
  simpa using this
 have hcl:2+cs.length<=16777216:=by omega
 simp[envD,am,hin,dw,e,hr,hk,k2,pe,h8,hcl]
theorem off4{x:String}(h: ¬onC x):(¬x= "load" /\¬ "load"=x)/\(¬x= "take" /\¬ "take"=x)/\(¬x= "store" /\¬ "store"=x)/\¬x= "put" /\¬ "put"=x:=by refine⟨⟨fun z=>h (.inl z),fun z=>h (.inl z.symm)⟩,⟨fun z=>h (.inr (.inl z)),fun z=>h (.inr (.inl z.symm))⟩,⟨fun z=>h (.inr (.inr (.inl z))),fun z=>h (.inr (.inr (.inl z.symm)))⟩,fun z=>h (.inr (.inr (.inr z))),fun z=>h (.inr (.inr (.inr z.symm)))⟩
theorem zN7(ns:List Int)(n:Nat)(rows:List Dat)(made:List Int)(sn:Dat)(a7:Int){x:String}{as:List Int}(hl:ns.length<=63)(hn:n<600000)(hx: ¬onC x)(am:atI rows (-1)=some (.tup (.str x::as.map .int)))(ha: ∀a∈as,a∈made)(h3:as.length<=3):
  ∃cs:List Int,(∀c∈cs,c∈made)/\cs.length=as.length/\zBX [Scp ns,Twn n,.lst rows,.lst (made.map .int),sn,.int a7]=some (.tup (.str x::cs.map .int),[Twn (n+as.length),sn]):=by
 obtain⟨cs,h1,h2,s9,s10,e⟩:=zQM ns rows made sn a7 (.tup (.str x::as.map .int)) 1 hl as n [] .no .no (by omega) ha (by simp;omega)
 simp only[nst,D1,Ce] at e
 refine⟨cs,h1,h2,?_⟩
 unfold zBX
 rw[zAC,zEL.eq_1]
 obtain⟨⟨_,z1⟩,⟨_,z2⟩,⟨_,z3⟩,_,z4⟩:=off4 hx
 have dw:cutD (.str x::as.map Dat.int) (some 1) none=as.map Dat.int:=by
  have:=zFS (ds:= .str x::as.map Dat.int) (k:=1) (by simp)
  simpa using this
 have lr:cutD (.str x::as.map Dat.int) none (some 1)=[.str x]:=by
  have:=zGE (ds:= .str x::as.map Dat.int) (k:=1)
  simpa using this
 have hcl:1+cs.length<=16777216:=by omega
 simp[envD,am,z1,z2,z3,z4,dw,lr,e,hcl]
theorem zWE(ns:List Int)(n:Nat)(rows:List Dat)(made:List Int)(sn:Dat)(a7:Int){last:Dat}{m:Nat}(hl:ns.length<=63)(hn:n<600000)(hm:m<8000000)(hs:Sn m sn)(hr:0<a7)(hr2:a7<=64)(am:atI rows (-1)=some last)(ok:zBR (· ∈made) last)(nn: ∀k,last≠ .tup [.str "number",.int k]):
  ∃row n' sn',n<=n'/\n'<=n+3/\Sn (m+1) sn'/\zBR (· ∈made) row/\zBX [Scp ns,Twn n,.lst rows,.lst (made.map .int),sn,.int a7]=some (row,[Twn n',sn']):=by
 cases ok with
 |number=>exact absurd rfl (nn _)
 | @two x a b hx ha hb=>
  obtain⟨cs,h1,h2,e⟩:=zN7 ns n rows made sn a7 (x:=x) (as:=[a,b]) hl hn (zOW hx) am (by simp[ha,hb]) (by simp)
  match cs,h2 with
  |[c,d],_=>exact⟨_,n+2,sn,by omega,by omega,snM hs (by omega),.two hx (h1 c (by simp)) (h1 d (by simp)),e⟩
 | @pick c a b hc ha hb=>
  obtain⟨cs,h1,h2,e⟩:=zN7 ns n rows made sn a7 (x:= "pick") (as:=[c,a,b]) hl hn (fun z=>by rcases z with z|z|z|z<;>exact absurd z (by decide)) am (by simp[ha,hb,hc]) (by simp)
  match cs,h2 with
  |[c,d,f],_=>exact⟨_,n+3,sn,by omega,by omega,snM hs (by omega),.pick (h1 c (by simp)) (h1 d (by simp)) (h1 f (by simp)),e⟩
 | @load p p0 p1=>
  obtain⟨q,cs,sn',q0,q1,h1,h2,hs',e⟩:=zJF ns n rows made sn a7 (x:= "load") (p:=p) (as:=[]) hl hn hm hs hr (.inl rfl) am (by simp) (by simp)
  match cs,h2 with
  |[],_=>exact⟨_,n+0,sn',by omega,by omega,hs',.load q0 (by omega),e⟩
 | @take p c a p0 p1 hc ha=>
  obtain⟨q,cs,sn',q0,q1,h1,h2,hs',e⟩:=zJF ns n rows made sn a7 (x:= "take") (p:=p) (as:=[c,a]) hl hn hm hs hr (.inr (.inl rfl)) am (by simp[hc,ha]) (by simp)
  match cs,h2 with
  |[c,d],_=>exact⟨_,n+2,sn',by omega,by omega,hs',.take q0 (by omega) (h1 c (by simp)) (h1 d (by simp)),e⟩
 | @store p a p0 p1 ha=>
  obtain⟨q,cs,sn',q0,q1,h1,h2,hs',e⟩:=zJF ns n rows made sn a7 (x:= "store") (p:=p) (as:=[a]) hl hn hm hs hr (.inr (.inr (.inl rfl))) am (by simp[ha]) (by simp)
  match cs,h2 with
  |[c],_=>exact⟨_,n+1,sn',by omega,by omega,hs',.store q0 (by omega) (h1 c (by simp)),e⟩
 | @put p a c p0 p1 ha hc=>
  obtain⟨q,cs,sn',q0,q1,h1,h2,hs',e⟩:=zJF ns n rows made sn a7 (x:= "put") (p:=p) (as:=[a,c]) hl hn hm hs hr (.inr (.inr (.inr rfl))) am (by simp[ha,hc]) (by simp)
  match cs,h2 with
  |[c,d],_=>exact⟨_,n+2,sn',by omega,by omega,hs',.put q0 (by omega) (h1 c (by simp)) (h1 d (by simp)),e⟩
structure RI(rows:List Dat)(made:List Int)(kds:List Kd):Prop where
 bl:Bl [] rows kds
 ex: ∀a,a∈made↔Nm kds .w a
 ml:made.length<=rows.length
theorem RI.len{rows:List Dat}{made:List Int}{kds:List Kd}(h:RI rows made kds):kds.length=rows.length:=by
 have:=h.bl.len
 simpa using this
theorem zWD{kds:List Kd}{k:Kd}{a:Int}:Nm (kds++[k]) .w a↔Nm kds .w a∨(k= .w/\a=kds.length):=by
 constructor
 ·intro h
  have h0:=h.1
  have hl:=h.lt
  rw[Bg,Dh] at hl
  by_cases hi:a.toNat<kds.length
  ·exact .inl ⟨h0,by have := h.2;rwa [A6 hi] at this⟩
  ·have hi : a.toNat = kds.length := by omega
   have e:=h.2
   rw[hi] at e
   simp at e
   exact .inr ⟨e,by omega⟩
 ·rintro (h|⟨rfl,rfl⟩)
  ·exact h.snoc
  ·exact Nm.new
theorem RI.more{rows:List Dat}{made:List Int}{kds:List Kd}{row:Dat}(h:RI rows made kds)(r:zBR (· ∈made) row):RI (rows++[row]) (if mk1 .w row= .w then made++[(rows.length:Int)] else made) (kds++[mk1 .w row]):=by
 refine⟨h.bl.snoc (r.imp fun a ha=>(h.ex a).mp ha),fun a=> ?_,?_⟩
 ·rw[zWD,<- h.ex a,h.len]
  split
  ·rename_i e
   simp[e]
  ·rename_i e
   simp[e]
 ·have:=h.ml
  split<;>simp<;>omega
theorem RI.last{rs:List Dat}{last:Dat}{made:List Int}{kds:List Kd}(h:RI (rs++[last]) made kds):zBR (· ∈made) last:=(h.bl.all last (by simp)).imp fun a ha=>(h.ex a).mpr ha
noncomputable def rst(ns:List Int)(n:Nat)(ae a7:Int)(rows:List Dat)(made:List Int)(sn:Dat)(s7:Sl):Ev:=
 [.va (Scp ns),.ow (Twn n),.va (.int ae),.va (.int a7),.ow (.lst rows),.ow (.lst (made.map .int)),.ow sn,s7]
theorem zKR: ∀vs:List Int,zH4 (vs.map .int)=true
 |[]=>rfl
 |_::vs=>by
  show((Dat.int _).hard && zH4 (vs.map .int))=true
  rw[zKR vs]
  rfl
theorem zPA{m:Nat}{sn:Dat}(h:Sn m sn):zFN sn=true:=by
 obtain⟨ks,vs,rfl,_⟩:=h
 exact zKR vs
theorem zQR{row:Dat}(x:String)(t:List Dat)(e:row= .tup (.str x::t)):mk1 .w row= .w↔ ¬(x= "store" ∨x= "put"):=by
 subst e
 by_cases h:x= "store" ∨x= "put"
 ·rw[yEC h];simp[h]
 ·have : x ∉ ["store","put"] := by simpa using h
  rw[yED this];simp[h]
theorem zY8(ns:List Int)(n:Nat)(ae a7:Int){rows:List Dat}{made:List Int}{kds:List Kd}{sn:Dat}{m:Nat}(s7:Sl)(hl:ns.length<=63)(hn:n<600000)(hm:m<8000000)(hs:Sn m sn)(hr:0<a7)(hr2:a7<=64)(R:RI rows made kds)(h0:rows≠[])(a9:rows.length<1000):
  ∃af ak aa n' sn',RI af ak aa/\rows.length<=af.length/\((rows.length:Int)<=ae->(af.length:Int)<=ae)/\af.length<=rows.length+1/\n<=n'/\n'<=n+3/\Sn (m+1) sn'/\zCB (rst ns n ae a7 rows made sn s7)=some (.nx (rst ns n' ae a7 af ak sn' s7)):=by
 obtain⟨rs,last,rfl⟩: ∃rs last,rows=rs++[last]:=⟨rows.dropLast,rows.getLast h0,(Fj h0).symm⟩
 have ok:=R.last
 have am:=zHD rs last
 have hml:made.length<16777216:=by have:=R.ml;omega
 have hrl:(rs++[last]).length<16777216:=by omega
 generalize o9:rs++[last]=rows at*
 obtain⟨x,t,e0,_⟩:=zFG ok
 by_cases h1:(rows.length:Int)<ae
 ·by_cases h2:x= "number"
  ·refine ⟨rows,made,kds,n,sn,R,Ae _,id,by omega,by omega,by omega,snM hs (by omega),?_⟩
   unfold zCB
   simp[rst,h1,am,e0,h2]
  ·obtain ⟨row,n',sn',n0,n1,hs',okr,e⟩ := zWE ns n rows made sn a7 hl hn hm hs hr hr2 am ok (fun k z => by rw [e0] at z;simp [zAY] at z;exact h2 z.1)
   obtain⟨y,u,e1,_⟩:=zFG okr
   have hl2:=zHD rows row
   refine⟨_,_,_,n',sn',R.more okr,by simp,by simp;omega,by simp,n0,n1,hs',?_⟩
   unfold zCB
   have key:=zQR y u e1
   have hrd:=okr.hard
   rw[e1] at hrd
   have hsn:=zPA hs'
   by_cases h3:y= "store" ∨y= "put"
   ·rw [if_neg (by rw [key];simp [h3])]
    rcases h3 with rfl|rfl
    ·simp[rst,h1,am,e0,h2,e,hl2,e1,hrl,hrd,hsn]
    ·simp[rst,h1,am,e0,h2,e,hl2,e1,hrl,hrd,hsn]
   ·rw [if_pos (by rw [key];exact h3)]
    have z1: ¬ "store"=y:=fun z=>h3 (.inl z.symm)
    have z2: ¬ "put"=y:=fun z=>h3 (.inr z.symm)
    simp[rst,h1,am,e0,h2,e,hl2,e1,hrl,hrd,hsn,z1,z2,hml]
 ·refine ⟨rows,made,kds,n,sn,R,Ae _,id,by omega,by omega,by omega,snM hs (by omega),?_⟩
  unfold zCB
  simp[rst,h1]
theorem zU7(ns:List Int)(ae a7:Int)(hl:ns.length<=63)(hr:0<a7)(hr2:a7<=64): ∀(ds:List Dat) (n:Nat) {rows:List Dat} {made:List Int} {kds:List Kd} {sn:Dat} {m:Nat} (s7:Sl),n+3*ds.length<600000->m+ds.length<8000000->Sn m sn->RI rows made kds->rows≠[]->rows.length+ds.length<1000→
  ∃af ak aa n' sn' s7',RI af ak aa/\rows.length<=af.length/\((rows.length:Int)<=ae->(af.length:Int)<=ae)/\n<=n'/\n'<=n+3*ds.length/\Sn (m+ds.length) sn'/\forV (gN 7) zCB ds (rst ns n ae a7 rows made sn s7)=some (.nx (rst ns n' ae a7 af ak sn' s7'))
 |[],n,rows,made,kds,sn,m,s7,_,_,hs,R,_,_=>⟨rows,made,kds,n,sn,s7,R,Ae _,id,by omega,by simp,hs,by simp⟩
 |d::ds,n,rows,made,kds,sn,m,s7,hn,hm,hs,R,h0,hz=>by
  simp only[B0] at hn hm hz
  obtain⟨j3,l8,mq,n1,sn1,R1,a1,a2,a3,a4,a5,hs1,e1⟩:=zY8 ns n ae a7 (.va d) hl (by omega) (by omega) hs hr hr2 R h0 (by omega)
  obtain⟨af,ak,aa,n',sn',s7',R',b1,b2,b3,b4,hs',e⟩:=zU7 ns ae a7 hl hr hr2 ds n1 (.va d) (by omega) (by omega) hs1 R1 (fun z=>by rw[z] at a1;simp at a1;exact h0 a1) (by omega)
  refine⟨af,ak,aa,n',sn',s7',R',by omega,fun z=>b2 (a2 z),by omega,by simp only[B0];omega,snM hs' (by simp only[B0];omega),?_⟩
  rw[zEB,gN_e,zHK,show(rst ns n ae a7 rows made sn s7).set 7 (.va d)=rst ns n ae a7 rows made sn (.va d) from rfl,e1,zJB,e]
theorem zY7(ns:List Int)(n:Nat)(ae a7:Int){rows:List Dat}{made:List Int}{kds:List Kd}{sn:Dat}(s7:Sl)(hl:ns.length<=63)(hn:n<500000)(hs:Seen n sn)(hr:0<a7)(hr2:a7<=64)(R:RI rows made kds)(hlt:(rows.length:Int)<ae)(h40:ae<=40):
  ∃af ak aa n' sn' s7',RI af ak aa/\rows.length<af.length/\(af.length:Int)<=ae/\n<=n'/\n'<=n+20/\Seen n' sn'/\zDJ (rst ns n ae a7 rows made sn s7)=some (.nx (rst ns n' ae a7 af ak sn' s7')):=by
 obtain⟨row,n1,sn1,c1,c2,hs1,okr,_,e⟩:=zY9 ns n made sn a7 hl (by omega) hs hr hr2
 obtain⟨x,hx,ex⟩:=zDW ns n1 [.int 0,.int 1,.int 1,.int 2,.int 3] hl (by omega) (by simp)
 obtain⟨k,rfl,k0,k3⟩: ∃k:Nat,x= .int k/\0<=k/\k<=3:=by
  simp only[A8,Aj,or_false] at hx
  rcases hx with rfl|rfl|rfl|rfl|rfl
  ·exact⟨0,rfl,by omega,by omega⟩
  ·exact⟨1,rfl,by omega,by omega⟩
  ·exact⟨1,rfl,by omega,by omega⟩
  ·exact⟨2,rfl,by omega,by omega⟩
  ·exact⟨3,rfl,by omega,by omega⟩
 have R1:=R.more okr
 have hrl:rows.length<16777216:=by omega
 have hml:made.length<16777216:=by have:=R.ml;omega
 have hdl:(rngD 0 k).length=k:=zMU k
 obtain⟨af,ak,aa,n',sn',s7',R',b1,b2,b3,b4,hs',ef⟩:=zU7 ns ae a7 hl hr hr2 (rngD 0 k) (n1+1) s7 (by omega) (by omega) hs1 R1 (by simp) (by simp;omega)
 refine⟨af,ak,aa,n',sn',s7',R',by simp at b1;omega,b2 (by simp;omega),by omega,by omega,snM hs' (by omega),?_⟩
 obtain⟨y,u,e1,_⟩:=zFG okr
 have hl2:=zHD rows row
 have key:=zQR y u e1
 have hrd:=okr.hard
 rw[e1] at hrd
 have hsn:=zPA hs1
 have hk1:(-4611686018427387904:Int)<=k/\(k:Int)<4611686018427387904:=by omega
 unfold zDJ
 by_cases h3:y= "store" ∨y= "put"
 ·rw [if_neg (by rw [key];simp [h3])] at ef
  simp only[rst] at ef
  rw[e1] at ef
  rcases h3 with rfl|rfl
  ·simp[rst,e,hl2,e1,hrl,hrd,hsn,ex,hk1,ef]
  ·simp[rst,e,hl2,e1,hrl,hrd,hsn,ex,hk1,ef]
 ·rw [if_pos (by rw [key];exact h3)] at ef
  simp only[rst,Ex,An,Ce] at ef
  rw[e1] at ef
  have z1: ¬ "store"=y:=fun z=>h3 (.inl z.symm)
  have z2: ¬ "put"=y:=fun z=>h3 (.inr z.symm)
  simp[rst,e,hl2,e1,hrl,hrd,hsn,ex,hk1,z1,z2,hml,ef]
theorem zMA{t:VB}{g:VS}{k:Nat}{δ δ1 δ2:Ev}(h:t δ=some (true,δ1))(h2:g δ1=some (.nx δ2)):zBM t g (k+1) δ=zBM t g k δ2:=by
 show((t δ).bind fun p=>if p.1=true then(g p.2).bind (zDZ (zBM t g k)) else some (.nx p.2))=_
 rw[h,Aa]
 show(if true=true then(g δ1).bind (zDZ (zBM t g k)) else _)=_
 rw[if_pos rfl,h2]
 rfl
theorem zIZ{t:VB}{g:VS}{k:Nat}{δ δ1:Ev}(h:t δ=some (false,δ1)):zBM t g (k+1) δ=some (.nx δ1):=by
 show((t δ).bind fun p=>if p.1=true then(g p.2).bind (zDZ (zBM t g k)) else some (.nx p.2))=_
 rw[h]
 rfl
theorem zU6(ns:List Int)(ae a7:Int)(hl:ns.length<=63)(hr:0<a7)(hr2:a7<=64)(h40:ae<=40): ∀(f:Nat) (n:Nat) {rows:List Dat} {made:List Int} {kds:List Kd} {sn:Dat} (s7:Sl),ae - rows.length<=f->(rows.length:Int)<=ae->n+20*f<500000->Seen n sn->RI rows made kds→
  ∃af ak aa n' sn' s7',RI af ak aa/\(af.length:Int)=ae/\n<=n'/\n'<=n+20*f/\zBM (fB (f2 oLt (f1 oLen (fO 4)) (fV 2))) zDJ (f+1) (rst ns n ae a7 rows made sn s7)=some (.nx (rst ns n' ae a7 af ak sn' s7'))
 | 0,n,rows,made,kds,sn,s7,h1,h2,hn,hs,R => by
  refine⟨rows,made,kds,n,sn,s7,R,by omega,by omega,by omega,zIZ ?_⟩
  have: ¬(rows.length:Int)<ae:=by omega
  simp[rst,this]
 | f + 1,n,rows,made,kds,sn,s7,h1,h2,hn,hs,R => by
  by_cases hlt:(rows.length:Int)<ae
  ·obtain ⟨j3,l8,mq,n1,sn1,u7,R1,a1,a2,a3,a4,hs1,e1⟩ := zY7 ns n ae a7 s7 hl (by omega) hs hr hr2 R hlt h40
   obtain⟨af,ak,aa,n',sn',s7',R',b1,b2,b3,e⟩:=zU6 ns ae a7 hl hr hr2 h40 f n1 u7 (by omega) a2 (by omega) hs1 R1
   refine⟨af,ak,aa,n',sn',s7',R',b1,by omega,by omega,?_⟩
   rw[zMA (δ1:=rst ns n ae a7 rows made sn s7) (by simp[rst,hlt]) e1,e]
  ·refine ⟨rows,made,kds,n,sn,s7,R,by omega,by omega,by omega,zIZ ?_⟩
   simp[rst,hlt]
theorem zVH(ns:List Int)(n:Nat)(ae a7:Int)(hl:ns.length<=63)(hn:n<400000)(hr:0<a7)(hr2:a7<=64)(h0:0<=ae)(h40:ae<=40):
  ∃rows kds n',Bl [] rows kds/\(rows.length:Int)=ae/\n<=n'/\n'<=n+20*40/\zD6 [Scp ns,Twn n,.int ae,.int a7]=some (.tup rows,[Twn n']):=by
 obtain⟨rows,made,kds,n',sn,s7,R,a1,a2,a3,e⟩:=zU6 ns ae a7 hl hr hr2 h40 ae.toNat n (rows:=[]) (made:=[]) (kds:=[]) (sn:= .dct [] []) .no (by simp;omega) (by simpa using h0) (by omega) ⟨[],[],rfl,rfl,List.nodup_nil,Cc _⟩ ⟨.nil,fun a=>by simp[Nm],by simp⟩
 refine⟨rows,kds,n',R.bl,a1,a2,by omega,?_⟩
 have e:=zKA e
 simp only[rst,Ce] at e
 unfold zD6
 rw[zAC,zG6.eq_1]
 simp[envD,e]
theorem yEQ{f g:VF}{δ δ1 δ2:Ev}{i j:Int}(h1:f δ=some (.int i,δ1))(h2:g δ1=some (.int j,δ2))(hb:(-4611686018427387904<=i/\i<4611686018427387904)/\ -4611686018427387904<=j/\j<4611686018427387904):iR2 f g δ=some (rngD i (j - i).toNat,δ2):=by
 unfold iR2
 rw[h1,Aa,h2,Aa]
 exact if_pos hb
theorem zJP(nn:Nat)(tb:VB)(p:Dat->Bool)(fe:VF)(f:Dat->Dat)(δ:Ev)(hδ:δ.length=nn): ∀(ds acc:List Dat),(∀d∈ds,tb (δ++[Sl.va d])=some (p d,δ++[Sl.va d])/\(p d=true->fe (δ++[Sl.va d])=some (f d,δ++[Sl.va d])))->acc.length+ds.length<16777216->zC2 nn 1 (gN nn) tb fe ds acc δ=some (acc++(ds.filter p).map f,δ)
 | [],acc,_,_ => by simp
 | d :: ds,acc,h,hl => by
  have b7:(δ++[Sl.no]).set nn (.va d)=δ++[Sl.va d]:=by
   rw[D0 _ _ (by omega)]
   simp[hδ]
  have ao:(δ++[Sl.va d]).take nn=δ:=by rw[Bw (by omega),Bm (by omega)]
  have aq:acc.length<16777216:=by simp at hl;omega
  obtain⟨h1,h2⟩:=h d Ak
  cases hp:p d with
  |true=>
   have ih:=zJP nn tb p fe f δ hδ ds (acc++[f d]) (fun e he=>h e (Ag _ he)) (by simp at hl⊢;omega)
   have h2:=h2 hp
   rw[hp] at h1
   simp only[zGF,zTC,gN_e,b7,zO5,h1,zSS,h2,zSR,if_pos aq,ao,ih]
   simp[hp]
  |false=>
   have ih:=zJP nn tb p fe f δ hδ ds acc (fun e he=>h e (Ag _ he)) (by simp at hl⊢;omega)
   rw[hp] at h1
   simp only[zGF,zTC,gN_e,b7,zO5,h1,zYG,ao,ih]
   simp[hp]
theorem zBR.ints{M:Int->Prop}{row:Dat}(h:zBR M row): ∃(x:String) (a:Int) (as:List Int),row= .tup (.str x:: .int a::as.map .int)/\(x= "over" -> ∃b,as=[b]/\M b):=by
 cases h with
 | @number n _ _=>exact⟨"number",n,[],rfl,fun z=>absurd z (by decide)⟩
 | @two x a b hx ha hb=>exact⟨x,a,[b],rfl,fun _=>⟨b,rfl,hb⟩⟩
 | @pick c a b _ _ _=>exact⟨"pick",c,[a,b],rfl,fun z=>absurd z (by decide)⟩
 | @load p _ _=>exact⟨"load",p,[],rfl,fun z=>absurd z (by decide)⟩
 | @take p c a _ _ _ _=>exact⟨"take",p,[c,a],rfl,fun z=>absurd z (by decide)⟩
 | @store p a _ _ _=>exact⟨"store",p,[a],rfl,fun z=>absurd z (by decide)⟩
 | @put p a c _ _ _ _=>exact⟨"put",p,[a,c],rfl,fun z=>absurd z (by decide)⟩
theorem zD2{k:Nat}: ∀as:List Int,∀d∈as.map Dat.int,okk k d
 |[],d,h=>nomatch h
 |a::as,d,h=>by
  rcases A8.mp h with rfl|h
  ·exact zCO
  ·exact zD2 as d h
theorem zPP{M:Int->Prop}{row:Dat}(h:zBR M row):okk 1 row:=by
 obtain⟨x,a,as,rfl,_⟩:=h.ints
 exact zE7 (zAX zCN (zAX zCO (zD2 as)))
theorem zUL{sure:Int}{rows:List Dat}{kds:List Kd}(hb:Bl [] rows kds){i:Int}(h0:0<=i)(h1:i<rows.length): ∃b,zCL [.tup [.int sure,.tup rows],.int i]=some (.bl b,[]):=by
 have a9:kds.length=rows.length:=by simpa using hb.len
 obtain⟨row,dk,e0⟩: ∃row∈rows,atI rows i=some row:=by
  have hi:i.toNat<rows.length:=by omega
  exact⟨rows[i.toNat],He hi,by rw[zEU h0 h1];simp[hi]⟩
 have ok:=hb.all row dk
 obtain⟨x,a,as,rfl,hov⟩:=ok.ints
 unfold zCL
 rw[zAC]
 unfold zI0
 by_cases hx:onC x
 ·have m1:=cel4 hx
  exact⟨_,by simp[envD,e0,m1];rfl⟩
 ·obtain⟨⟨_,z1⟩,⟨_,z2⟩,⟨_,z3⟩,_,z4⟩:=off4 hx
  by_cases ho:x= "over"
  ·obtain⟨b,rfl,hbn⟩:=hov ho
   subst ho
   have b0:=hbn.1
   have b1:=hbn.lt
   obtain⟨md,hr2,e2⟩: ∃row∈rows,atI rows b=some row:=by
    have hi:b.toNat<rows.length:=by omega
    exact⟨rows[b.toNat],He hi,by rw[zEU b0 (by omega)];simp[hi]⟩
   obtain⟨x2,a2,as2,rfl,_⟩:=(hb.all md hr2).ints
   have dw:cutD (.str x2:: .int a2::as2.map Dat.int) none (some 2)=[.str x2,.int a2]:=by
    have:=zGE (ds:= .str x2:: .int a2::as2.map Dat.int) (k:=2)
    simpa using this
   have ei: ∀δ,iR2 (fC (.int 1)) (fC (.int 1000)) δ=some (rngD 1 ((1000:Int) - 1).toNat,δ):=fun δ=>yEQ (f:=fC (.int 1)) (g:=fC (.int 1000)) (δ:=δ) (δ1:=δ) (δ2:=δ) (i:=1) (j:=1000) rfl rfl (by omega)
   have ec:=zFT 0 (fTup (zA4 (fC (.str "number")) (zA4 (fV 0) fNil))) [] (fun d=> .tup [.str "number",d]) rfl (rngD 1 ((1000:Int) - 1).toNat) [] (fun d _=>by simp) (by simp[rngD])
   have hin: ∀neg,∃b,oInD neg (.tup [.str x2,.int a2]) (.lst ((rngD 1 ((1000:Int) - 1).toNat).map fun d=> .tup [.str "number",d]))=some (.bl b):=fun neg=>⟨_,zN5 (j:=1) (k:=1) (zE7 (zAX zCN (zAX zCO zCI))) (fun e he=>by
    obtain⟨d,hd,rfl⟩:=By.mp he
    obtain⟨q,rfl⟩: ∃q,d= .int q:=by
     unfold rngD at hd
     obtain⟨q,_,rfl⟩:=By.mp hd
     exact⟨_,rfl⟩
    exact zE7 (zAX zCN (zAX zCO zCI)))⟩
   obtain⟨bb,hbb⟩:=hin true
   simp only[D1] at ec
   generalize (rngD 1 ((1000:Int) - 1).toNat).map (fun d=>Dat.tup [.str "number",d])=big at*
   generalize rngD 1 ((1000:Int) - 1).toNat=rg at*
   exact⟨bb,by simp -implicitDefEqProofs [envD,e0,e2,dw,zBG,ei,ec,hbb]⟩
  ·exact⟨false,by simp[envD,e0,z1,z2,z3,z4,ho]⟩
noncomputable def zCH(p:Int×Int):Dat:= .tup [.int p.1,.int p.2]
noncomputable def zM1:Dat:= .tup [.str "load",.str "take",.str "store",.str "put"]
noncomputable def mst(blk:Dat)(ps:List (Int×Int))(j:Int)(there:Sl)(s5 s6 s7 s8:Sl):Ev:=
 [.va blk,.ow (.lst (ps.map zCH)),.va zM1,.va (.int j),there,s5,s6,s7,s8]
theorem yF3{bs:List Bool}:oInD false (.bl true) (.lst (bs.map .bl))=some (.bl (bs.any id)):=by
 rw[zN5 (j:=0) (k:=0) zUG (fun e he=>by
  obtain⟨b,_,rfl⟩:=By.mp he
  exact zUG)]
 induction bs with
 |nil=>rfl
 |cons b bs ih=>
  have e:eqD (.bl b) (.bl true)=b:=by cases b<;>rfl
  simp only[An,zWS,Fg,id,e]
  simp only[Di,if_false,Option.some.injEq,Dat.bl.injEq] at ih⊢
  rw[ih]
theorem zR0{i:Int}: ∀{as:List Int},i∈as->inE (.int i) (as.map .int)=true
 |q::as,h=>by
  simp only[An,zWS]
  rcases A8.mp h with rfl|h
  ·simp
  ·simp[zR0 h]
noncomputable def wrT:Dat->Bool
 | .tup (.str x::_)=>decide (Av "store"=x) || decide (Av "put"=x)
 |_=>false
theorem zK7{s1 s2:VS}{δ δ1:Ev}{r:Option Ou}(h1:s1 δ=some (.nx δ1))(h2:s2 δ1=r):sSeq s1 s2 δ=r:=by rw[zU3,h1,qS_n,h2]
theorem yAD{sure:Int}{rows:List Dat}{kds:List Kd}(hb:Bl [] rows kds)(ps:List (Int×Int)){i j:Int}{here there:Dat}(i0:0<=i)(i1:i<rows.length)(j0:0<=j)(j1:j<rows.length)(hh:here∈rows)(ht:there∈rows){as:List Int}(hn:zB6 [there]=some (.lst (as.map .int),[]))(s7 s8:Sl)(hp:ps.length<1000000):
  ∃(c:Bool) (t7 t8:Sl),(i∈as->c=true)/\zDL (mst (.tup [.int sure,.tup rows]) ps j (.va there) (.va (.int i)) (.va here) s7 s8)=some (.nx (mst (.tup [.int sure,.tup rows]) (ps++if c then[(i,j)] else[]) j (.va there) (.va (.int i)) (.va here) t7 t8)):=by
 obtain⟨b1,e1⟩:=zUL (sure:=sure) hb i0 i1
 obtain⟨b2,e2⟩:=zUL (sure:=sure) hb j0 j1
 have okh:=hb.all here hh
 have okt:=hb.all there ht
 have kh:=zPP okh
 have kt:=zPP okt
 obtain⟨x,a,xs,eh,_⟩:=okh.ints
 obtain⟨y,b,ys,et,_⟩:=okt.ints
 have hin:oInD false (.int i) (.lst (as.map .int))=some (.bl (inE (.int i) (as.map .int))):=by
  rw[zN5 (j:=0) (k:=0) zCO (zD2 as)]
  simp
 have nq:=zR0 (i:=i) (as:=as)
 generalize inE (.int i) (as.map .int)=bi at*
 have ew: ∃w:List Dat,zC2 0 1 (gN 0) (fB (f2 (oInD false) (f2 oIxA (fV 0) (fC (.int 0))) (fTup (zA4 (fC (.str "store")) (zA4 (fC (.str "put")) fNil))))) (fV 0) [here,there] [] []=some (w,[])/\ ∀d∈w,okk 1 d:=by
  have c:=zJP 0 (fB (f2 (oInD false) (f2 oIxA (fV 0) (fC (.int 0))) (fTup (zA4 (fC (.str "store")) (zA4 (fC (.str "put")) fNil))))) wrT (fV 0) id [] rfl [here,there] [] (fun d hd=>by
   simp only[A8,Aj,or_false] at hd
   rcases hd with rfl|rfl
   ·rw[eh];simp[wrT,zAY]
   ·rw[et];simp[wrT,zAY]) (by simp)
  refine⟨_,c,fun d hd=> ?_⟩
  simp only[D1,List.map_id_fun,id,Ek,A8,Aj,or_false] at hd
  rcases hd.1 with rfl|rfl
  ·exact kh
  ·exact kt
 obtain⟨w,ew,kw⟩:=ew
 have hne:oNe (.lst w) (.lst [])=some (.bl (!eqD (.lst w) (.lst []))):=zTA (j:=2) (k:=0+1) (zC6 kw) (zC6 zCI)
 generalize (!eqD (.lst w) (.lst []))=bw at*
 have hp':ps.length<16777216:=by omega
 have x4: ∃bx,oInD false (.str x) zM1=some (.bl bx):=⟨_,yB1⟩
 have y4: ∃by',oInD false (.str y) zM1=some (.bl by'):=⟨_,yB1⟩
 have x2: ∃bx,oInD false (.str x) (.tup [.str "store",.str "put"])=some (.bl bx):=⟨_,zTL⟩
 have y2: ∃by',oInD false (.str y) (.tup [.str "store",.str "put"])=some (.bl by'):=⟨_,zTL⟩
 obtain⟨bx,x4⟩:=x4
 obtain⟨by',y4⟩:=y4
 obtain⟨wx,x2⟩:=x2
 obtain⟨wy,y2⟩:=y2
 subst eh et
 have hbl:=yF3 (bs:=[bi,b1 && b2,bx && (by' && (decide (a=b) && bw)),b1 && wy,b2 && wx])
 simp only[An,Ce] at hbl
 refine⟨[bi,b1 && b2,bx && (by' && (decide (a=b) && bw)),b1 && wy,b2 && wx].any id,.va (.lst w),.ow (.lst [.bl bi,.bl (b1 && b2),.bl (bx && (by' && (decide (a=b) && bw))),.bl (b1 && wy),.bl (b2 && wx)]),?_,?_⟩
 ·intro hi
  rw[nq hi]
  rfl
 ·unfold zDL
  refine zK7 (δ1:=mst (.tup [.int sure,.tup rows]) ps j (.va (.tup (.str y:: .int b::ys.map .int))) (.va (.int i)) (.va (.tup (.str x:: .int a::xs.map .int))) (.va (.lst w)) s8) (by simp[mst,zBG,ew]) ?_
  refine zK7 (δ1:=mst (.tup [.int sure,.tup rows]) ps j (.va (.tup (.str y:: .int b::ys.map .int))) (.va (.int i)) (.va (.tup (.str x:: .int a::xs.map .int))) (.va (.lst w)) (.ow (.lst [.bl bi,.bl (b1 && b2)]))) ?_ ?_
  ·clear hbl
   cases b1<;>simp[mst,hn,hin,e1,e2]
  refine zK7 (δ1:=mst (.tup [.int sure,.tup rows]) ps j (.va (.tup (.str y:: .int b::ys.map .int))) (.va (.int i)) (.va (.tup (.str x:: .int a::xs.map .int))) (.va (.lst w)) (.ow (.lst [.bl bi,.bl (b1 && b2),.bl (bx && (by' && (decide (a=b) && bw)))]))) ?_ ?_
  ·clear hbl
   cases bx<;>cases by'<;>by_cases hab:a=b<;>simp[mst,x4,y4,hne,hab]
  refine zK7 (δ1:=mst (.tup [.int sure,.tup rows]) ps j (.va (.tup (.str y:: .int b::ys.map .int))) (.va (.int i)) (.va (.tup (.str x:: .int a::xs.map .int))) (.va (.lst w)) (.ow (.lst [.bl bi,.bl (b1 && b2),.bl (bx && (by' && (decide (a=b) && bw))),.bl (b1 && wy)]))) ?_ ?_
  ·clear hbl
   generalize (bx && (by' && (decide (a=b) && bw)))=q3
   cases b1<;>simp[-zTL,mst,e1,y2]
  refine zK7 (δ1:=mst (.tup [.int sure,.tup rows]) ps j (.va (.tup (.str y:: .int b::ys.map .int))) (.va (.int i)) (.va (.tup (.str x:: .int a::xs.map .int))) (.va (.lst w)) (.ow (.lst [.bl bi,.bl (b1 && b2),.bl (bx && (by' && (decide (a=b) && bw))),.bl (b1 && wy),.bl (b2 && wx)]))) ?_ ?_
  ·clear hbl
   generalize (bx && (by' && (decide (a=b) && bw)))=q3
   cases b2<;>simp[-zTL,mst,e2,x2]
  generalize (bx && (by' && (decide (a=b) && bw)))=q3 at*
  generalize hq1:(b1 && b2)=q1 at*
  generalize hq4:(b1 && wy)=q4 at*
  generalize hq5:(b2 && wx)=q5 at*
  generalize hc:[bi,q1,q3,q4,q5].any id=c at*
  cases c
  ·simp[mst,hbl]
  ·simp[mst,hbl,hp',zCH]
theorem zCK(i:Nat)(d:Dat)(ds:List Dat):enuD i (d::ds)= .tup [.int i,d]::enuD (i+1) ds:=rfl
noncomputable abbrev GP(a b:Nat):VG:=gTp 2 (zAT (gN a) (zAT (gN b) zDO))
theorem zUK{sure:Int}{rows:List Dat}{kds:List Kd}(hb:Bl [] rows kds){j:Int}{there:Dat}(j0:0<=j)(j1:j<rows.length)(ht:there∈rows){as:List Int}(hn:zB6 [there]=some (.lst (as.map .int),[])): ∀(hs:List Dat) (k:Nat) (ps:List (Int×Int)) (s5 s6 s7 s8:Sl),(∀d∈hs,d∈rows)->k+hs.length<=rows.length->ps.length+hs.length<1000000→
  ∃(qs:List (Int×Int)) (t5 t6 t7 t8:Sl),(∀p∈qs,p.2=j/\(k:Int)<=p.1/\p.1<k+hs.length)/\(∀i∈as,(k:Int)<=i->i<k+hs.length->(i,j)∈qs)/\qs.length<=hs.length∧
   forV (GP 5 6) zDL (enuD k hs) (mst (.tup [.int sure,.tup rows]) ps j (.va there) s5 s6 s7 s8)=some (.nx (mst (.tup [.int sure,.tup rows]) (ps++qs) j (.va there) t5 t6 t7 t8))
 | [],k,ps,s5,s6,s7,s8,_,_,_ => ⟨[],s5,s6,s7,s8,by simp,fun i _ h1 h2 => by simp at h2;omega,by simp,by simp [enuD]⟩
 | h :: hs,k,ps,s5,s6,s7,s8,hm,hk,hp => by
  simp only[B0] at hk hp
  obtain⟨c,t7,t8,c1,e⟩:=yAD (sure:=sure) hb ps (i:=(k:Int)) (j:=j) (here:=h) (there:=there) (by omega) (by omega) j0 j1 (hm h Ak) ht hn s7 s8 (by omega)
  obtain⟨qs,u5,u6,u7,u8,q1,q2,q3,ih⟩:=zUK hb j0 j1 ht hn hs (k+1) (ps++if c then[((k:Int),j)] else[]) (.va (.int k)) (.va h) t7 t8 (fun d hd=>hm d (Ag _ hd)) (by omega) (by cases c<;>simp<;>omega)
  refine⟨(if c then[((k:Int),j)] else[])++qs,u5,u6,u7,u8,?_,?_,?_,?_⟩
  ·intro p hp
   simp only[B0]
   rcases B5.mp hp with z|z
   ·cases c
    ·simp at z
    ·simp at z;subst z;exact⟨rfl,by simp,by simp;omega⟩
   ·obtain⟨z1,z2,z3⟩:=q1 p z
    exact⟨z1,by omega,by omega⟩
  ·intro i hi h1 h2
   simp only[B0] at h2
   by_cases h3:i=k
   ·subst h3
    rw[c1 hi]
    simp
   ·exact B5.mpr (.inr (q2 i hi (by omega) (by omega)))
  ·cases c<;>simp<;>omega
  ·rw[zCK,zEB]
   have s1:GP 5 6 (.tup [.int k,h]) (mst (.tup [.int sure,.tup rows]) ps j (.va there) s5 s6 s7 s8)=some (mst (.tup [.int sure,.tup rows]) ps j (.va there) (.va (.int k)) (.va h) s7 s8):=by simp[mst]
   rw[s1,zHK,e,zJB,ih,Am]
structure Prs(rows:List Dat)(ps:List (Int×Int)):Prop where
 lt: ∀p∈ps,0<=p.1/\p.1<p.2/\p.2<rows.length
 nm: ∀(j:Nat) (row:Dat) (as:List Int),rows[j]? =some row->zB6 [row]=some (.lst (as.map .int),[])-> ∀i∈as,0<=i->i<j->(i,(j:Int))∈ps
theorem zTK{as bs:List Int}(h:as.map Dat.int=bs.map Dat.int):as=bs:=by
 induction as generalizing bs with
 | nil => cases bs with
  |nil=>rfl
  |cons=>simp at h
 | cons a as ih => cases bs with
  |nil=>simp at h
  |cons b bs=>
   simp only[An,G4,Dat.int.injEq] at h
   rw[h.1,ih h.2]
theorem zUJ{sure:Int}{rows:List Dat}{kds:List Kd}(hb:Bl [] rows kds)(h40:rows.length<=40): ∀(ts:List Dat) (k:Nat) (ps:List (Int×Int)) (s3:Int) (s4 s5 s6 s7 s8:Sl) (x3:Sl),rows.drop k=ts->k+ts.length=rows.length->ps.length+40*ts.length<10000→
  ∃(qs:List (Int×Int)) (t3 t4 t5 t6 t7 t8:Sl),(∀p∈qs,0<=p.1/\p.1<p.2/\p.2<rows.length)/\(∀(j:Nat) (row:Dat) (as:List Int),k<=j->rows[j]? =some row->zB6 [row]=some (.lst (as.map .int),[])-> ∀i∈as,0<=i->i<j->(i,(j:Int))∈qs)/\qs.length<=40*ts.length∧
   forV (GP 3 4) zDK (enuD k ts) [.va (.tup [.int sure,.tup rows]),.ow (.lst (ps.map zCH)),.va zM1,x3,s4,s5,s6,s7,s8]=some (.nx [.va (.tup [.int sure,.tup rows]),.ow (.lst ((ps++qs).map zCH)),.va zM1,t3,t4,t5,t6,t7,t8])
 | [],k,ps,s3,s4,s5,s6,s7,s8,x3,h1,h2,_ => by
  refine⟨[],x3,s4,s5,s6,s7,s8,by simp,fun j row as h3 h4=> ?_,by simp,by simp[enuD]⟩
  have:=(A5.mp h4).1
  simp at h2
  omega
 | t :: ts,k,ps,s3,s4,s5,s6,s7,s8,x3,h1,h2,hp => by
  simp only[B0] at h2 hp
  have ht:t∈rows:=List.mem_of_mem_drop (by rw[h1];exact Ak)
  have hk:rows[k]? =some t:=by
   have:(rows.drop k)[0]? =some t:=by rw[h1];rfl
   simpa using this
  obtain⟨as,_,_,hn,_⟩:=zIL (hb.all t ht)
  have a9:(rows.take k).length=k:=by rw[Bf];omega
  obtain⟨qs1,t5,t6,t7,t8,q1,q2,q3,e⟩:=zUK (sure:=sure) hb (j:=(k:Int)) (by omega) (by omega) ht hn (rows.take k) 0 ps s5 s6 s7 s8 (fun d hd=>List.mem_of_mem_take hd) (by omega) (by omega)
  obtain⟨qs2,u3,u4,u5,u6,u7,u8,r1,r2,r3,ih⟩:=zUJ hb h40 ts (k+1) (ps++qs1) 0 (.va t) t5 t6 t7 t8 (.va (.int k)) (by rw[<- L9,h1];rfl) (by omega) (by simp;omega)
  refine⟨qs1++qs2,u3,u4,u5,u6,u7,u8,?_,?_,?_,?_⟩
  ·intro p hp
   rcases B5.mp hp with z|z
   ·obtain⟨z1,z2,z3⟩:=q1 p z
    rw[a9] at z3
    exact⟨by omega,by omega,by omega⟩
   ·exact r1 p z
  ·intro j row bs hj hr hbs i hi i0 i1
   by_cases hjk:j=k
   ·subst hjk
    rw[hk] at hr
    injection hr with hr
    subst hr
    rw[hn] at hbs
    have:as=bs:=zTK (by simpa using hbs)
    subst this
    exact B5.mpr (.inl (q2 i hi (by omega) (by rw[a9];omega)))
   ·exact B5.mpr (.inr (r2 j row bs (by omega) hr hbs i hi i0 i1))
  ·simp only[Bg,B0];omega
  ·rw[zCK,zEB]
   have s1:GP 3 4 (.tup [.int k,t]) [.va (.tup [.int sure,.tup rows]),.ow (.lst (ps.map zCH)),.va zM1,x3,s4,s5,s6,s7,s8]=some (mst (.tup [.int sure,.tup rows]) ps k (.va t) s5 s6 s7 s8):=by simp[mst]
   have s2:zDK (mst (.tup [.int sure,.tup rows]) ps k (.va t) s5 s6 s7 s8)=some (.nx (mst (.tup [.int sure,.tup rows]) (ps++qs1) k (.va t) t5 t6 t7 t8)):=by
    unfold zDK
    have hc:=zGE (ds:=rows) (k:=k)
    rw[zY6]
    have:zJH (fSl (f2 oIxA (fV 0) (fC (.int 1))) pNo (pSo (fV 3))) (mst (.tup [.int sure,.tup rows]) ps k (.va t) s5 s6 s7 s8)=some (enuD 0 (rows.take k),mst (.tup [.int sure,.tup rows]) ps k (.va t) s5 s6 s7 s8):=by simp[mst,hc]
    rw[this,qF_s]
    exact e
   rw[s1,zHK,s2,zJB]
   simp only[mst]
   rw[ih,Am]
theorem zQ4: ∀ps:List (Int×Int),prsD (ps.map zCH)=some ps
 |[]=>rfl
 |p::ps=>by
  show(prD (zCH p)).bind (fun q=>(prsD (ps.map zCH)).map fun qs=>q::qs)=_
  rw[zQ4 ps]
  rfl
theorem zSL(ps:List (Int×Int)): ∃qs:List (Int×Int),qs.Perm ps/\zQJ (.lst (ps.map zCH))=some (.lst (qs.map zCH)):=by
 refine⟨(srtP ps).map fun i=>ps.getD i (0,0),?_,?_⟩
 ·have h := (zFF ps).map fun i => ps.getD i (0,0)
  refine h.trans ?_
  have:(At ps.length).map (fun i=>ps.getD i (0,0))=ps:=by
   refine List.ext_getElem (by simp) fun i h1 h2=> ?_
   simp at h1
   simp[h1]
  rw[this]
 ·show (prsD (ps.map zCH)).bind (fun qs => some (Dat.lst ((srtP qs).map fun i => (ps.map zCH).getD i Dat.non))) = _
  rw[zQ4,Aa,Jz]
  congr 2
  refine G0 fun i hi=> ?_
  have:i<ps.length:=Bx.mp ((zFF ps).mem_iff.mp hi)
  simp[this]
theorem zWI{sure:Int}{rows:List Dat}{kds:List Kd}(hb:Bl [] rows kds)(h40:rows.length<=40): ∃ps:List (Int×Int),Prs rows ps/\ps.length<=1600/\zD7 [.tup [.int sure,.tup rows]]=some (.lst (ps.map zCH),[]):=by
 obtain⟨qs,t3,t4,t5,t6,t7,t8,q1,q2,q3,e⟩:=zUJ (sure:=sure) hb h40 rows 0 [] 0 .no .no .no .no .no .no (by simp) (by simp) (by simp;omega)
 simp only[Ce,D1,zM1] at e
 obtain⟨ps,hp,es⟩:=zSL qs
 refine⟨ps,⟨fun p h=>q1 p (hp.mem_iff.mp h),fun j row as h1 h2 i hi i0 i1=>hp.mem_iff.mpr (q2 j row as (by omega) h1 h2 i hi i0 i1)⟩,by rw[hp.length_eq];omega,?_⟩
 unfold zD7
 rw[zAC,zG8.eq_1]
 simp[envD,e,es]
theorem zHC(nn:Nat)(tb:VB)(p:Dat->Bool)(fe:VF)(f:Dat->Dat)(δ:Ev)(hδ:δ.length=nn): ∀(ds acc:List Dat),(∀d∈ds,∃a b,d= .tup [a,b]/\tb (δ++[Sl.va a,Sl.va b])=some (p d,δ++[Sl.va a,Sl.va b])/\(p d=true->fe (δ++[Sl.va a,Sl.va b])=some (f d,δ++[Sl.va a,Sl.va b])))->acc.length+ds.length<16777216->zC2 nn 2 (GP nn (nn+1)) tb fe ds acc δ=some (acc++(ds.filter p).map f,δ)
 | [],acc,_,_ => by simp
 | d :: ds,acc,h,hl => by
  obtain⟨a,b,rfl,h1,h2⟩:=h d Ak
  have b7:GP nn (nn+1) (.tup [a,b]) (δ++[Sl.no,Sl.no])=some (δ++[Sl.va a,Sl.va b]):=by
   have e1:(δ++[Sl.no,Sl.no]).set nn (.va a)=δ++[Sl.va a,Sl.no]:=by
    rw[D0 _ _ (by omega)]
    simp[hδ]
   have e2:(δ++[Sl.va a,Sl.no]).set (nn+1) (.va b)=δ++[Sl.va a,Sl.va b]:=by
    rw[D0 _ _ (by omega),hδ,show nn+1 - nn=1 by omega]
    rfl
   simp[e1,e2]
  have ao:(δ++[Sl.va a,Sl.va b]).take nn=δ:=by rw[Bw (by omega),Bm (by omega)]
  have aq:acc.length<16777216:=by simp at hl;omega
  cases hp:p (.tup [a,b]) with
  |true=>
   have ih:=zHC nn tb p fe f δ hδ ds (acc++[f (.tup [a,b])]) (fun e he=>h e (Ag _ he)) (by simp at hl⊢;omega)
   have h2:=h2 hp
   rw[hp] at h1
   simp only[zGF,yAB,b7,zO5,h1,zSS,h2,zSR,if_pos aq,ao,ih]
   simp[hp]
  |false=>
   have ih:=zHC nn tb p fe f δ hδ ds acc (fun e he=>h e (Ag _ he)) (by simp at hl⊢;omega)
   rw[hp] at h1
   simp only[zGF,yAB,b7,zO5,h1,zYG,ao,ih]
   simp[hp]
noncomputable def ost(ns:List Int)(n:Nat)(blk:Dat)(ps:List (Int×Int))(left made:List Int)(s6:Sl):Ev:=
 [.va (Scp ns),.ow (Twn n),.va blk,.va (.lst (ps.map zCH)),.ow (.lst (left.map .int)),.ow (.lst (made.map .int)),s6]
noncomputable def pw(left:List Int)(r:Int):Dat->Bool
 | .tup [.int a,.int b]=>decide (b=r) && inE (.int a) (left.map .int)
 |_=>false
theorem zLU{i:Int}: ∀{as:List Int},inE (.int i) (as.map .int)=true↔i∈as
 |[]=>by simp
 |a::as=>by
  rw[An,zWS,Ew,yB6,decide_eq_true_eq,zLU (as:=as),A8]
  exact⟨fun h=>h.imp Eq.symm id,fun h=>h.imp Eq.symm id⟩
theorem zUX(ps:List (Int×Int))(left:List Int)(r:Int)(hp:ps.length<16777216):
  zC2 2 2 (GP 2 3) (bAnd (fB (f2 oEq (fV 3) (fV 1))) (fB (f2 (oInD false) (fV 2) (fO 0)))) (fC (.int 1)) (ps.map zCH) [] [.ow (.lst (left.map .int)),.va (.int r)]=some (((ps.map zCH).filter (pw left r)).map fun _=> .int 1,[.ow (.lst (left.map .int)),.va (.int r)]):=by
 have hin: ∀a:Int,oInD false (.int a) (.lst (left.map .int))=some (.bl (inE (.int a) (left.map .int))):=fun a=>by
  rw[zN5 (j:=0) (k:=0) zCO (zD2 left)]
  simp
 have:=zHC 2 (bAnd (fB (f2 oEq (fV 3) (fV 1))) (fB (f2 (oInD false) (fV 2) (fO 0)))) (pw left r) (fC (.int 1)) (fun _=> .int 1) [.ow (.lst (left.map .int)),.va (.int r)] rfl (ps.map zCH) [] (fun d hd=>by
  obtain⟨⟨a,b⟩,_,rfl⟩:=By.mp hd
  refine⟨.int a,.int b,rfl,?_,fun _=>by simp⟩
  have hi:=hin a
  have hpw:pw left r (zCH (a,b))=(decide (b=r) && inE (.int a) (left.map .int)):=rfl
  rw[hpw]
  generalize left.map Dat.int=L at*
  by_cases hb:b=r
  ·simp[hb,hi]
  ·simp[hb]) (by simpa using hp)
 simpa using this
theorem zR9{ds:List Dat}:eqD (.lst ds) (.lst [])=ds.isEmpty:=by cases ds<;>rfl
noncomputable def rdD(ps:List (Int×Int))(left:List Int):Dat->Bool
 | .int r=>((ps.map zCH).filter (pw left r)).isEmpty
 |_=>false
theorem zIH{x:Int}: ∀{ns:List Int},x∈ns-> ∃j,posI x ns=some j/\ns.eraseIdx j=ns.erase x
 | i :: ns,h => by
  unfold posI
  by_cases e:i=x
  ·rw [if_pos e];exact ⟨0,rfl,by simp [e]⟩
  ·rw[if_neg e]
   obtain⟨j,h1,h2⟩:=zIH (ns:=ns) (by
    rcases A8.mp h with z|z
    ·exact absurd z.symm e
    ·exact z)
   refine⟨j+1,by rw[h1];rfl,?_⟩
   rw[List.eraseIdx_cons_succ,h2,List.erase_cons_tail (by simpa using e)]
theorem zWK{x:Int}{ns:List Int}(h:x∈ns):mRem (ns.map .int) [.int x]=some ((ns.erase x).map .int):=by
 obtain⟨j,h1,h2⟩:=zIH h
 show(zE9 (ns.map .int)).bind (fun ns=>(posI x ns).map fun j=>(ns.eraseIdx j).map Dat.int)=_
 rw[zHX,Aa,h1,L1,h2]
theorem zPU{ps:List (Int×Int)}{left:List Int}{r:Int}:rdD ps left (.int r)=true↔ ∀p∈ps,p.2=r->p.1∉left:=by
 show((ps.map zCH).filter (pw left r)).isEmpty=true↔_
 rw[K5,List.filter_eq_nil_iff]
 constructor
 ·intro h p hp he hl
  have:=h (zCH p) (By.mpr ⟨p,hp,rfl⟩)
  refine this ?_
  show(decide (p.2=r) && inE (.int p.1) (left.map .int))=true
  rw[zLU.mpr hl,he]
  simp
 ·intro h d hd z
  obtain⟨p,hp,rfl⟩:=By.mp hd
  have z:(decide (p.2=r) && inE (.int p.1) (left.map .int))=true:=z
  rw[A3,decide_eq_true_eq,zLU] at z
  exact h p hp z.1 z.2
theorem zSP(ps:List (Int×Int))(left:List Int)(hp:ps.length<16777216)(hll:left.length<16777216):
  zC2 2 1 (gN 2) (fB (f2 oEq (zCV [1,2] 2 (iSeq (fV 0)) (gTp 2 (zAT (gN 2) (zAT (gN 3) zDO))) (bAnd (fB (f2 oEq (fV 3) (fV 1))) (fB (f2 (oInD false) (fV 2) (fO 0)))) (fC (.int 1))) (fLst fNil))) (fV 2) (left.map .int) [] [.va (.lst (ps.map zCH)),.ow (.lst (left.map .int))]=some ((left.filter fun r=>rdD ps left (.int r)).map .int,[.va (.lst (ps.map zCH)),.ow (.lst (left.map .int))]):=by
 have:=zJP 2 (fB (f2 oEq (zCV [1,2] 2 (iSeq (fV 0)) (gTp 2 (zAT (gN 2) (zAT (gN 3) zDO))) (bAnd (fB (f2 oEq (fV 3) (fV 1))) (fB (f2 (oInD false) (fV 2) (fO 0)))) (fC (.int 1))) (fLst fNil))) (rdD ps left) (fV 2) id [.va (.lst (ps.map zCH)),.ow (.lst (left.map .int))] rfl (left.map .int) [] (fun d hd=>by
  obtain⟨r,_,rfl⟩:=By.mp hd
  refine⟨?_,fun _=>by simp⟩
  have w:=zUX ps left r hp
  have hq:oEq (.lst (((ps.map zCH).filter (pw left r)).map fun _=>Dat.int 1)) (.lst [])=some (.bl (rdD ps left (.int r))):=by
   rw[yA9 (j:=1) (k:=1) (zC6 fun d hd=>by
    obtain⟨_,_,rfl⟩:=By.mp hd
    exact zCO) (zC6 zCI),zR9,List.isEmpty_map]
   rfl
  generalize ((ps.map zCH).filter (pw left r)).map (fun _=>Dat.int 1)=W at*
  generalize rdD ps left (.int r)=B at*
  generalize left.map Dat.int=L at*
  generalize ps.map zCH=Q at*
  simp[zBG,w,hq]) (by simpa using hll)
 rw[this,List.filter_map]
 simp[Function.comp_def]
theorem zW5(ns:List Int)(n:Nat)(blk:Dat)(ps:List (Int×Int))(left made:List Int)(s6:Sl)(hl:ns.length<=63)(hn:n<800000)(hne:left≠[])(hs:left.Pairwise (· < ·))(hlt: ∀p∈ps,p.1<p.2)(hll:left.length<1000)(hml:made.length<1000)(hpl:ps.length<10000):
  ∃x∈left,(∀p∈ps,p.2=x->p.1∉left)/\ ∃s6',zBQ (ost ns n blk ps left made s6)=some (.nx (ost ns (n+1) blk ps (left.erase x) (made++[x]) s6')):=by
 have hr:=zSP ps left (by omega) (by omega)
 have h0:0<((left.filter fun r=>rdD ps left (.int r)).map Dat.int).length:=by
  match left,hne,hs with
  |a::t,_,hs=>
   have:a∈((a::t).filter fun r=>rdD ps (a::t) (.int r)):=by
    refine Ek.mpr ⟨Ak,zPU.mpr fun p hp he hi=> ?_⟩
    have h1:=hlt p hp
    rw[he] at h1
    rcases A8.mp hi with z|z
    ·omega
    ·have:=(List.pairwise_cons.mp hs).1 _ z
     omega
   rw[Bi]
   exact List.length_pos_of_mem this
 obtain⟨d,hd,ed⟩:=zDW ns n ((left.filter fun r=>rdD ps left (.int r)).map .int) hl (by omega) h0
 obtain⟨x,hx,rfl⟩:=By.mp hd
 obtain⟨hx1,hx2⟩:=Ek.mp hx
 have hm:=zWK hx1
 have hla:=zHD (made.map Dat.int) (.int x)
 have nk:made.length<16777216:=by omega
 refine⟨x,hx1,zPU.mp hx2,.va (.lst ((left.filter fun r=>rdD ps left (.int r)).map .int)),?_⟩
 unfold zBQ
 simp only[ost,Ex,An,Ce]
 generalize (left.filter fun r=>rdD ps left (.int r)).map Dat.int=R at*
 generalize (left.erase x).map Dat.int=E at*
 generalize left.map Dat.int=L at*
 generalize ps.map zCH=Q at*
 have nj:(made.map Dat.int).length<16777216:=by simpa using nk
 generalize made.map Dat.int=D at*
 simp[zBG,hr,ed,hm,hla,nj]
theorem zQF(ns:List Int)(blk:Dat)(ps:List (Int×Int))(hl:ns.length<=63)(hlt: ∀p∈ps,p.1<p.2)(hpl:ps.length<10000): ∀(f n:Nat) (left made:List Int) (s6:Sl),left.length=f->n+f<700000->left.Pairwise (· < ·)->made.length+left.length<1000->(∀p∈ps,p.1∈made∨p.1∈left)->(∀p∈ps,∀k:Nat,made[k]? =some p.2->p.1∈made.take k)→
  ∃(order:List Int) (s6':Sl),order.Perm (made++left)/\(∀p∈ps,∀k:Nat,order[k]? =some p.2->p.1∈order.take k)/\zBM (fB (f2 oNe (fO 4) (fLst fNil))) zBQ (f+1) (ost ns n blk ps left made s6)=some (.nx (ost ns (n+f) blk ps [] order s6'))
 | 0,n,left,made,s6,hf,hn,hs,hm,h1,h2 => by
  have:left=[]:=Du.mp hf
  subst this
  refine⟨made,s6,by simp,h2,zIZ ?_⟩
  have e:oNe (.lst []) (.lst [])=some (.bl false):=by
   rw[zTA (j:=1) (k:=1) (zC6 zCI) (zC6 zCI),zR9]
   rfl
  simp[ost,e]
 | f + 1,n,left,made,s6,hf,hn,hs,hm,h1,h2 => by
  have hne:left≠[]:=fun z=>by rw[z] at hf;simp at hf
  obtain⟨x,hx,hp,u6,e1⟩:=zW5 ns n blk ps left made s6 hl (by omega) hne hs hlt (by omega) (by omega) hpl
  have hle:=List.length_erase_of_mem hx
  obtain⟨order,s6',o1,o2,e2⟩:=zQF ns blk ps hl hlt hpl f (n+1) (left.erase x) (made++[x]) u6 (by omega) (by omega) (hs.sublist (List.erase_sublist)) (by simp;omega) (fun p hp'=>by
   rcases h1 p hp' with z|z
   ·exact .inl (B5.mpr (.inl z))
   ·by_cases hxx:p.1=x
    ·exact .inl (by simp[hxx])
    ·exact .inr ((List.mem_erase_of_ne hxx).mpr z)) (fun p hp' k hk=>by
   by_cases hkl:k<made.length
   ·rw[A6 hkl] at hk
    rw[Bw (by omega)]
    exact h2 p hp' k hk
   ·have gj:=(A5.mp hk).1
    simp at gj
    have:k=made.length:=by omega
    subst this
    simp at hk
    have hnl:=hp p hp' hk.symm
    rw[La]
    exact(h1 p hp').resolve_right hnl)
  refine⟨order,s6',?_,o2,?_⟩
  ·refine o1.trans ?_
   rw[Am,List.singleton_append]
   exact(List.perm_cons_erase hx).symm.append_left made
  ·have e:oNe (.lst (left.map .int)) (.lst [])=some (.bl true):=by
    rw[zTA (j:=1) (k:=1) (zC6 (zD2 left)) (zC6 zCI),zR9]
    cases left with
    |nil=>exact absurd rfl hne
    |cons=>rfl
   rw[zMA (δ1:=ost ns n blk ps left made s6) (by simp[ost,e]) e1,e2,show n+1+f=n+(f+1) by omega]
theorem zR8{f:VF}{δ δ1:Ev}{j:Int}(h:f δ=some (.int j,δ1))(h0:0<=j)(h1:j<=16777216):zGD f δ=some (.lst (rngD 0 j.toNat),δ1):=by
 unfold zGD
 rw[h,Aa]
 exact if_pos ⟨h0,h1⟩
noncomputable def rgI(k:Nat):List Int:=(At k).map fun i:Nat=>(i:Int)
theorem zVI(k:Nat):rngD 0 k=(rgI k).map .int:=by simp[rngD,rgI]
theorem zPQ{k:Nat}{a:Int}:a∈rgI k↔0<=a/\a<k:=by
 unfold rgI
 rw[By]
 constructor
 ·rintro ⟨i,hi,rfl⟩
  have:=Bx.mp hi
  omega
 ·rintro ⟨h0,h1⟩
  exact⟨a.toNat,Bx.mpr (by omega),by omega⟩
theorem zPR(k:Nat):(rgI k).Pairwise (· < ·):=Gs _ (fun a b h=>by omega) (List.pairwise_lt_range)
theorem zLK(k:Nat):(rgI k).length=k:=by simp[rgI]
theorem zT7(ns:List Int)(n:Nat){sure:Int}{rows:List Dat}{kds:List Kd}(hl:ns.length<=63)(hn:n<500000)(hb:Bl [] rows kds)(h40:rows.length<=40):
  ∃(ps:List (Int×Int)) (order:List Int),Prs rows ps/\order.Perm (rgI rows.length)/\(∀p∈ps,∀k:Nat,order[k]? =some p.2->p.1∈order.take k)/\zBD [Scp ns,Twn n,.tup [.int sure,.tup rows]]=some (.lst (order.map .int),[Twn (n+rows.length)]):=by
 obtain⟨ps,P,hpl,em⟩:=zWI (sure:=sure) hb h40
 obtain⟨order,s6,o1,o2,e⟩:=zQF ns (.tup [.int sure,.tup rows]) ps hl (fun p hp=>(P.lt p hp).2.1) (by omega) rows.length n (rgI rows.length) [] .no (zLK _) (by omega) (zPR _) (by simp[zLK];omega) (fun p hp=> .inr (zPQ.mpr ⟨(P.lt p hp).1,by have:=P.lt p hp;omega⟩)) (fun p hp k hk=>by simp at hk)
 refine⟨ps,order,P,by simpa using o1,o2,?_⟩
 have e:=zKA e
 simp only[ost,Ce] at e
 have er:zGD (f1 oLen (f2 oIxA (fV 2) (fC (.int 1)))) [.va (Scp ns),.ow (Twn n),.va (.tup [.int sure,.tup rows]),.no,.no,.no,.no]=some (.lst ((rgI rows.length).map .int),[.va (Scp ns),.ow (Twn n),.va (.tup [.int sure,.tup rows]),.no,.no,.no,.no]):=by
  rw[<- zVI,zR8 (j:=(rows.length:Int)) (δ1:=[.va (Scp ns),.ow (Twn n),.va (.tup [.int sure,.tup rows]),.no,.no,.no,.no]) (by simp) (by omega) (by omega)]
  simp
 unfold zBD
 rw[zAC,zCQ.eq_1]
 generalize (rgI rows.length).map Dat.int=L at*
 generalize order.map Dat.int=O at*
 generalize ps.map zCH=Q at*
 simp[envD,em,er,e]
theorem zBR.strong{M:Int->Prop}{row:Dat}(h:zBR M row): ∃as:List Int,(∀a∈as,M a)/\zBR (· ∈as) row/\zB6 [row]=some (.lst (as.map .int),[]):=by
 cases h with
 | @number n h0 h1=>exact⟨[],(fun _ h=>nomatch h),.number h0 h1,by kernel_rfl⟩
 | @two x a b hx ha hb=>
  refine⟨[a,b],by simp[ha,hb],.two hx (by simp) (by simp),?_⟩
  simp only[A8,Aj,or_false] at hx
  rcases hx with rfl|rfl|rfl|rfl|rfl|rfl|rfl<;>kernel_rfl
 | @pick c a b hc ha hb=>exact⟨[c,a,b],by simp[hc,ha,hb],.pick (by simp) (by simp) (by simp),by kernel_rfl⟩
 | @load p h0 h1=>exact⟨[],(fun _ h=>nomatch h),.load h0 h1,by kernel_rfl⟩
 | @take p c a h0 h1 hc ha=>exact⟨[c,a],by simp[hc,ha],.take h0 h1 (by simp) (by simp),by kernel_rfl⟩
 | @store p a h0 h1 ha=>exact⟨[a],by simp[ha],.store h0 h1 (by simp),by kernel_rfl⟩
 | @put p a c h0 h1 ha hc=>exact⟨[a,c],by simp[ha,hc],.put h0 h1 (by simp) (by simp),by kernel_rfl⟩
theorem zO4{as:List Int}{row:Dat}(h:zBR (· ∈as) row){ks:List Key}{vs:List Dat}(μ:Int->Int)(hk: ∀a∈as,zB4 ks vs (.inl a)=some (.int (μ a))):
  ∃ax,zAL [row,.dct ks vs]=some (ax,[])/\zBR (fun b=> ∃a∈as,b=μ a) ax/\mk1 .w ax=mk1 .w row:=by
 cases h with
 | @number n h0 h1=>
  refine⟨_,?_,.number h0 h1,rfl⟩
  unfold zAL
  rw[zAC]
  unfold zBB
  simp[envD]
 | @two x a b hx ha hb=>
  have z0:=(dne hx (y:= "number") (by decide)).1
  have z1:=(dne hx (y:= "load") (by decide)).2
  have z2:=(dne hx (y:= "take") (by decide)).2
  have z3:=(dne hx (y:= "store") (by decide)).2
  have z4:=(dne hx (y:= "put") (by decide)).2
  refine⟨.tup [.str x,.int (μ a),.int (μ b)],?_,.two hx ⟨a,ha,rfl⟩ ⟨b,hb,rfl⟩,?_⟩
  ·unfold zAL
   rw[zAC]
   unfold zBB
   simp[envD,z0,z1,z2,z3,z4,zBG,hk a ha,hk b hb]
  ·simp only[A8,Aj,or_false] at hx
   rcases hx with rfl|rfl|rfl|rfl|rfl|rfl|rfl<;>rfl
 | @pick c a b hc ha hb=>
  refine⟨.tup [.str "pick",.int (μ c),.int (μ a),.int (μ b)],?_,.pick ⟨c,hc,rfl⟩ ⟨a,ha,rfl⟩ ⟨b,hb,rfl⟩,rfl⟩
  unfold zAL
  rw[zAC]
  unfold zBB
  simp[envD,zBG,hk a ha,hk b hb,hk c hc]
 | @load p h0 h1=>
  refine⟨.tup [.str "load",.int p],?_,.load h0 h1,rfl⟩
  unfold zAL
  rw[zAC]
  unfold zBB
  simp[envD,zBG]
 | @take p c a h0 h1 hc ha=>
  refine⟨.tup [.str "take",.int p,.int (μ c),.int (μ a)],?_,.take h0 h1 ⟨c,hc,rfl⟩ ⟨a,ha,rfl⟩,rfl⟩
  unfold zAL
  rw[zAC]
  unfold zBB
  simp[envD,zBG,hk a ha,hk c hc]
 | @store p a h0 h1 ha=>
  refine⟨.tup [.str "store",.int p,.int (μ a)],?_,.store h0 h1 ⟨a,ha,rfl⟩,rfl⟩
  unfold zAL
  rw[zAC]
  unfold zBB
  simp[envD,zBG,hk a ha]
 | @put p a c h0 h1 ha hc=>
  refine⟨.tup [.str "put",.int p,.int (μ a),.int (μ c)],?_,.put h0 h1 ⟨a,ha,rfl⟩ ⟨c,hc,rfl⟩,rfl⟩
  unfold zAL
  rw[zAC]
  unfold zBB
  simp[envD,zBG,hk a ha,hk c hc]
theorem Bl.at{kds aa:List Kd}{rows:List Dat}(h:Bl kds rows aa): ∀{j:Nat} {row:Dat},rows[j]? =some row->zBR (fun a=>Nm aa .w a/\a<kds.length+j) row/\aa[kds.length+j]? =some (mk1 .w row)/\ ∀a,Nm kds .w a->Nm aa .w a:=by
 have keep: ∀{k k':List Kd} {rs:List Dat},Bl k rs k'-> ∀(i:Nat) (x:Kd),k[i]? =some x->k'[i]? =some x:=by
  intro k k' rs h
  induction h with
  |nil=>exact fun _ _ z=>z
  |cons _ _ ih=>exact fun i x z=>ih i x (by rw[A6 (A5.mp z).1];exact z)
 induction h with
 | nil => intro j row hr;simp at hr
 | @cons kds aa r rows a t ih=>
  intro j row hr
  cases j with
  |zero=>
   simp at hr
   subst hr
   refine⟨a.imp fun x hx=>⟨⟨hx.1,keep t _ _ (hx.snoc (j:=mk1 .w r)).2⟩,by have:=hx.lt;omega⟩,keep t _ _ (by simp),fun x hx=>⟨hx.1,keep t _ _ (hx.snoc (j:=mk1 .w r)).2⟩⟩
  |succ j=>
   obtain⟨h1,h2,h3⟩:=ih (by simpa using hr)
   rw[Bg,Dh] at h1 h2
   refine⟨h1.imp fun x hx=>⟨hx.1,by have:=hx.2;omega⟩,by rw[show kds.length+(j+1)=kds.length+1+j by omega];exact h2,fun x hx=>h3 x hx.snoc⟩
noncomputable def swD:Dat->Dat
 | .tup [a,b]=> .tup [b,a]
 |_=> .non
noncomputable def kvz:Nat->List Int->List (Key×Dat)
 |_,[]=>[]
 |k,x::xs=>(.inl x,.int (k:Int))::kvz (k+1) xs
theorem zNE: ∀(xs:List Int) (k:Nat),zHR ((enuD k (xs.map .int)).map swD)=some (kvz k xs)
 |[],_=>rfl
 |x::xs,k=>by
  rw[An,zCK,An]
  show(kprD (.tup [.int x,.int (k:Int)])).bind (fun p=>(zHR ((enuD (k+1) (xs.map .int)).map swD)).map fun ps=>p::ps)=_
  rw[zNE xs (k+1)]
  rfl
theorem zJG: ∀(xs:List Int) (k:Nat),(kvz k xs).map Bh=xs.map .inl
 |[],_=>rfl
 |x::xs,k=>by rw[kvz,An,zJG xs (k+1)];rfl
theorem zQU: ∀(xs:List Int) (k i:Nat),i<xs.length->((kvz k xs).map C2)[i]? =some (.int ((k+i:Nat):Int))
 |[],_,i,h=>by simp at h
 |x::xs,k,0,_=>rfl
 |x::xs,k,i+1,h=>by
  have:=zQU xs (k+1) i (by simpa using h)
  rw[kvz,An,List.getElem?_cons_succ,this]
  congr 3
  omega
theorem zTG{order:List Int}(nd:order.Nodup){a:Int}(ha:a∈order):zB4 ((kvz 0 order).map Bh) ((kvz 0 order).map C2) (.inl a)=some (.int (order.idxOf a:Int)):=by
 have hi:order.idxOf a<order.length:=G5 ha
 rw[zNB _ _ (order.idxOf a) (.inl a) ?_ (by simp) ?_,zQU _ _ _ hi]
 ·simp
 ·rw[zJG]
  exact Gs _ (fun a b h e=>h (by injection e)) nd
 ·rw[zJG,C7,Ci hi,Je hi]
  rfl
noncomputable def zH2(rows:List Dat)(r:Int):Dat:=(rows[r.toNat]?).getD .non
noncomputable def renD(rows:List Dat)(names:Dat):Dat->Dat
 | .int r=>match zAL [zH2 rows r,names] with
  |some (d,_)=>d
  |none=> .non
 |_=> .non
theorem zPT{rows os:List Dat}{names ax:Dat}{r:Int}(e:zAL [zH2 rows r,names]=some (ax,os)):renD rows names (.int r)=ax:=by simp only[renD,e]
noncomputable def dctO(order:List Int):Dat:= .dct ((kvz 0 order).map Bh) ((kvz 0 order).map C2)
theorem zYA{rows:List Dat}{kds:List Kd}(hb:Bl [] rows kds){ps:List (Int×Int)}(P:Prs rows ps){order:List Int}(o1:order.Perm (rgI rows.length))(o2: ∀p∈ps,∀k:Nat,order[k]? =some p.2->p.1∈order.take k){pre rest:List Int}{r:Int}(ho:order=pre++r::rest):
  ∃ax,zAL [zH2 rows r,dctO order]=some (ax,[])/\atI rows r=some (zH2 rows r)/\zBR (Nm (pre.map fun a=>mk1 .w (zH2 rows a)) .w) ax/\mk1 .w ax=mk1 .w (zH2 rows r):=by
 have nd:order.Nodup:=o1.nodup_iff.mpr ((zPR _).imp fun h=>by omega)
 have hr:r∈order:=by rw[ho];simp
 have hr2:=zPQ.mp (o1.mem_iff.mp hr)
 have dk:rows[r.toNat]? =some (zH2 rows r):=by
  unfold zH2
  rw[Ci (by omega)]
  rfl
 obtain⟨h1,h2,_⟩:=hb.at dk
 obtain⟨as,a1,a2,a3⟩:=h1.strong
 have cn: ∀a∈as,a∈pre:=fun a ha=>by
  have h3:=a1 a ha
  have h4:a<r:=by have:=h3.2;simp at this;omega
  have hp:=P.nm r.toNat _ as dk a3 a ha h3.1.1 (by omega)
  have:=o2 _ hp pre.length (by rw[ho];simp;omega)
  rw[ho,La] at this
  exact this
 obtain⟨ax,e,ok,mk⟩:=zO4 a2 (ks:=(kvz 0 order).map Bh) (vs:=(kvz 0 order).map C2) (fun a=>(order.idxOf a:Int)) (fun a ha=>zTG nd (by rw[ho];exact B5.mpr (.inl (cn a ha))))
 refine⟨ax,e,by rw[zEU hr2.1 (by omega)];exact dk,ok.imp fun b hb'=> ?_,mk⟩
 obtain⟨a,ha,rfl⟩:=hb'
 have hap:=cn a ha
 have hi:pre.idxOf a<pre.length:=G5 hap
 have hio:order.idxOf a=pre.idxOf a:=by rw[ho,List.idxOf_append,if_pos hap]
 refine⟨by omega,?_⟩
 rw[hio,F5,C7,Ci hi,Je hi]
 have h3:=(a1 a ha).1
 have hlt:=h3.lt
 have a9:kds.length=rows.length:=by simpa using hb.len
 have ll:rows[a.toNat]? =some (zH2 rows a):=by
  unfold zH2
  rw[Ci (by have:=h3.1;omega)]
  rfl
 obtain⟨_,h5,_⟩:=hb.at ll
 simp only[Fw,Gc] at h5
 have:=h3.2
 rw[h5] at this
 injection this with this
 rw[L1,this]
theorem zU8{rows:List Dat}{kds:List Kd}(hb:Bl [] rows kds){ps:List (Int×Int)}(P:Prs rows ps){order:List Int}(o1:order.Perm (rgI rows.length))(o2: ∀p∈ps,∀k:Nat,order[k]? =some p.2->p.1∈order.take k): ∀(rest pre:List Int),order=pre++rest->Bl (pre.map fun a=>mk1 .w (zH2 rows a)) ((rest.map .int).map (renD rows (dctO order))) (order.map fun a=>mk1 .w (zH2 rows a))
 |[],pre,ho=>by rw[ho,Cq];exact .nil
 |r::rest,pre,ho=>by
  obtain⟨ax,e,_,ok,mk⟩:=zYA hb P o1 o2 ho
  have er:=zPT e
  have ih:=zU8 hb P o1 o2 rest (pre++[r]) (by rw[ho,Am];rfl)
  rw[An,An,er]
  refine .cons ok ?_
  rw[mk]
  simpa using ih
theorem zTT(ns:List Int)(n:Nat)(most:Int)(hl:ns.length<=63)(hn:n<100000)(h0:0<=most)(h40:most<=40):
  ∃(sure:Int) (rows:List Dat) (kds:List Kd) (n':Nat),Bl [] rows kds/\(rows.length:Int)<=most/\0<=sure/\sure<=64/\n'<=n+1000/\zC9 [Scp ns,Twn n,.int most]=some (.tup [.int sure,.tup rows],[Twn n']):=by
 obtain⟨x,hx,ex⟩:=zDW ns n [.int 3,.int 6,.int 9,.int 64] hl (by omega) (by simp)
 obtain⟨a7,rfl,r0,r1⟩: ∃q:Int,x= .int q/\0<q/\q<=64:=by
  simp only[A8,Aj,or_false] at hx
  rcases hx with rfl|rfl|rfl|rfl<;>exact⟨_,rfl,by omega,by omega⟩
 have d1:=zDC ns (n+1) (a7+1) hl (by omega) (by omega)
 have d1a:=zJN ns (n+1) (b:=a7+1) (by omega)
 have d1b:drw ns (n+1) (a7+1)<a7+1:=D3 _ (by omega)
 obtain⟨y,hy,ey⟩:=zDW ns (n+2) [.int 0,.int a7,.int a7,.int (drw ns (n+1) (a7+1))] hl (by omega) (by simp)
 obtain⟨sure,rfl,s0,s1⟩: ∃q:Int,y= .int q/\0<=q/\q<=64:=by
  simp only[A8,Aj,or_false] at hy
  rcases hy with rfl|rfl|rfl|rfl<;>exact⟨_,rfl,by omega,by omega⟩
 have d2:=zDC ns (n+3) (most+1) hl (by omega) (by omega)
 have d2a:=zJN ns (n+3) (b:=most+1) (by omega)
 have d2b:drw ns (n+3) (most+1)<most+1:=D3 _ (by omega)
 obtain⟨rows,kds,n1,hb,a9,m1,m2,e1⟩:=zVH ns (n+4) (drw ns (n+3) (most+1)) a7 hl (by omega) r0 r1 d2a (by omega)
 have d3:=zDC ns n1 3 hl (by omega) (by decide)
 have hrl:rows.length<=40:=by omega
 by_cases h3:0<drw ns n1 3
 ·refine ⟨sure,rows,kds,n1 + 1,hb,by omega,s0,s1,by omega,?_⟩
  unfold zC9
  rw[zAC]
  unfold zDY
  simp[envD,ex,d1,ey,d2,e1,d3,h3]
 ·obtain ⟨ps,order,P,o1,o2,e2⟩ := zT7 ns (n1 + 1) (sure := sure) hl (by omega) hb hrl
  have hol:order.length=rows.length:=by rw[o1.length_eq,zLK]
  have nd:order.Nodup:=o1.nodup_iff.mpr ((zPR _).imp fun h=>by omega)
  have c1:=zHC 0 bYes (fun _=>true) (fTup (zA4 (fV 1) (zA4 (fV 0) fNil))) swD [] rfl (enuD 0 (order.map .int)) [] (fun d hd=>by
   obtain⟨i,hi,e⟩:=List.getElem_of_mem hd
   obtain⟨z,_,rfl⟩:=zJM (A5.mpr ⟨hi,e⟩)
   exact⟨_,_,rfl,by simp,fun _=>by simp[swD]⟩) (by rw[zJL];simp;omega)
  have f1:(enuD 0 (order.map Dat.int)).filter (fun _=>true)=enuD 0 (order.map .int):=List.filter_eq_self.mpr fun _ _=>rfl
  rw[f1,D1] at c1
  have hd:zTB (.lst ((enuD 0 (order.map .int)).map swD))=some (dctO order):=by
   show(zHR ((enuD 0 (order.map .int)).map swD)).bind (fun kds=>if(kds.map Bh).Nodup then some (Dat.dct (kds.map Bh) (kds.map C2)) else none)=_
   rw[zNE,Aa,if_pos]
   ·rfl
   ·rw[zJG]
    exact Gs _ (fun a b h e=>h (by injection e)) nd
  have c2:=zFT 2 (zAI 2 [] zAL (aE (f2 oIxA (f2 oIxA (fV 0) (fC (.int 1))) (fV 2)) (aE (fV 1) aNil))) [.va (.tup [.int sure,.tup rows]),.va (dctO order)] (renD rows (dctO order)) rfl (order.map .int) [] (fun d hd=>by
   obtain⟨r,hr,rfl⟩:=By.mp hd
   obtain⟨pre,rest,ho⟩:=List.append_of_mem hr
   obtain⟨ax,e,ea,_,_⟩:=zYA hb P o1 o2 ho
   have er:=zPT e
   rw[er]
   simp[ea,e]) (by simp;omega)
  rw[D1] at c2
  have B:=zU8 hb P o1 o2 order [] rfl
  refine⟨sure,(order.map .int).map (renD rows (dctO order)),_,n1+1+rows.length,B,by simp;omega,s0,s1,by omega,?_⟩
  have h3': ¬0<drw ns n1 3:=h3
  unfold zC9
  rw[zAC]
  unfold zDY
  have hln:((order.map Dat.int).map (renD rows (dctO order))).length<=16777216:=by simp;omega
  generalize (order.map Dat.int).map (renD rows (dctO order))=R at*
  generalize (enuD 0 (order.map Dat.int)).map swD=S at*
  generalize dctO order=D at*
  simp[envD,ex,d1,ey,d2,e1,d3,h3',e2,zBG,c1,hd,c2]
noncomputable def isW:Kd->Bool
 | .w=>true
 |_=>false
theorem yFF{kds:List Kd}{a:Int}(h:Nm kds .w a):Ab (kds.map isW) a:=⟨h.1,by rw[C7,h.2];rfl⟩
theorem mkw{x:String}{t:List Dat}:zCD [.tup (.str x::t)]=some (.bl (isW (mk1 .w (.tup (.str x::t)))),[]):=by
 unfold zCD;rw[zAC];unfold zEA
 by_cases h:x= "store"
 ·subst h
  simp[envD,zB0,mk1,zAY,isW]
 ·by_cases h2:x= "put"
  ·subst h2
   simp[envD,zB0,mk1,zAY,isW]
  ·have h3 : ¬ "store" = x := fun z => h z.symm
   have h4: ¬ "put"=x:=fun z=>h2 z.symm
   simp[envD,zB0,mk1,zAY,isW,h,h2,h3,h4]
theorem zTU(blk rws:Dat)(sure:Int){kds aa:List Kd}{rows:List Dat}(h:Bl kds rows aa):kds.length+rows.length<1000-> ∀s:Sl,∃s',forV (gN 4) zDM rows [.va blk,.va (.int sure),.va rws,.ow (.lst ((kds.map isW).map .bl)),s]=some (.nx [.va blk,.va (.int sure),.va rws,.ow (.lst ((aa.map isW).map .bl)),s']):=by
 induction h with
 | nil => exact fun _ s => ⟨s,by simp⟩
 | @cons kds aa row rows ok h ih=>
  intro hk s
  obtain⟨s',ih⟩:=ih (by simp at hk⊢;omega) (.va row)
  refine⟨s',?_⟩
  have e:=zTJ (ok.imp fun a=>yFF)
  obtain⟨x,t,rfl,_⟩:=zFG ok
  have hk':kds.length<16777216:=by simp at hk;omega
  rw[Ex,Ex] at ih
  simp only[An,Ce] at ih
  rw[zEB,gN_e,zHK]
  have b1:zDM [.va blk,.va (.int sure),.va rws,.ow (.lst ((kds.map isW).map .bl)),.va (.tup (.str x::t))]=some (.nx [.va blk,.va (.int sure),.va rws,.ow (.lst ((kds.map isW).map .bl++[.bl (isW (mk1 .w (.tup (.str x::t))))])),.va (.tup (.str x::t))]):=by
   unfold zDM
   simp only[Jz] at e
   simp[e,mkw,hk',Dat.hard]
  have s1:([.va blk,.va (.int sure),.va rws,.ow (.lst ((kds.map isW).map .bl)),s]:Ev).set 4 (.va (.tup (.str x::t)))=[.va blk,.va (.int sure),.va rws,.ow (.lst ((kds.map isW).map .bl)),.va (.tup (.str x::t))]:=rfl
  rw[s1,b1,zJB]
  exact ih
theorem zOD{sure:Int}{rows:List Dat}{kds:List Kd}(h:Bl [] rows kds)(s0:0<=sure)(s1:sure<=64)(r40:rows.length<=40):zD9 [.tup [.int sure,.tup rows]]=some (.bl true,[]):=by
 obtain⟨s',e1⟩:=zTU (.tup [.int sure,.tup rows]) (.tup rows) sure h (by simp;omega) .no
 simp only[Ce] at e1
 have h40: ¬(40:Int)<(rows.length:Int):=by omega
 unfold zD9
 rw[zAC,zGC.eq_1]
 simp[envD,zF5,zF6,s0,s1,h40,e1]
theorem zI4{sure:Int}{rows:List Dat}{kds:List Kd}(h:Bl [] rows kds)(s0:0<=sure)(s1:sure<=64)(r40:rows.length<=40){cs:List Int}(hcs: ∀c∈cs,Wd c)(hs:sure<=cs.length)(c6:cs.length<=64):zBV [.tup [.int sure,.tup rows],.lst (cs.map .int)]=some (.non,[]):=by
 have e2:=zOD h s0 s1 r40
 have e3:=zTR hcs hs c6
 unfold zBV
 rw[zAC]
 unfold zF3
 simp[envD,e2,e3]
noncomputable def stB(rws:Dat)(cs:List Dat)(ws:List Dat)(a b c d:Sl):Ev:=
 [.va rws,.ow (.lst cs),.ow (.lst ws),a,b,c,d]
structure Nx(row:Dat)(ws:List Dat)(cs:List Int)(m:Dat)(cs1:List Int):Prop where
 word:mk1 .w row= .w-> ∃w,Wd w/\m= .int w
 prog: ∀rws i c d,∃c1 d1,zBU (stB rws (cs.map .int) ws (.va i) (.va row) c d)=some (.nx (stB rws (cs1.map .int) (ws++[m]) (.va i) (.va row) c1 d1))
 law: ∀rws i c d,∃c1 d1,zBN (stB rws (cs.map .int) ws (.va i) (.va row) c d)=some (.nx (stB rws (cs1.map .int) (ws++[m]) (.va i) (.va row) c1 d1))
structure Ft(row:Dat)(ws:List Dat)(cs:List Int)(s:String):Prop where
 prog: ∀rws i c d,∃c1 d1,zBU (stB rws (cs.map .int) ws (.va i) (.va row) c d)=some (.rt (.tup [.lst ws,.tup [i,.str s]]) (stB rws (cs.map .int) ws (.va i) (.va row) c1 d1))
 law: ∀rws i c d,∃c1 d1,zBN (stB rws (cs.map .int) ws (.va i) (.va row) c d)=some (.rt (.tup [.lst (cs.map .int),.lst ws,.tup [i,.str s]]) (stB rws (cs.map .int) ws (.va i) (.va row) c1 d1))
theorem zBR.num{M:Int->Prop}{row:Dat}{v:Int}(h:zBR M row)(e:row= .tup [.str "number",.int v]):0<=v/\v<=999:=by
 cases h with
 |number a b=>cases e;exact⟨a,b⟩
 |_=>simp[zAY] at e
@[simp] theorem yH7{i:Nat}{F:VFun}{ds:List Dat}:lstD i F ds=(ds[i]?).bind fun x=>(seqD x).bind fun es=>(F (ds.take i++[.lst es])).map fun q=>(q.1,q.2.dropLast):=(rfl)
theorem zBR.isnum{M:Int->Prop}{row:Dat}{t:List Dat}(h:zBR M row)(e:row= .tup (.str "number"::t)): ∃n,row= .tup [.str "number",.int n]:=by
 cases h with
 | @number n a b=>exact⟨n,rfl⟩
 |two hx=>
  simp[zAY] at e
  rw[e.1] at hx
  exact absurd hx (by decide)
 |_=>simp[zAY] at e
theorem yB0(row:Dat):(∃n,row= .tup [.str "number",.int n])∨ ∀n,row≠ .tup [.str "number",.int n]:=by
 by_cases h: ∃n,row= .tup [.str "number",.int n]
 ·exact .inl h
 ·exact .inr fun n e=>h ⟨n,e⟩
theorem zXM{kds:List Kd}{row:Dat}(ok:zBR (Nm kds .w) row){ws:List Dat}(W:Ws kds ws){cs:List Int}(hcs: ∀c∈cs,Wd c)(hk:kds.length<1000):
  (∃m cs1,(∀c∈cs1,Wd c)/\cs1.length=cs.length/\okk 0 m/\Nx row ws cs m cs1)∨ ∃s,Ft row ws cs s:=by
 have hwl:ws.length<16777216:=by rw[W.len];omega
 rcases yB0 row with⟨n,rfl⟩|hnn
 ·have hn:=ok.num rfl
  refine .inl ⟨.int n,cs,hcs,rfl,zCO,fun _=>⟨n,hn,rfl⟩,fun rws i c d=>⟨.va (.int n),.va .non,?_⟩,fun rws i c d=>⟨c,d,?_⟩⟩
  ·have np : zD4 [.tup [.str "number",.int n]] = some (.lst [],[]) := by kernel_rfl
   have p2:=yAA (n:=n) (lane:=0) (ds:=[]) (cs:=cs.map .int)
   unfold zBU
   simp[stB,np,zBG,p2,hwl]
  ·unfold zBN
   simp[stB,hwl]
 ·obtain⟨as,hM,hcn,nl,np⟩:=zIL ok
  have has:as.length<=3:=by rw[hcn];exact yBB _
  have c2:=zNV (d:= .lst ws) (ws:=ws) has fun a ha=>by
   rw[yA7]
   exact(W.word (hM a ha)).1
  obtain⟨m,y,cs1,B⟩:=zP7 ok hnn (as.map (wv ws)) cs 0 (by omega) (by simpa using hcn) (fun w hw=>by
   obtain⟨q,hq,rfl⟩:=By.mp hw
   exact(W.word (hM q hq)).2) hcs
  have p2:=B.prog
  have l2:=B.law
  have hm:okk 0 m:=by
   rcases B.made with rfl|⟨w,rfl,_⟩
   ·exact zLN
   ·exact zCO
  obtain⟨x,t,rfl,_⟩:=zFG ok
  have hx: ¬x= "number":=fun z=>by
   subst z
   obtain⟨n,e⟩:=ok.isnum rfl
   exact hnn n e
  generalize as.map (wv ws)=zs at c2 p2 l2
  rcases B.why with rfl|⟨s,rfl⟩
  ·refine .inl ⟨m,cs1,B.ok,B.len,hm,fun h => by
    obtain⟨w,e,hw⟩:=B.word rfl h
    exact⟨w,hw,e⟩,fun rws i c d=>⟨.va m,.va .non,?_⟩,fun rws i c d=>⟨.va m,.va .non,?_⟩⟩
   ·unfold zBU
    simp[stB,np,zBG,c2,p2,hwl]
   ·unfold zBN
    simp[stB,nl,zBG,c2,l2,hwl,hx]
  ·have lq : cs1 = cs := B.keep (by simp)
   rw[lq] at p2 l2
   refine .inr ⟨s,fun rws i c d=>⟨.va m,.va (.str s),?_⟩,fun rws i c d=>⟨.va m,.va (.str s),?_⟩⟩
   ·unfold zBU
    simp[stB,np,zBG,c2,p2]
   ·unfold zBN
    simp[stB,nl,zBG,c2,l2,hx]
theorem zOE{rws:Dat}{cs ws:List Dat}{a b c d:Sl}{i r:Dat}:GP 3 4 (.tup [i,r]) (stB rws cs ws a b c d)=some (stB rws cs ws (.va i) (.va r) c d):=by simp[stB]
structure AllD(n:Nat)(rows:List Dat)(ws:List Dat)(cs:List Int)(cs':List Int)(ws':List Dat):Prop where
 ok: ∀c∈cs',Wd c
 len:cs'.length=cs.length
 oks: ∀d∈ws',okk 0 d
 wl:ws'.length=n+rows.length
 prog: ∀rws a b c d,∃a1 b1 c1 d1,forV (GP 3 4) zBU (enuD n rows) (stB rws (cs.map .int) ws a b c d)=some (.nx (stB rws (cs'.map .int) ws' a1 b1 c1 d1))
 law: ∀rws a b c d,∃a1 b1 c1 d1,forV (GP 3 4) zBN (enuD n rows) (stB rws (cs.map .int) ws a b c d)=some (.nx (stB rws (cs'.map .int) ws' a1 b1 c1 d1))
structure OneF(n:Nat)(rows:List Dat)(ws:List Dat)(cs:List Int)(cs':List Int)(ws':List Dat)(m:Nat)(s:String):Prop where
 lt:m<rows.length
 pre:AllD n (rows.take m) ws cs cs' ws'
 prog: ∀rws a b c d,∃δ,forV (GP 3 4) zBU (enuD n rows) (stB rws (cs.map .int) ws a b c d)=some (.rt (.tup [.lst ws',.tup [.int ((n+m:Nat):Int),.str s]]) δ)/\ ∃a1 b1 c1 d1,δ=stB rws (cs'.map .int) ws' a1 b1 c1 d1
 law: ∀rws a b c d,∃δ,forV (GP 3 4) zBN (enuD n rows) (stB rws (cs.map .int) ws a b c d)=some (.rt (.tup [.lst (cs'.map .int),.lst ws',.tup [.int ((n+m:Nat):Int),.str s]]) δ)/\ ∃a1 b1 c1 d1,δ=stB rws (cs'.map .int) ws' a1 b1 c1 d1
theorem AllD.nil{n:Nat}{ws:List Dat}{cs:List Int}(hcs: ∀c∈cs,Wd c)(hws: ∀d∈ws,okk 0 d)(hl:ws.length=n):AllD n [] ws cs cs ws:=
 ⟨hcs,rfl,hws,by simpa using hl,fun rws a b c d=>⟨a,b,c,d,by simp[enuD]⟩,fun rws a b c d=>⟨a,b,c,d,by simp[enuD]⟩⟩
theorem AllD.cons{n:Nat}{row:Dat}{rows ws ws':List Dat}{m:Dat}{cs cs1 cs':List Int}(hl1:cs1.length=cs.length)(h:Nx row ws cs m cs1)(t:AllD (n+1) rows (ws++[m]) cs1 cs' ws'):AllD n (row::rows) ws cs cs' ws':=by
 refine⟨t.ok,t.len.trans hl1,t.oks,by rw[t.wl];simp;omega,fun rws a b c d=> ?_,fun rws a b c d=> ?_⟩
 ·obtain⟨c1,d1,e⟩:=h.prog rws (.int n) c d
  obtain⟨a2,b2,c2,d2,e2⟩:=t.prog rws (.va (.int n)) (.va row) c1 d1
  exact⟨a2,b2,c2,d2,by rw[zCK,zEB,zOE,zHK,e,zJB,e2]⟩
 ·obtain⟨c1,d1,e⟩:=h.law rws (.int n) c d
  obtain⟨a2,b2,c2,d2,e2⟩:=t.law rws (.va (.int n)) (.va row) c1 d1
  exact⟨a2,b2,c2,d2,by rw[zCK,zEB,zOE,zHK,e,zJB,e2]⟩
theorem sim{kds aa:List Kd}{rows:List Dat}(h:Bl kds rows aa): ∀(ws:List Dat) (cs:List Int),Ws kds ws->(∀d∈ws,okk 0 d)->(∀c∈cs,Wd c)->kds.length+rows.length<1000→
  (∃cs' ws',AllD kds.length rows ws cs cs' ws')∨ ∃cs' ws' m s,OneF kds.length rows ws cs cs' ws' m s:=by
 induction h with
 | nil => exact fun ws cs W hws hcs _ => .inl ⟨cs,ws,.nil hcs hws W.len⟩
 | @cons kds aa row rows ok h ih=>
  intro ws cs W hws hcs hk
  simp only[B0] at hk
  rcases zXM ok W hcs (by omega) with⟨m,cs1,h1,h2,h3,N⟩|⟨s,F⟩
  ·have W':Ws (kds++[mk1 .w row]) (ws++[m]):=W.snoc N.word
   have ih:=ih (ws++[m]) cs1 W' (fun d hd=>by
    rcases B5.mp hd with z|z
    ·exact hws d z
    ·simp at z;rw [z];exact h3) h1 (by simp;omega)
   rw[Bg,Dh] at ih
   rcases ih with⟨cs',ws',A⟩|⟨cs',ws',k,s,F⟩
   ·exact .inl ⟨cs',ws',.cons h2 N A⟩
   ·refine .inr ⟨cs',ws',k + 1,s,by have := F.lt;simp;omega,?_,fun rws a b c d => ?_,fun rws a b c d => ?_⟩
    ·rw[Fy]
     exact .cons h2 N F.pre
    ·obtain⟨c1,d1,e⟩:=N.prog rws (.int kds.length) c d
     obtain⟨δ,e2,hδ⟩:=F.prog rws (.va (.int kds.length)) (.va row) c1 d1
     refine⟨δ,?_,hδ⟩
     rw[zCK,zEB,zOE,zHK,e,zJB,e2,show kds.length+1+k=kds.length+(k+1) by omega]
    ·obtain⟨c1,d1,e⟩:=N.law rws (.int kds.length) c d
     obtain⟨δ,e2,hδ⟩:=F.law rws (.va (.int kds.length)) (.va row) c1 d1
     refine⟨δ,?_,hδ⟩
     rw[zCK,zEB,zOE,zHK,e,zJB,e2,show kds.length+1+k=kds.length+(k+1) by omega]
  ·refine .inr ⟨cs,ws,0,s,by simp,?_,fun rws a b c d => ?_,fun rws a b c d => ?_⟩
   ·rw[List.take_zero]
    exact .nil hcs hws W.len
   ·obtain⟨c1,d1,e⟩:=F.prog rws (.int kds.length) c d
    refine⟨stB rws (cs.map .int) ws (.va (.int kds.length)) (.va row) c1 d1,?_,_,_,_,_,rfl⟩
    rw[zCK,zEB,zOE,zHK,e,zYH,K0]
   ·obtain⟨c1,d1,e⟩:=F.law rws (.int kds.length) c d
    refine⟨stB rws (cs.map .int) ws (.va (.int kds.length)) (.va row) c1 d1,?_,_,_,_,_,rfl⟩
    rw[zCK,zEB,zOE,zHK,e,zYH,K0]
theorem Bl.take{kds aa:List Kd}{rows:List Dat}(h:Bl kds rows aa): ∀m,∃k,Bl kds (rows.take m) k:=by
 induction h with
 | @nil kds => exact fun m => ⟨kds,by rw [List.take_nil];exact .nil⟩
 | @cons kds aa row rows ok h ih=>
  intro m
  cases m with
  |zero=>exact⟨kds,.nil⟩
  |succ m=>
   obtain⟨k,hk⟩:=ih m
   exact⟨k,by rw[Fy];exact .cons ok hk⟩
theorem zMT{sure:Int}{rows:List Dat}{kds:List Kd}(h:Bl [] rows kds)(s0:0<=sure)(s1:sure<=64)(r40:rows.length<=40){cs cs':List Int}{ws':List Dat}(hcs: ∀c∈cs,Wd c)(hs:sure<=cs.length)(c6:cs.length<=64)(A:AllD 0 rows [] cs cs' ws'):
  zJT [.tup [.int sure,.tup rows],.lst (cs.map .int)]=some (.tup [.lst (cs'.map .int),.non],[])/\zDN [.tup [.int sure,.tup rows],.lst (cs.map .int)]=some (.lst ws',[])/\zCE [.tup rows,.lst (cs.map .int)]=some (.tup [.lst (cs'.map .int),.lst ws',.non],[]):=by
 have ec:=zI4 h s0 s1 r40 hcs hs c6
 obtain⟨a1,b1,c1,d1,e1⟩:=A.prog (.tup rows) .no .no .no .no
 obtain⟨a2,b2,c2,d2,e2⟩:=A.law (.tup rows) .no .no .no .no
 simp only[stB] at e1 e2
 have e5:zC4 [.tup rows,.lst (cs.map .int)]=some (.tup [.lst ws',.non],[.lst (cs'.map .int)]):=by
  unfold zC4
  rw[zAC,zFQ.eq_1]
  simp[envD,e1]
 refine⟨?_,?_,?_⟩
 ·unfold zJT
  rw[zAC]
  unfold zTN
  simp[envD,ec,e5]
 ·unfold zDN
  rw[zAC]
  unfold zHB
  simp[envD,ec,e5]
 ·unfold zCE
  rw[zAC,zEK.eq_1]
  simp[envD,e2]
theorem zPO{sure:Int}{rows:List Dat}{kds:List Kd}(h:Bl [] rows kds)(s0:0<=sure)(s1:sure<=64)(r40:rows.length<=40){cs cs':List Int}{ws':List Dat}{m:Nat}{s:String}(hcs: ∀c∈cs,Wd c)(hs:sure<=cs.length)(c6:cs.length<=64)(A:OneF 0 rows [] cs cs' ws' m s):
  zJT [.tup [.int sure,.tup rows],.lst (cs.map .int)]=some (.tup [.lst (cs'.map .int),.tup [.int m,.str s]],[])/\zDN [.tup [.int sure,.tup rows],.lst (cs.map .int)]=some (.lst ws',[])/\zCE [.tup rows,.lst (cs.map .int)]=some (.tup [.lst (cs'.map .int),.lst ws',.tup [.int m,.str s]],[]):=by
 have ec:=zI4 h s0 s1 r40 hcs hs c6
 obtain⟨δ1,e1,a1,b1,c1,d1,rfl⟩:=A.prog (.tup rows) .no .no .no .no
 obtain⟨δ2,e2,a2,b2,c2,d2,rfl⟩:=A.law (.tup rows) .no .no .no .no
 simp only[stB,Gc] at e1 e2
 have e5:zC4 [.tup rows,.lst (cs.map .int)]=some (.tup [.lst ws',.tup [.int m,.str s]],[.lst (cs'.map .int)]):=by
  unfold zC4
  rw[zAC,zFQ.eq_1]
  simp[envD,e1]
 refine⟨?_,?_,?_⟩
 ·unfold zJT
  rw[zAC]
  unfold zTN
  simp[envD,ec,e5]
 ·unfold zDN
  rw[zAC]
  unfold zHB
  simp[envD,ec,e5]
 ·unfold zCE
  rw[zAC,zEK.eq_1]
  simp[envD,e2]
theorem zHO{k:Nat}{d:Dat}(h:okk k d)(hk:k<=64:=by decide):oNe d d=some (.bl false):=by
 rw[zTA h h hk hk,zNN h]
 rfl
theorem zWX{k:Nat}{d:Dat}(h:okk k d)(hk:k<=64:=by decide):oEq d d=some (.bl true):=by rw[yA9 h h hk hk,zNN h]
end L2
namespace RR
open PySem L2
theorem zTE(ns:List Int)(hl:ns.length<=63):zOL [.lst (ns.map .int)]=some (.bl true,[]):=by
 obtain⟨sure,rows,kds,n,hb,a9,s0,s1,hn,e1⟩:=zTT ns 0 20 hl (by omega) (by omega) (by omega)
 obtain⟨cs,n2,hcs,hs,c6,hn2,e2⟩:=zTS ns n sure hl (by omega) s0 s1
 have r40:rows.length<=40:=by omega
 have ht0:Dat.lst []=Twn 0:=rfl
 have hS:Dat.lst (ns.map .int)=Scp ns:=rfl
 have hcc:=zHO (d:= .lst (cs.map .int)) (zC6 (k:=0) (zD2 cs))
 have hx:envD [] 8 [Scp ns]=[.va (Scp ns),.no,.no,.no,.no,.no,.no,.no]:=(rfl)
 have b7:(sSet 1 (xO (fLst fNil))) [.va (Scp ns),.no,.no,.no,.no,.no,.no,.no]=some (.nx [.va (Scp ns),.ow (Twn 0),.no,.no,.no,.no,.no,.no]):=(rfl)
 rw[hS]
 unfold zOL
 rw[zAC]
 unfold zWU
 rw[hx,zU3,b7,qS_n]
 rcases sim hb [] cs Ws.nil (fun _ h=>nomatch h) hcs (by simp;omega) with⟨cs',ws',A⟩|⟨cs',ws',m,s,F⟩
 ·obtain⟨r1,r2,r3⟩:=zMT hb s0 s1 r40 hcs hs c6 A
  have n1:=zHO (d:= .tup [.lst (cs'.map .int),.non]) (zE7 (zAX (zC6 (k:=0) (zD2 cs')) (zAX zLN zCI)))
  have n2:=zHO (d:= .lst ws') (zC6 A.oks)
  have hwl:ws'.length=rows.length:=by simpa using A.wl
  generalize cs.map Dat.int=C at*
  generalize cs'.map Dat.int=C' at*
  simp[e1,e2,r1,r2,r3,n1,n2,hcc,hwl]
 ·obtain⟨r1,r2,r3⟩:=zPO hb s0 s1 r40 hcs hs c6 F
  have n1:=zHO (d:= .tup [.lst (cs'.map .int),.tup [.int m,.str s]]) (zE7 (zAX (zC6 (k:=0) (zD2 cs')) (zAX (zE7 (zAX zCO (zAX zCN zCI))) zCI)))
  have n2:=zHO (d:= .lst ws') (zC6 F.pre.oks)
  have hm:=F.lt
  have hwl:ws'.length=m:=by
   have:=F.pre.wl
   rw[Bf,E5 (by omega)] at this
   simpa using this
  obtain⟨k,hb2⟩:=hb.take m
  obtain⟨q1,_,_⟩:=zMT hb2 s0 s1 (by rw[Bf];omega) hcs hs c6 F.pre
  have hc:=zGE (ds:=rows) (k:=m)
  have n3:=zWX (d:= .tup [.lst (cs'.map .int),.non]) (zE7 (zAX (zC6 (k:=0) (zD2 cs')) (zAX zLN zCI)))
  generalize cs.map Dat.int=C at*
  generalize cs'.map Dat.int=C' at*
  simp[e1,e2,r1,r2,r3,n1,n2,n3,hcc,hwl,hc,q1]
end RR
namespace KK
open PySem PySem.W
noncomputable abbrev g(a i:Nat)(n:Str)(d m:Value):Obj:=⟨.type "function",none,.func (fnOf n n (L2.zC7 (RR.top i)) (L2.zBP (RR.top i)) (L2.zA6 (RR.top i)) d .none .none m none (.ref (a - 1)) .none),#[]⟩
theorem p(P:Kf)(a i:Nat)(n:Str)(m:Value)(h1:nsIn (K P) mainGlobals n=some (some (.ref a)):=by kernel_rfl)(h2:(K P).lookup a=some (g a i n .none m):=by kernel_rfl)(h3:codeIn (K P) (.ref (a - 1)) n=true:=by kernel_rfl):L2.A4 (K P) n (RR.top i) a:=L2.a4 h1 h2 h3 (by unfold keepIn;simp only[h2])
end KK
namespace RR
open PySem L2
abbrev Zn(K:Ad)(x:Str):Prop:=Hz K mainGlobals x=some none
abbrev Gn(K:Ad)(x:Str)(v:Value):Prop:=Hz K mainGlobals x=some (some v)
theorem Len1{α:Type}{P:List α->Prop}(z: ∀a,P [a]): ∀us:List α,us.length=1->P us
 |[a],_=>z a
theorem Len2{α:Type}{P:List α->Prop}(z: ∀a b,P [a,b]): ∀us:List α,us.length=2->P us
 |[a,b],_=>z a b
theorem Len3{α:Type}{P:List α->Prop}(z: ∀a b c,P [a,b,c]): ∀us:List α,us.length=3->P us
 |[a,b,c],_=>z a b c
theorem Len4{α:Type}{P:List α->Prop}(z: ∀a b c d,P [a,b,c,d]): ∀us:List α,us.length=4->P us
 |[a,b,c,d],_=>z a b c d
theorem Len5{α:Type}{P:List α->Prop}(z: ∀a b c d e,P [a,b,c,d,e]): ∀us:List α,us.length=5->P us
 |[a,b,c,d,e],_=>z a b c d e
theorem Len6{α:Type}{P:List α->Prop}(z: ∀a b c d e f,P [a,b,c,d,e,f]): ∀us:List α,us.length=6->P us
 |[a,b,c,d,e,f],_=>z a b c d e f
theorem yBK{l:Lx}{w:World}{K:Ad}{h:Heap}{mg:Str->Option Value}{fa:Addr}(X:K.In h)(G:h.Ns mainGlobals mg)(hfa:mg "law"=some (.ref fa))
  {f_x0 f_x1 f_x2 f_x3 f_x4 f_x5 f_x6 f_x7 f_x8 f_x9 f_x10 f_x11 f_x12 f_x13 f_x14 f_x15 f_x16 f_x17 f_x18 f_x19 f_x20 f_x21:Addr}
  {kV_x21 dc_x21 pm_x21 cd_x21 ct_x21:Value}
  {t1:Tok}
  {a2 f_x22 f_x23 f_x24 f_x25 f_x26 f_x27 f_x28 f_x29 f_x30 f_x31 f_x33 f_x32 f_x38 f_x40 f_x41 f_x42 f_x43 f_x34 f_x35 f_x36 f_x37 f_x39 f_x44:Addr}
  {kV_x44 dc_x44 pm_x44 cd_x44 ct_x44:Value}
  {t3 t4 t5 t6 t7 t8 t9 t10:Tok}
  {a11:Addr}
  {t12 t13 t14 t15 t16 t17 t18:Tok}
  {a19:Addr}
  {h20 h21 h22 h23 h24 h25 h26:Int}
  {t27 t28 t29 t30 t31:Tok}
  {a32:Addr}
  {t33 t34 t35 t36 t37 t38 t39:Tok}
  {a40:Addr}
  {t41 t42 t43:Tok}
  {a44:Addr}
  {t45:Tok}
  {a46:Addr}
  {t47 t48 t49:Tok}
  {a50:Addr}
  {t51 t52:Tok}
  {a53:Addr}
  {t54 t55 t56:Tok}
  {a57 a58:Addr}
  {h59 h60 h61 h62 h63 h64:Int}
  {t65 t66:Tok}
  {a67:Addr}
  {t68 t69:Tok}
  {a70:Addr}
  {t71:Tok}
  (mj:A4 K "is_whole" (top 7) f_x0)
  (kl:A4 K "plus" (top 8) f_x1)
  (k4:A4 K "minus" (top 9) f_x2)
  (jq:A4 K "times" (top 10) f_x3)
  (jd:A4 K "least" (top 11) f_x4)
  (j6:A4 K "most" (top 12) f_x5)
  (j5:A4 K "less" (top 13) f_x6)
  (j4:A4 K "over" (top 14) f_x7)
  (mi:A4 K "pick" (top 15) f_x8)
  (mh:A4 K "done" (top 17) f_x9)
  (kj:A4 K "parts_of" (top 26) f_x10)
  (ki:A4 K "makes_word" (top 27) f_x11)
  (kg:A4 K "place_of" (top 28) f_x12)
  (kf:A4 K "names_of" (top 29) f_x13)
  (kc:A4 K "may_name" (top 30) f_x14)
  (k9:A4 K "fits" (top 31) f_x15)
  (k8:A4 K "is_row" (top 32) f_x16)
  (k7:A4 K "is_block" (top 33) f_x17)
  (k6:A4 K "is_cells" (top 36) f_x18)
  (k5:A4 K "touches" (top 37) f_x19)
  (jz:A4 K "do_on_cell" (top 38) f_x20)
  (l4:K.lookup a2=some ⟨.type "tuple",none,.seq #[.int 0 t1] 0,#[]⟩)
  (gx:Hz K mainGlobals "do_row"=some (some (.ref f_x21)))
  (lc:K.lookup f_x21=some ⟨.type "function",none,.func (Fs "do_row" "do_row" (zC7 (top 39)) (zBP (top 39)) (zA6 (top 39)) (.ref a2) kV_x21 dc_x21 pm_x21 none cd_x21 ct_x21),#[]⟩)
  (m6:Ga K cd_x21 "do_row"=true)
  (di:Ep K (.ref f_x21)=true)
  (jy:A4 K "do_rows" (top 40) f_x22)
  (jx:A4 K "check_run" (top 41) f_x23)
  (jw:A4 K "run" (top 42) f_x24)
  (jv:A4 K "values" (top 43) f_x25)
  (ju:A4 K "_law_cell_at" (top 45) f_x26)
  (jt:A4 K "_law_mixed" (top 46) f_x27)
  (js:A4 K "_law_draw" (top 47) f_x28)
  (jr:A4 K "_law_pick" (top 48) f_x29)
  (jo:A4 K "_law_place" (top 49) f_x30)
  (jm:A4 K "_law_row" (top 50) f_x31)
  (jk:A4 K "_law_next" (top 52) f_x33)
  (jl:A4 K "_law_rows" (top 51) f_x32)
  (jf:A4 K "_law_names" (top 57) f_x38)
  (jc:A4 K "_law_may" (top 59) f_x40)
  (j9:A4 K "_law_must" (top 60) f_x41)
  (j8:A4 K "_law_mixed_order" (top 61) f_x42)
  (j7:A4 K "_law_renamed" (top 62) f_x43)
  (jj:A4 K "_law_block" (top 53) f_x34)
  (ji:A4 K "_law_cells" (top 54) f_x35)
  (jh:A4 K "_law_deed" (top 55) f_x36)
  (jg:A4 K "_law_step" (top 56) f_x37)
  (je:A4 K "_law_play" (top 58) f_x39)
  (m8:Hz K mainGlobals "law"=some (some (.ref f_x44)))
  (lb:K.lookup f_x44=some ⟨.type "function",none,.func (Fs "law" "law" (zC7 (top 63)) (zBP (top 63)) (zA6 (top 63)) .none kV_x44 dc_x44 pm_x44 none cd_x44 ct_x44),#[]⟩)
  (lz:Ga K cd_x44 "law"=true)
  (lg:Ep K (.ref f_x44)=true)
  (iw:Zn K "len")
  (gh:Zn K "range")
  (iq:Zn K "min")
  (iu:Zn K "max")
  (h9:Zn K "list")
  (gf:Zn K "tuple")
  (dg:Zn K "sorted")
  (bu:Zn K "isinstance")
  (i4:Zn K "bool")
  (iy:Zn K "int")
  (ip:Zn K "str")
  (ca:Zn K "enumerate")
  (io:Zn K "zip")
  (iz:Zn K "all")
  (i3:Zn K "dict")
  (ci:Gn K "MOST_WORD" (.int 999 t3))
  (l6:K.lookup a11=some ⟨.type "tuple",none,.seq #[.str "plus" t4,.str "minus" t5,.str "times" t6,.str "least" t7,.str "most" t8,.str "less" t9,.str "over" t10] 0,#[]⟩)
  (gl:Gn K "DEEDS" (.ref a11))
  (l5:K.lookup a19=some ⟨.type "dict",none,.dict #[⟨h20,.str "plus" t12,.ref f_x1⟩,⟨h21,.str "minus" t13,.ref f_x2⟩,⟨h22,.str "times" t14,.ref f_x3⟩,⟨h23,.str "least" t15,.ref f_x4⟩,⟨h24,.str "most" t16,.ref f_x5⟩,⟨h25,.str "less" t17,.ref f_x6⟩,⟨h26,.str "over" t18,.ref f_x7⟩] 7,#[]⟩)
  (la:(a19==De)=false)
  (i5:Gn K "MADE" (.ref a19))
  (cj:Gn K "MOST_SURE" (.int 64 t27))
  (cm:Gn K "MOST_ROWS" (.int 40 t28))
  (c7:Gn K "MOST_PLACE" (.int 63 t29))
  (l3:K.lookup a32=some ⟨.type "tuple",none,.seq #[.str "row" t30,.str "row" t31] 0,#[]⟩)
  (c9:Gn K "DEED_PARTS" (.ref a32))
  (l0:K.lookup a40=some ⟨.type "tuple",none,.seq #[.str "word" t39] 0,#[]⟩)
  (kz:K.lookup a44=some ⟨.type "tuple",none,.seq #[.str "row" t41,.str "row" t42,.str "row" t43] 0,#[]⟩)
  (ky:K.lookup a46=some ⟨.type "tuple",none,.seq #[.str "place" t45] 0,#[]⟩)
  (kx:K.lookup a50=some ⟨.type "tuple",none,.seq #[.str "place" t47,.str "row" t48,.str "row" t49] 0,#[]⟩)
  (ku:K.lookup a53=some ⟨.type "tuple",none,.seq #[.str "place" t51,.str "row" t52] 0,#[]⟩)
  (kr:K.lookup a57=some ⟨.type "tuple",none,.seq #[.str "place" t54,.str "row" t55,.str "row" t56] 0,#[]⟩)
  (kq:K.lookup a58=some ⟨.type "dict",none,.dict #[⟨h59,.str "number" t33,.ref a40⟩,⟨h60,.str "pick" t34,.ref a44⟩,⟨h61,.str "load" t35,.ref a46⟩,⟨h62,.str "take" t36,.ref a50⟩,⟨h63,.str "store" t37,.ref a53⟩,⟨h64,.str "put" t38,.ref a57⟩] 6,#[]⟩)
  (l9:(a58==De)=false)
  (bm:Gn K "OTHER_PARTS" (.ref a58))
  (ko:K.lookup a67=some ⟨.type "tuple",none,.seq #[.str "load" t65,.str "take" t66] 0,#[]⟩)
  (df:Gn K "READERS" (.ref a67))
  (kn:K.lookup a70=some ⟨.type "tuple",none,.seq #[.str "store" t68,.str "put" t69] 0,#[]⟩)
  (de:Gn K "WRITERS" (.ref a70))
  (c8:Gn K "MOST_CELLS" (.int 64 t71)):
  ∃fd:D9,(∀(s:A7) (v:Value),Km s fd ⟨[v],[]⟩ [("_law_script",v)])/\ ∀base:Heap,K.In base->base.Ns mainGlobals mg->FnOk l.prog w K mg base CX0 9 fa fd ["_law_script"] (spV K [] 1 zOL):=by
 have e:=hfa.symm.trans (Ef X G m8)
 cases e
 have T:Txt K mg:=⟨fun _ _ e=>Ef X G e,
   Ca X G iw,
   Ca X G gh,
   Ca X G iq,
   Ca X G iu,
   Ca X G h9,
   Ca X G gf,
   Ca X G dg,
   Ca X G bu,
   Ca X G i4,
   Ca X G iy,
   Ca X G ip,
   Ca X G ca,
   Ca X G io,
   Ca X G iz,
   Ca X G i3,
   ⟨_,.ref a11,Ef X G gl,rfl,fun _ _ _=>(.tup (xs:=[.str "plus",.str "minus",.str "times",.str "least",.str "most",.str "less",.str "over"]) (.inr ⟨_,_,_,l6,rfl,rfl,(by show 7<=sizeLine;decide),(.cons ⟨_,rfl⟩ (.cons ⟨_,rfl⟩ (.cons ⟨_,rfl⟩ (.cons ⟨_,rfl⟩ (.cons ⟨_,rfl⟩ (.cons ⟨_,rfl⟩ (.cons ⟨_,rfl⟩ .nil)))))))⟩) (.cons (.str _) (.cons (.str _) (.cons (.str _) (.cons (.str _) (.cons (.str _) (.cons (.str _) (.cons (.str _) .nil))))))))⟩,
   ⟨_,.ref a32,Ef X G c9,rfl,fun _ _ _=>(.tup (xs:=[.str "row",.str "row"]) (.inr ⟨_,_,_,l3,rfl,rfl,(by show 2<=sizeLine;decide),(.cons ⟨_,rfl⟩ (.cons ⟨_,rfl⟩ .nil))⟩) (.cons (.str _) (.cons (.str _) .nil)))⟩,
   ⟨_,.ref a19,Ef X G i5,rfl,fun _ _ _=>(.ktb (D:=[("plus",.ref f_x1),("minus",.ref f_x2),("times",.ref f_x3),("least",.ref f_x4),("most",.ref f_x5),("less",.ref f_x6),("over",.ref f_x7)]) ⟨la,_,_,_,l5,⟨rfl,rfl,rfl⟩,rfl,(.cons rfl rfl (.cons rfl rfl (.cons rfl rfl (.cons rfl rfl (.cons rfl rfl (.cons rfl rfl (.cons rfl rfl .nil)))))))⟩ (.cons (.fn kl.ns) (.cons (.fn k4.ns) (.cons (.fn jq.ns) (.cons (.fn jd.ns) (.cons (.fn j6.ns) (.cons (.fn j5.ns) (.cons (.fn j4.ns) .nil))))))))⟩,
   ⟨_,.int 64,Ef X G c8,⟨_,rfl⟩,fun _ _ _=>(.int _)⟩,
   ⟨_,.int 63,Ef X G c7,⟨_,rfl⟩,fun _ _ _=>(.int _)⟩,
   ⟨_,.int 40,Ef X G cm,⟨_,rfl⟩,fun _ _ _=>(.int _)⟩,
   ⟨_,.int 64,Ef X G cj,⟨_,rfl⟩,fun _ _ _=>(.int _)⟩,
   ⟨_,.int 999,Ef X G ci,⟨_,rfl⟩,fun _ _ _=>(.int _)⟩,
   ⟨_,.ref a58,Ef X G bm,rfl,fun _ _ _=>(.ktb (D:=[("number",.ref a40),("pick",.ref a44),("load",.ref a46),("take",.ref a50),("store",.ref a53),("put",.ref a57)]) ⟨l9,_,_,_,kq,⟨rfl,rfl,rfl⟩,rfl,(.cons rfl rfl (.cons rfl rfl (.cons rfl rfl (.cons rfl rfl (.cons rfl rfl (.cons rfl rfl .nil))))))⟩ (.cons (.tup (xs:=[.str "word"]) (.inr ⟨_,_,_,l0,rfl,rfl,(by show 1<=sizeLine;decide),(.cons ⟨_,rfl⟩ .nil)⟩) (.cons (.str _) .nil)) (.cons (.tup (xs:=[.str "row",.str "row",.str "row"]) (.inr ⟨_,_,_,kz,rfl,rfl,(by show 3<=sizeLine;decide),(.cons ⟨_,rfl⟩ (.cons ⟨_,rfl⟩ (.cons ⟨_,rfl⟩ .nil)))⟩) (.cons (.str _) (.cons (.str _) (.cons (.str _) .nil)))) (.cons (.tup (xs:=[.str "place"]) (.inr ⟨_,_,_,ky,rfl,rfl,(by show 1<=sizeLine;decide),(.cons ⟨_,rfl⟩ .nil)⟩) (.cons (.str _) .nil)) (.cons (.tup (xs:=[.str "place",.str "row",.str "row"]) (.inr ⟨_,_,_,kx,rfl,rfl,(by show 3<=sizeLine;decide),(.cons ⟨_,rfl⟩ (.cons ⟨_,rfl⟩ (.cons ⟨_,rfl⟩ .nil)))⟩) (.cons (.str _) (.cons (.str _) (.cons (.str _) .nil)))) (.cons (.tup (xs:=[.str "place",.str "row"]) (.inr ⟨_,_,_,ku,rfl,rfl,(by show 2<=sizeLine;decide),(.cons ⟨_,rfl⟩ (.cons ⟨_,rfl⟩ .nil))⟩) (.cons (.str _) (.cons (.str _) .nil))) (.cons (.tup (xs:=[.str "place",.str "row",.str "row"]) (.inr ⟨_,_,_,kr,rfl,rfl,(by show 3<=sizeLine;decide),(.cons ⟨_,rfl⟩ (.cons ⟨_,rfl⟩ (.cons ⟨_,rfl⟩ .nil)))⟩) (.cons (.str _) (.cons (.str _) (.cons (.str _) .nil)))) .nil)))))))⟩,
   ⟨_,.ref a67,Ef X G df,rfl,fun _ _ _=>(.tup (xs:=[.str "load",.str "take"]) (.inr ⟨_,_,_,ko,rfl,rfl,(by show 2<=sizeLine;decide),(.cons ⟨_,rfl⟩ (.cons ⟨_,rfl⟩ .nil))⟩) (.cons (.str _) (.cons (.str _) .nil)))⟩,
   ⟨_,.ref a70,Ef X G de,rfl,fun _ _ _=>(.tup (xs:=[.str "store",.str "put"]) (.inr ⟨_,_,_,kn,rfl,rfl,(by show 2<=sizeLine;decide),(.cons ⟨_,rfl⟩ (.cons ⟨_,rfl⟩ .nil))⟩) (.cons (.str _) (.cons (.str _) .nil)))⟩⟩
 have cz:=zWV (st:=top 39) lc m6 di
 have m7:=cz.binds (ps:=Qx21) (ds:=[]) (m:=4) l4 rfl fun _ _ _ _ _ _ us hl=>match us,hl with|[_,_,_,_],_=>⟨_,rfl,rfl⟩
 have i7:=cz.binds (ps:=Qx21) (ds:=[.int 0 t1]) (m:=3) l4 rfl fun _ _ _ _ _ _ us hl=>match us,hl with|[_,_,_],_=>⟨_,rfl,rfl⟩
 have m9:=zUQ (st:=top 63) lb lz lg
 refine⟨Fs "law" "law" (zC7 (top 63)) (zBP (top 63)) (zA6 (top 63)) .none kV_x44 dc_x44 pm_x44 none cd_x44 ct_x44,fun s v=> .of_eq rfl,fun base _ _=> ?_⟩
 have b6:DefV l.prog w K mg base "is_whole" 1 Qx0 [] zB3 f_x0:=mkDf X G mj (fun U=>yDW U T) (Len3 fun _ _ _=>rfl)
 have im:DefV l.prog w K mg base "plus" 1 Qx1 [] zIV f_x1:=mkDf X G kl (fun U=>yDV U T) (Len2 fun _ _=>rfl)
 have il:DefV l.prog w K mg base "minus" 1 Qx2 [] zGJ f_x2:=mkDf X G k4 (fun U=>yDU U T) (Len2 fun _ _=>rfl)
 have ik:DefV l.prog w K mg base "times" 1 Qx3 [] zGI f_x3:=mkDf X G jq (fun U=>yDT U T) (Len2 fun _ _=>rfl)
 have ij:DefV l.prog w K mg base "least" 1 Qx4 [] zGK f_x4:=mkDf X G jd (fun U=>yDS U T) (Len2 fun _ _=>rfl)
 have ii:DefV l.prog w K mg base "most" 1 Qx5 [] zIX f_x5:=mkDf X G j6 (fun U=>yDR U T) (Len2 fun _ _=>rfl)
 have ig:DefV l.prog w K mg base "less" 1 Qx6 [] zIY f_x6:=mkDf X G j5 (fun U=>yDQ U T) (Len2 fun _ _=>rfl)
 have i9:DefV l.prog w K mg base "over" 1 Qx7 [] zGX f_x7:=mkDf X G j4 (fun U=>yDP U T) (Len2 fun _ _=>rfl)
 have i8:DefV l.prog w K mg base "pick" 1 Qx8 [] zIW f_x8:=mkDf X G mi (fun U=>yDO U T) (Len3 fun _ _ _=>rfl)
 have gn:DefV l.prog w K mg base "done" 2 Qx9 [] zGY f_x9:=mkDf X G mh (fun U=>yDN U T im il ik ij ii ig i9 i8) (Len2 fun _ _=>rfl)
 have br:DefV l.prog w K mg base "parts_of" 1 Qx10 [] zBC f_x10:=mkDf X G kj (fun U=>yA6 U T) (Len1 fun _=>rfl)
 have gd:DefV l.prog w K mg base "makes_word" 1 Qx11 [] zCD f_x11:=mkDf X G ki (fun U=>yA5 U T) (Len1 fun _=>rfl)
 have d9:DefV l.prog w K mg base "place_of" 1 Qx12 [] zAU f_x12:=mkDf X G kg (fun U=>yA4 U T) (Len1 fun _=>rfl)
 have gc:DefV l.prog w K mg base "names_of" 2 Qx13 [] zD4 f_x13:=mkDf X G kf (fun U=>yA3 U T br) (Len1 fun _=>rfl)
 have gb:DefV l.prog w K mg base "may_name" 2 Qx14 [] zD5 f_x14:=mkDf X G kc (fun U=>yA2 U T b6) (Len2 fun _ _=>rfl)
 have ga:DefV l.prog w K mg base "fits" 3 Qx15 [] zEV f_x15:=mkDf X G k9 (fun U=>yA1 U T b6 gb) (Len3 fun _ _ _=>rfl)
 have g9:DefV l.prog w K mg base "is_row" 4 Qx16 [] zEO f_x16:=mkDf X G k8 (fun U=>yA0 U T br ga) (Len2 fun _ _=>rfl)
 have g8:DefV l.prog w K mg base "is_block" 5 Qx17 [] zD9 f_x17:=mkDf X G k7 (fun U=>zZZ U T b6 gd g9) (Len1 fun _=>rfl)
 have g7:DefV l.prog w K mg base "is_cells" 2 Qx18 [] zD8 f_x18:=mkDf X G k6 (fun U=>zZY U T b6) (Len2 fun _ _=>rfl)
 have g0:DefV l.prog w K mg base "touches" 1 Qx19 [] zC3 f_x19:=mkDf X G k5 (fun U=>zZX U T) (Len2 fun _ _=>rfl)
 have d8:DefV l.prog w K mg base "do_on_cell" 2 Qx20 [3] zAQ f_x20:=mkDf X G jz (fun U=>zZW U T g0) (Len4 fun _ _ _ _=>rfl)
 have gy:DefV l.prog w K mg base "do_row" 3 Qx21 [2] zBY f_x21:=⟨Ef X G gx,⟨_,zUH cz T gn d9 d8,m7⟩,di⟩
 have cv:DefD l.prog w K mg base "do_row" 3 Qx21 (spV K [2] 4 zBY) f_x21 (.int 0):=⟨Ef X G gx,⟨_,_,zUH cz T gn d9 d8,i7,by first|exact⟨_,rfl⟩|rfl⟩,di⟩
 have bq:DefV l.prog w K mg base "do_rows" 4 Qx22 [1] zC4 f_x22:=mkDf X G jy (fun U=>zZV U T gc gy cv) (Len2 fun _ _=>rfl)
 have bp:DefV l.prog w K mg base "check_run" 6 Qx23 [] zBV f_x23:=mkDf X G jx (fun U=>zZU U T g8 g7) (Len2 fun _ _=>rfl)
 have d7:DefV l.prog w K mg base "run" 7 Qx24 [] zJT f_x24:=mkDf X G jw (fun U=>zZT U T bq bp) (Len2 fun _ _=>rfl)
 have fu:DefV l.prog w K mg base "values" 7 Qx25 [] zDN f_x25:=mkDf X G jv (fun U=>zZS U T bq bp) (Len2 fun _ _=>rfl)
 have ft:DefV l.prog w K mg base "_law_cell_at" 1 Qx26 [] zBL f_x26:=mkDf X G ju (fun U=>zZR U T) (Len2 fun _ _=>rfl)
 have fo:DefV l.prog w K mg base "_law_mixed" 2 Qx27 [] zCS f_x27:=mkDf X G jt (fun U=>zZQ U T ft) (Len3 fun _ _ _=>rfl)
 have ah:DefV l.prog w K mg base "_law_draw" 3 Qx28 [1] zAK f_x28:=mkDf X G js (fun U=>zZP U T fo) (Len3 fun _ _ _=>rfl)
 have ag:DefV l.prog w K mg base "_law_pick" 4 Qx29 [1] zAP f_x29:=mkDf X G jr (fun U=>zZO U T ah) (Len3 fun _ _ _=>rfl)
 have bh:DefV l.prog w K mg base "_law_place" 5 Qx30 [1,2] zBH f_x30:=mkDf X G jo (fun U=>zZN U T ah ag) (Len5 fun _ _ _ _ _=>rfl)
 have fm:DefV l.prog w K mg base "_law_row" 6 Qx31 [1,3] zDS f_x31:=mkDf X G jm (fun U=>zZM U T ah ag bh) (Len5 fun _ _ _ _ _=>rfl)
 have fg:DefV l.prog w K mg base "_law_next" 5 Qx33 [1,4] zBX f_x33:=mkDf X G jk (fun U=>zZK U T ag) (Len6 fun _ _ _ _ _ _=>rfl)
 have fj:DefV l.prog w K mg base "_law_rows" 7 Qx32 [1] zD6 f_x32:=mkDf X G jl (fun U=>zZL U T ag fm fg) (Len4 fun _ _ _ _=>rfl)
 have bo:DefV l.prog w K mg base "_law_names" 1 Qx38 [] zB6 f_x38:=mkDf X G jf (fun U=>zZF U T) (Len1 fun _=>rfl)
 have bn:DefV l.prog w K mg base "_law_may" 1 Qx40 [] zCL f_x40:=mkDf X G jc (fun U=>zZD U T) (Len2 fun _ _=>rfl)
 have en:DefV l.prog w K mg base "_law_must" 2 Qx41 [] zD7 f_x41:=mkDf X G j9 (fun U=>zZC U T bo bn) (Len1 fun _=>rfl)
 have eg:DefV l.prog w K mg base "_law_mixed_order" 5 Qx42 [1] zBD f_x42:=mkDf X G j8 (fun U=>zZB U T ag en) (Len3 fun _ _ _=>rfl)
 have ee:DefV l.prog w K mg base "_law_renamed" 1 Qx43 [] zAL f_x43:=mkDf X G j7 (fun U=>zZA U T) (Len2 fun _ _=>rfl)
 have f9:DefV l.prog w K mg base "_law_block" 8 Qx34 [1] zC9 f_x34:=mkDf X G jj (fun U=>zZJ U T ah ag fj eg ee) (Len3 fun _ _ _=>rfl)
 have f8:DefV l.prog w K mg base "_law_cells" 5 Qx35 [1] zCT f_x35:=mkDf X G ji (fun U=>zZI U T ah ag) (Len3 fun _ _ _=>rfl)
 have f7:DefV l.prog w K mg base "_law_deed" 1 Qx36 [] zCF f_x36:=mkDf X G jh (fun U=>zZH U T) (Len2 fun _ _=>rfl)
 have f6:DefV l.prog w K mg base "_law_step" 2 Qx37 [3] zAS f_x37:=mkDf X G jg (fun U=>zZG U T f7) (Len4 fun _ _ _ _=>rfl)
 have eo:DefV l.prog w K mg base "_law_play" 3 Qx39 [] zCE f_x39:=mkDf X G je (fun U=>zZE U T f6 bo) (Len2 fun _ _=>rfl)
 exact zZ9 m9 T d7 fu f9 f8 eo
theorem zSJ(K:Ad)(H:Hp)(a:Addr)(ns:List Int)(hl:ns.length<=63)(h:SqL K H a (ns.map V.int)):spV K [] 1 zOL [.ref a] H (fun v _=>v= .bl true) fun _ _ _=>False:=by
 have hr:RepA K (Zp (fun _=>False) [] [.ref a]) H (ns.map V.int) (ns.map Dat.int):=by
  clear h hl
  induction ns with
  |nil=>exact .nil
  |cons n ns ih=>exact .cons (.int n) ih
 have hz: ∀b,¬Zp (fun _=>False) [] [V.ref a] b:=fun b h=>by
  rcases h with h|⟨i,h,_⟩
  ·exact h
  ·cases h
 refine⟨fun _=>False,[.lst (ns.map .int)],.bl true,[],rfl,⟨rfl,(fun i h=>nomatch h),fun i d hi e=> ?_,(fun i d h=>nomatch h),(fun i j b h=>nomatch h),fun a h=>h.elim⟩,zTE ns hl,fun v H' _ _ r=>by cases r;rfl⟩
 cases i with
 |zero=>
  cases e
  refine⟨_,rfl,?_⟩
  rcases h with(h|⟨o,h⟩)|h
  ·exact .lst h (hz a) hr
  ·exact .fzl (.inl ⟨o,h⟩) hr
  ·exact .fzl (.inr h) hr
 |succ i=>cases i<;>cases e
end RR
open PySem PySem.W PyProof.Rows
set_option maxRecDepth 100000 in
set_option maxHeartbeats 0 in
theorem PySem.Challenge.cw_lanepacks_k03_whole_runs_holds : PySem.Challenge.rw_lanepacks_k03_whole_runs.Holds := by
 w_on;refine holds_law KK.said fun said=> ?_
 refine holds_open (q:=KK.view) (loose:=KK.lo) (Xt:=KK.X) (XP:=XL KK.view []) (Yf:=KK.H.obs) (Ya:=KK.H.val) (YP:=KK.H.says) (N:=4830) KK.hl (Hook.of _) (Hook.keeps _) (fun s e=>xl_of s (Ij.mp e).1) XL.keeps (by rfl) (by rfl) (by rfl) (fun s e=>recFacts_of (Ij.mp e).2) (by rfl) (by first|assumption|decide+kernel) (by decide+kernel) ⟨rfl,rfl,rfl,rfl,rfl,by decide+kernel⟩ ?hw ?hc
 case hw=>w_witness2
 refine L2.zRZ (l:=Hb) (n:=63) (k:=9) (x:= "_law_script") (CX:=L2.CX0) (sp:=fun K=>L2.spV K [] 1 L2.zOL) rfl (by decide) rfl ⟨rfl,by decide,by decide⟩ (fun w h Y=>W.kIn_of (K:=KK.K) (as:=KK.A) (e:=KK.kA) Y) ?F (fun K H a ns hl _ hS=>RR.zSJ K H a ns hl hS) fun _ _ _ _ z=>z
 case F=>
  intro w mg fa h KX G hmg
  exact RR.yBK (K:=KK.K w.params) (f_x0:=59) (f_x1:=66) (f_x2:=73) (f_x3:=80) (f_x4:=87) (f_x5:=94) (f_x6:=101) (f_x7:=108) (f_x8:=115) (f_x9:=123) (f_x10:=140) (f_x11:=147) (f_x12:=154) (f_x13:=159) (f_x14:=166) (f_x15:=173) (f_x16:=178) (f_x17:=185) (f_x18:=190) (f_x19:=197) (f_x20:=204) (f_x21:=212) (kV_x21:= .none) (dc_x21:= .none) (pm_x21:= .str "lanepacks.running" 453) (cd_x21:= .ref 211) (ct_x21:= .none) (t1:=481) (a2:=205) (f_x22:=217) (f_x23:=224) (f_x24:=231) (f_x25:=238) (f_x26:=245) (f_x27:=252) (f_x28:=259) (f_x29:=266) (f_x30:=273) (f_x31:=278) (f_x33:=292) (f_x32:=285) (f_x38:=323) (f_x40:=333) (f_x41:=338) (f_x42:=343) (f_x43:=348) (f_x34:=297) (f_x35:=302) (f_x36:=309) (f_x37:=316) (f_x39:=328) (f_x44:=355) (kV_x44:= .none) (dc_x44:= .none) (pm_x44:= .str "law_lanepacks_k03_whole_runs" 530) (cd_x44:= .ref 354) (ct_x44:= .none) (t3:=241) (t4:=243) (t5:=244) (t6:=245) (t7:=246) (t8:=247) (t9:=248) (t10:=249) (a11:=52) (t12:=325) (t13:=326) (t14:=327) (t15:=328) (t16:=329) (t17:=330) (t18:=331) (a19:=116) (h20:=B7 w.params "plus") (h21:=B7 w.params "minus") (h22:=B7 w.params "times") (h23:=B7 w.params "least") (h24:=B7 w.params "most") (h25:=B7 w.params "less") (h26:=B7 w.params "over") (t27:=351) (t28:=353) (t29:=355) (t30:=357) (t31:=358) (a32:=124) (t33:=360) (t34:=362) (t35:=366) (t36:=368) (t37:=372) (t38:=375) (t39:=361) (a40:=126) (t41:=363) (t42:=364) (t43:=365) (a44:=127) (t45:=367) (a46:=128) (t47:=369) (t48:=370) (t49:=371) (a50:=129) (t51:=373) (t52:=374) (a53:=130) (t54:=376) (t55:=377) (t56:=378) (a57:=131) (a58:=125) (h59:=B7 w.params "number") (h60:=B7 w.params "pick") (h61:=B7 w.params "load") (h62:=B7 w.params "take") (h63:=B7 w.params "store") (h64:=B7 w.params "put") (t65:=386) (t66:=387) (a67:=132) (t68:=389) (t69:=390) (a70:=133) (t71:=455) KX G hmg
   (KK.p _ 59 7 "is_whole" (.str "lanepacks.words" 239))
   (KK.p _ 66 8 "plus" (.str "lanepacks.words" 239))
   (KK.p _ 73 9 "minus" (.str "lanepacks.words" 239))
   (KK.p _ 80 10 "times" (.str "lanepacks.words" 239))
   (KK.p _ 87 11 "least" (.str "lanepacks.words" 239))
   (KK.p _ 94 12 "most" (.str "lanepacks.words" 239))
   (KK.p _ 101 13 "less" (.str "lanepacks.words" 239))
   (KK.p _ 108 14 "over" (.str "lanepacks.words" 239))
   (KK.p _ 115 15 "pick" (.str "lanepacks.words" 239))
   (KK.p _ 123 17 "done" (.str "lanepacks.words" 239))
   (KK.p _ 140 26 "parts_of" (.str "lanepacks.blocks" 349))
   (KK.p _ 147 27 "makes_word" (.str "lanepacks.blocks" 349))
   (KK.p _ 154 28 "place_of" (.str "lanepacks.blocks" 349))
   (KK.p _ 159 29 "names_of" (.str "lanepacks.blocks" 349))
   (KK.p _ 166 30 "may_name" (.str "lanepacks.blocks" 349))
   (KK.p _ 173 31 "fits" (.str "lanepacks.blocks" 349))
   (KK.p _ 178 32 "is_row" (.str "lanepacks.blocks" 349))
   (KK.p _ 185 33 "is_block" (.str "lanepacks.blocks" 349))
   (KK.p _ 190 36 "is_cells" (.str "lanepacks.running" 453))
   (KK.p _ 197 37 "touches" (.str "lanepacks.running" 453))
   (KK.p _ 204 38 "do_on_cell" (.str "lanepacks.running" 453))
   (by kernel_rfl)
   (by kernel_rfl)
   (by kernel_rfl)
   (by kernel_rfl)
   (by kernel_rfl)
   (KK.p _ 217 40 "do_rows" (.str "lanepacks.running" 453))
   (KK.p _ 224 41 "check_run" (.str "lanepacks.running" 453))
   (KK.p _ 231 42 "run" (.str "lanepacks.running" 453))
   (KK.p _ 238 43 "values" (.str "lanepacks.running" 453))
   (KK.p _ 245 45 "_law_cell_at" (.str "law_lanepacks_k03_whole_runs" 530))
   (KK.p _ 252 46 "_law_mixed" (.str "law_lanepacks_k03_whole_runs" 530))
   (KK.p _ 259 47 "_law_draw" (.str "law_lanepacks_k03_whole_runs" 530))
   (KK.p _ 266 48 "_law_pick" (.str "law_lanepacks_k03_whole_runs" 530))
   (KK.p _ 273 49 "_law_place" (.str "law_lanepacks_k03_whole_runs" 530))
   (KK.p _ 278 50 "_law_row" (.str "law_lanepacks_k03_whole_runs" 530))
   (KK.p _ 292 52 "_law_next" (.str "law_lanepacks_k03_whole_runs" 530))
   (KK.p _ 285 51 "_law_rows" (.str "law_lanepacks_k03_whole_runs" 530))
   (KK.p _ 323 57 "_law_names" (.str "law_lanepacks_k03_whole_runs" 530))
   (KK.p _ 333 59 "_law_may" (.str "law_lanepacks_k03_whole_runs" 530))
   (KK.p _ 338 60 "_law_must" (.str "law_lanepacks_k03_whole_runs" 530))
   (KK.p _ 343 61 "_law_mixed_order" (.str "law_lanepacks_k03_whole_runs" 530))
   (KK.p _ 348 62 "_law_renamed" (.str "law_lanepacks_k03_whole_runs" 530))
   (KK.p _ 297 53 "_law_block" (.str "law_lanepacks_k03_whole_runs" 530))
   (KK.p _ 302 54 "_law_cells" (.str "law_lanepacks_k03_whole_runs" 530))
   (KK.p _ 309 55 "_law_deed" (.str "law_lanepacks_k03_whole_runs" 530))
   (KK.p _ 316 56 "_law_step" (.str "law_lanepacks_k03_whole_runs" 530))
   (KK.p _ 328 58 "_law_play" (.str "law_lanepacks_k03_whole_runs" 530))
   (by kernel_rfl)
   (by kernel_rfl)
   (by kernel_rfl)
   (by kernel_rfl)
   (by kernel_rfl)
   (by kernel_rfl)
   (by kernel_rfl)
   (by kernel_rfl)
   (by kernel_rfl)
   (by kernel_rfl)
   (by kernel_rfl)
   (by kernel_rfl)
   (by kernel_rfl)
   (by kernel_rfl)
   (by kernel_rfl)
   (by kernel_rfl)
   (by kernel_rfl)
   (by kernel_rfl)
   (by kernel_rfl)
   (by kernel_rfl)
   (by kernel_rfl)
   (by kernel_rfl)
   (by kernel_rfl)
   (by decide)
   (by kernel_rfl)
   (by kernel_rfl)
   (by kernel_rfl)
   (by kernel_rfl)
   (by kernel_rfl)
   (by kernel_rfl)
   (by kernel_rfl)
   (by kernel_rfl)
   (by kernel_rfl)
   (by kernel_rfl)
   (by kernel_rfl)
   (by kernel_rfl)
   (by kernel_rfl)
   (by decide)
   (by kernel_rfl)
   (by kernel_rfl)
   (by kernel_rfl)
   (by kernel_rfl)
   (by kernel_rfl)
   (by kernel_rfl)
end
