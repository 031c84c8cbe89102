import PyProof.Rows.All
import KE.KFromBytes
import KE.KTab
import KE.KIsAll
import KE.KDictOf
import KE.KEqDeep
import KE.KItem
import KE.KUnpackStar
import Wide.FinOn
import Wide.Line
import KE.KSortTup
import PyProof.AttrMissSeq
import PySem.Challenge.RW_lanepacks_k49_whole_narrowed
set_option Elab.async false
set_option linter.all false
set_option maxRecDepth 100000
set_option maxHeartbeats 4000000
set_option bootstrap.genMatcherCode false
set_option compiler.extract_closed false
open Option renaming bind_eq_some_iff→Aa,map_eq_some_iff→Al,bind_some→Ap,isSome_some→Kq,getD_none→Lp
open PySem renaming wpAny_bind→Ac,starEach→Ag,Shared→Ah,wpAny_pure→Ao,Program→Bn,bootBuiltins→Bo,compareOp→Cf,wpAny_holding→Cg,mem_of_lookup→Ch,sizeLine_eq→Cj,wpAny_mono→Cm,wpAny_callSpecial?_slot→Cr,wpAny_newObj_type→Cw,Around→De,wpAny_field→Dg,wpAny_call_entry→Dt,sysModules→Dx,wpAny_truthy_bool→Dy,FuncData→Ee,wpAny_Call_Name_kw→Ej,wpAny_setField_rec→Ek,wpAny_seqItems→Eo,backTo→Er,swapsWithSole→Ex,swappedStores→Ey,binaryOp→Fd,wpAny_standAt→Ft,wpAny_pyIter_tuple→Fv,wpAny_passesOwn→Fy,behindInMarks→Fz,tupleKind_room_in1→Gc,wpAny_assign_Name→Gk,wpAny_pyIter_list→Gm,sliceBounds→Gp,swapsWith→Gx,wpAny_updateSeq_pair→Ha,attributeBase→Hb,letOwnedTupleGo→Hg,wpAny_sequenceKey→Ic,wpAny_comprehension_free→Ie,unpackItems→Ig,getItem→Ih,keywordEach→Ii,Keyword→Ij,wpAny_onRaise→Io,noFill_tuple_add→Ip,wpAny_pyNext_list_item→Iv,DictEntry→Iz,importedModules→Ja,wpAny_pyNext_list_end→Je,concat_meets→Jh,call_meetsIn→Jk,Spec→Js,wpAny_rule→Ju,ZipApart→Jw,PyData→Ka,newFunctionEnv→Ke,holding→Kg,callerA→Ki,bltViewBooted→Kn,seq_tuple_add→Kp,codeAny→Kw,valueAt→Kx,wpAny_Call_method→Kz,wpAny_pyIter_enum→Ld,codeAny_mono→Li,wpAny_typeOf→Lj,seqIndex_neg→Lk,backToKw→Lv,Params→Lw,lastMarks→Mb,BindsTo→Mc,seqIndex_of→Md,wpAny_letGo→Mh,pushCells→Mj,wpAny_Name→Mv,call→Mw,KeyKind→Mz,bindName→Na,Within→Nh
open Bool renaming and_eq_true→Ad,and_eq_true_iff→Cs,false_ne_true→Ei,false_eq_true→Ff,or_eq_true→Hk,beq_eq_decide_eq→Jq,false_or→Kr,true_and→Nd
open PySem.Heap renaming get?_push_of_some→Ae,lt_size→Aq,get?_push_size→Az,size_push→Dd,SameBut→Ew,ExtBut→Hj,get?_update_other→Ix,get?_update_self→Ji,get?_push_ne→Lc
open List renaming getElem?_append_left→Af,getElem?_eq_some_iff→Ai,mem_cons→Aj,mem_singleton→Ak,mem_cons_of_mem→Am,getElem?_append_right→As,size_toArray→Au,not_mem_nil→Av,mem_cons_self→Ax,mem_map→Ay,map_cons→Be,length_cons→Bg,mem_append_right→Bh,mem_append→Bi,replicate→Bj,append_assoc→Bl,length_append→Br,range→Bt,mem_append_left→Bu,getElem?_set_ne→Bv,length_map→Bz,append_nil→Ca,nodup_cons→Cb,lookup_cons→Cd,length_set→Ce,getElem?_set_self→Ci,take_of_length_le→Ck,getElem?_take_of_lt→Cn,nil_append→Co,mem_range→Ct,lookup_cons_self→Db,getElem?_eq_none→Dc,getElem?_replicate→Df,find?_cons→Dh,mem_of_getElem?→Di,length_take→Dj,map_congr_left→Dq,cons_append→Dv,map_map→Dw,getElem?_map→Dz,length_nil→Eu,take_append_of_le_length→Ez,map_append→Fh,drop_eq_getElem_cons→Fl,filterMap_cons→Fn,map_nil→Fq,set_comm→Fu,mem_filterMap→Fx,length_eq_zero_iff→Gf,range_succ_eq_map→Gi,length_range→Gq,find?_append→Gu,pairwise_map→Gv,nodup_append→Gw,all_eq_true→Gz,any_cons→Hc,forIn_cons→Hi,map_set→Hu,find?_eq_none→Hv,drop_length→Ir,getElem_mem→Iu,of_mem_zip→Jf,length_replicate→Jg,length_singleton→Jj,mem_iff_getElem?→Jn,set_append_right→Jr,getElem?_mapIdx→Jx,nodup_nil→Jz,drop_zero→Kb,forIn_nil→Kc,lookup→Kj,replicate_succ→Km,map_inj_right→Ku,getElem_inj→Lm,length_drop→Lo,zipIdx_cons→Lq,mem_filter→Ma,zipIdx_nil→Mg,range'→Mm,mapM_cons→Mp,take_zero→Mq,all_cons→Nc,all_map→Nk
open PySem.W renaming Frag→An,mg_none_of→Dk,kia_one→Es,mg_of→Fg,keepIn→Ga,fnOf→Hh,codeIn→Hs,nsIn→Iq,kitx_list→Kh,cellsFrom_some→Ln,methodObj→Lz,looseW→Mr,instObj→Ng,OpenLaw→Nj
open PySem.Str renaming ofString→Ar,ofString_eq_toList→Gj
open Nat renaming le_refl→Aw,lt_of_lt_of_le→Bf,ne_of_lt→Bq,lt_irrefl→Cp,zero_le→Du,le_trans→Eh,ne_of_gt→Fo,le_of_succ_le→Gs,le_succ→Im,sub_self→Jo,le_of_lt→Lh,zero_add→Ll,succ_le_succ→Ls,min_le_left→Mi,min_eq_left→Ml,add_assoc→Nf
open PySem.F renaming slot_list_append→Ba,type_list_append→Bb,slot_dict_get→Cz,entry_dict_get→Ef,slot_tuple_iterator_next→Eg,args_tuple_add_2→Fp,entry_tuple_add→Gb,args_dict_get_2→Ge,slot_tuple_add→Gh,args_tuple_iterator_next_1→Hd,entry_tuple_iterator_next→Hl,slot_zip_next→Hm,slot_dict_getitem→Hx,args_dict_get_3→Ik,plainAttrs_dict→Il,type_dict_get→Jl,args_zip_next_1→Le,entry_zip_next→Lr
open PySem.NameKind renaming free→Bm,cell→Cc
open PySem.Value renaming ref→Bp,type→Hz,bool→Jt,int→Lx,str→Ly,isStrOf→My,isInt→No,float→Np
open PySem.PyData renaming keyHash→Bw,depthAll→Ed,canLay0→Fa,canLayAll0→Gr,depth→Gy,eqv→He,int→Lb,strOk→Nl
open PySem.Builtin.SmallTypes renaming nextOf→Bx,ownedTupleIsFree→Cv,ownedTupleHandOut→Fm
open Option.some renaming inj→By
open Ne renaming symm→Cq
open PySem.PassesOwn renaming never→Cu
open Int renaming toNat_natCast→Cy,add_zero→El,emod_lt_of_pos→Gg,emod_nonneg→Hn,ediv_eq_zero_of_lt→Iy,emod_eq_of_lt→Lg,ediv_nonneg→Mk
open PyProof.Rows renaming slot_tuple_getitem→Dm,callWith_type1→Eb,assignInOrder_cons→Fc,assignInOrder_nil→Ia,envOfC→Ib,subscriptTail_builtinR→Iw,AllBare→Jb,IntsAre→Me,expectedOf→Ms,plainGoodE→Mt,plainGoodD→Mu,drecsOf→Mx,tail_any→Nb
open PySem.SeqAt renaming shaped→Dr
open Prod renaming fst→Ds,snd→Ep
open Array renaming length_toList→Ea,toList→Ni
open ForInStep renaming yield→Ec
open PySem.Builtin.Slice renaming slicePlaces→Em,sliceAdjust→Fk,sliceApplied→Hq,slicePartIndex→Lu,sliceFields→Mo
open PyProof.Rows.KTD renaming datumAt→En
open PySem.Builtin.Tuple renaming tupleExact→Et,tupleItemsOf→Hr,tupleIsExact→Mn
open PySem.Calls renaming callWith_builtin→Fb,spliced_cons→Fe,evalArgs_plain→Fj,spliced_nil→Go,Name_function_global→Ho
open False renaming elim→Fi
open PySem.AutoSeq1 renaming wpAny_loadPart'→Fs
open PySem.Builtin.Range renaming rangeSize→Fw,small→Nt
open Prod.mk renaming inj→Hf
open Or renaming inl→Ht,inr→Jm
open PySem.Challenge renaming pw_lanepacks_k49_whole_narrowed→Hw,rw_lanepacks_k49_whole_narrowed→Hy
open PyProof.Rows.IsTup renaming new→Jd
open List.cons renaming injEq→Jp
open PySem.Obj renaming mapSeq→Jv,data_mapFields→Ks
open Classical renaming not_forall→Jy
open Sum renaming inl→Kf,inr→Kv
open PySem.Heap.SameBut renaming update→Kk
open PySem.Builtin.Dict renaming missed→Kl
open PySem.Paired renaming length→Ko,snoc→Nr
open Function renaming comp→Kt
open List.Pairwise renaming nil→La
open Char renaming toNat→Lf
open PySem.Shared renaming heap→Mf
open PySem.IsRange renaming new→Nq
open PySem.Heap.IsSliceOf renaming new→Nu
open PySem.W.WShape renaming has→Nv
noncomputable section
namespace RR
open PySem
def top(i:Nat):Stmt:=PySem.Challenge.pw_lanepacks_k49_whole_narrowed.main.body.getD i (.Pass ⟨0,0,0,0⟩)
end RR
namespace KK
open PySem PySem.W PySem.Calls PyProof.Rows
def dA(s:Stmt):Arguments:=match s with
 | .FunctionDef _ a _ _ _ _ _ _ _ _=>a
 |_=>⟨[],[],none,[],[],none,[]⟩
def dB(s:Stmt):List Stmt:=match s with
 | .FunctionDef _ _ b _ _ _ _ _ _ _=>b
 |_=>[]
def dS(s:Stmt):Scope:=match s with
 | .FunctionDef _ _ _ _ _ _ c _ _ _=>c
 |_=>{kind:= .function,names:=[],isGenerator:=false,isCoroutine:=false}
abbrev s(x:Str)(t:Nat):Value:= .str x t
abbrev e(P:Lw)(x:Str)(t:Nat)(v:Value):Iz:=⟨PyData.keyHash P x,s x t,v⟩
abbrev f(a i:Nat)(n:Str)(d m:Value):Nat×Obj:=(a,⟨.type "function",none,.func (fnOf n n (dA (RR.top i)) (dB (RR.top i)) (dS (RR.top i)) d .none .none m none (.ref (a - 1)) .none),#[]⟩)
abbrev fk(a i:Nat)(n:Str)(d k m:Value):Nat×Obj:=(a,⟨.type "function",none,.func (fnOf n n (dA (RR.top i)) (dB (RR.top i)) (dS (RR.top i)) d k .none m none (.ref (a - 1)) .none),#[]⟩)
abbrev co(a:Nat)(n:Str)(t:Nat)(l k:Int)(u:Nat)(x y z v:Value):Nat×Obj:=(a,⟨.type "code",none,.fields #[s n t,s n (t+1),s "/claim/cut.py" (t+2),.int l 0,.int k 0,.int 0 0,.int 0 0,.int 3 0,x,.bool true,.int 181 0,y,.none,z,v,.ref (a - 1),.int u 0,.int l 0,s "/claim/cut.py" (u+1)],#[]⟩)
abbrev c(a:Nat)(n:Str)(t:Nat)(l k:Int)(u:Nat):Nat×Obj:=co a n t l k u (.ref (a - 5)) (.ref (a - 4)) (.ref (a - 3)) (.ref (a - 2))
abbrev b(a:Nat)(n:Str)(t:Nat)(l k:Int)(u:Nat):Nat×Obj:=co a n t l k u (.ref (a - 3)) (.ref (a - 2)) .none .none
abbrev m:Value:=s "lanepacks.machines" 495
noncomputable def K(P:Lw):Frag:=[(3,⟨.type "dict",none,.dict #[e P "__name__" 165 (s "law_lanepacks_k49_whole_narrowed" 611),e P "__doc__" 166 (.none),e P "__package__" 167 (.none),e P "__loader__" 168 (.builtin "__main__.__loader__#opaque"),e P "__spec__" 169 (.none),e P "__annotations__" 170 (.ref 6),e P "__builtins__" 171 (.ref 4),e P "__file__" 173 (s "/claim/cut.py" 172),e P "__cached__" 174 (.none),e P "PackError" 206 (.ref 24),e P "NoCells" 222 (.ref 37),e P "NoProgram" 238 (.ref 49),e P "MOST_WORD" 242 (.int 999 241),e P "DEEDS" 250 (.ref 52),e P "is_whole" 259 (.ref 59),e P "plus" 267 (.ref 66),e P "minus" 275 (.ref 73),e P "times" 283 (.ref 80),e P "least" 291 (.ref 87),e P "most" 299 (.ref 94),e P "less" 307 (.ref 101),e P "over" 315 (.ref 108),e P "pick" 324 (.ref 115),e P "MADE" 339 (.ref 116),e P "done" 348 (.ref 123),e P "MOST_SURE" 352 (.int 64 351),e P "MOST_PLACE" 354 (.int 63 353),e P "DEED_PARTS" 357 (.ref 124),e P "OTHER_PARTS" 383 (.ref 125),e P "READERS" 386 (.ref 132),e P "WRITERS" 389 (.ref 133),e P "parts_of" 396 (.ref 140),e P "makes_word" 403 (.ref 147),e P "place_of" 410 (.ref 154),e P "names_of" 416 (.ref 159),e P "may_name" 424 (.ref 166),e P "fits" 433 (.ref 173),e P "is_row" 439 (.ref 178),e P "LEAST_LANES" 443 (.int 2 442),e P "MOST_LANES" 445 (.int 4 444),e P "is_lanes" 452 (.ref 185),e P "MOST_CELLS" 456 (.int 64 455),e P "is_cells" 462 (.ref 190),e P "touches" 470 (.ref 197),e P "do_on_cell" 480 (.ref 204),e P "do_row" 494 (.ref 212),e P "MOST_PROGRAM_ROWS" 498 (.int 400 497),e P "is_for_lanes" 506 (.ref 219),e P "is_wide" 512 (.ref 224),e P "is_gather" 518 (.ref 229),e P "is_shuffle" 524 (.ref 234),e P "is_lane" 533 (.ref 241),e P "is_program_row" 545 (.ref 248),e P "kind_made" 552 (.ref 255),e P "are_program_rows" 564 (.ref 262),e P "is_program" 574 (.ref 269),e P "do_wide" 580 (.ref 274),e P "moved" 586 (.ref 279),e P "do_program_row" 592 (.ref 284),e P "run_program" 610 (.ref 291),e P "_law_cell_at" 622 (.ref 298),e P "_law_mixed" 632 (.ref 305),e P "_law_draw" 641 (.ref 312),e P "_law_pick" 650 (.ref 319),e P "_law_place" 661 (.ref 326),e P "_law_row" 667 (.ref 331),e P "_law_cells" 673 (.ref 336),e P "_law_names" 680 (.ref 343),e P "_law_program" 686 (.ref 348),e P "_law_narrowed" 692 (.ref 353),e P "law" 698 (.ref 358)] 71,#[]⟩),
 (52,⟨.type "tuple",none,.seq #[s "plus" 243,s "minus" 244,s "times" 245,s "least" 246,s "most" 247,s "less" 248,s "over" 249] 0,#[]⟩),
 f 59 7 "is_whole" (.none) (s "lanepacks.words" 239),
 c 58 "is_whole" 251 11 3 257,
 f 66 8 "plus" (.none) (s "lanepacks.words" 239),
 c 65 "plus" 260 15 2 265,
 f 73 9 "minus" (.none) (s "lanepacks.words" 239),
 c 72 "minus" 268 17 2 273,
 f 80 10 "times" (.none) (s "lanepacks.words" 239),
 c 79 "times" 276 19 2 281,
 f 87 11 "least" (.none) (s "lanepacks.words" 239),
 c 86 "least" 284 21 2 289,
 f 94 12 "most" (.none) (s "lanepacks.words" 239),
 c 93 "most" 292 23 2 297,
 f 101 13 "less" (.none) (s "lanepacks.words" 239),
 c 100 "less" 300 25 2 305,
 f 108 14 "over" (.none) (s "lanepacks.words" 239),
 c 107 "over" 308 27 2 313,
 f 115 15 "pick" (.none) (s "lanepacks.words" 239),
 c 114 "pick" 316 29 3 322,
 (116,⟨.type "dict",none,.dict #[e P "plus" 325 (.ref 66),e P "minus" 326 (.ref 73),e P "times" 327 (.ref 80),e P "least" 328 (.ref 87),e P "most" 329 (.ref 94),e P "less" 330 (.ref 101),e P "over" 331 (.ref 108)] 7,#[]⟩),
 f 123 17 "done" (.none) (s "lanepacks.words" 239),
 c 122 "done" 340 32 2 346,
 (124,⟨.type "tuple",none,.seq #[s "row" 355,s "row" 356] 0,#[]⟩),
 (125,⟨.type "dict",none,.dict #[e P "number" 358 (.ref 126),e P "pick" 360 (.ref 127),e P "load" 364 (.ref 128),e P "take" 366 (.ref 129),e P "store" 370 (.ref 130),e P "put" 373 (.ref 131)] 6,#[]⟩),
 (126,⟨.type "tuple",none,.seq #[s "word" 359] 0,#[]⟩),
 (127,⟨.type "tuple",none,.seq #[s "row" 361,s "row" 362,s "row" 363] 0,#[]⟩),
 (128,⟨.type "tuple",none,.seq #[s "place" 365] 0,#[]⟩),
 (129,⟨.type "tuple",none,.seq #[s "place" 367,s "row" 368,s "row" 369] 0,#[]⟩),
 (130,⟨.type "tuple",none,.seq #[s "place" 371,s "row" 372] 0,#[]⟩),
 (131,⟨.type "tuple",none,.seq #[s "place" 374,s "row" 375,s "row" 376] 0,#[]⟩),
 (132,⟨.type "tuple",none,.seq #[s "load" 384,s "take" 385] 0,#[]⟩),
 (133,⟨.type "tuple",none,.seq #[s "store" 387,s "put" 388] 0,#[]⟩),
 f 140 25 "parts_of" (.none) (s "lanepacks.blocks" 349),
 c 139 "parts_of" 390 44 1 394,
 f 147 26 "makes_word" (.none) (s "lanepacks.blocks" 349),
 c 146 "makes_word" 397 48 1 401,
 f 154 27 "place_of" (.none) (s "lanepacks.blocks" 349),
 c 153 "place_of" 404 50 1 408,
 f 159 28 "names_of" (.none) (s "lanepacks.blocks" 349),
 b 158 "names_of" 411 52 1 414,
 f 166 29 "may_name" (.none) (s "lanepacks.blocks" 349),
 c 165 "may_name" 417 55 2 422,
 f 173 30 "fits" (.none) (s "lanepacks.blocks" 349),
 c 172 "fits" 425 57 3 431,
 f 178 31 "is_row" (.none) (s "lanepacks.blocks" 349),
 b 177 "is_row" 434 63 2 437,
 f 185 35 "is_lanes" (.none) (s "lanepacks.plans" 440),
 c 184 "is_lanes" 446 74 1 450,
 f 190 38 "is_cells" (.none) (s "lanepacks.running" 453),
 b 189 "is_cells" 457 78 2 460,
 f 197 39 "touches" (.none) (s "lanepacks.running" 453),
 c 196 "touches" 463 82 2 468,
 f 204 40 "do_on_cell" (.none) (s "lanepacks.running" 453),
 c 203 "do_on_cell" 471 88 4 478,
 (205,⟨.type "tuple",none,.seq #[.int 0 481] 0,#[]⟩),
 f 212 41 "do_row" (.ref 205) (s "lanepacks.running" 453),
 c 211 "do_row" 482 97 4 492,
 f 219 44 "is_for_lanes" (.none) m,
 c 218 "is_for_lanes" 499 108 2 504,
 f 224 45 "is_wide" (.none) m,
 b 223 "is_wide" 507 110 3 510,
 f 229 46 "is_gather" (.none) m,
 b 228 "is_gather" 513 114 3 516,
 f 234 47 "is_shuffle" (.none) m,
 b 233 "is_shuffle" 519 118 3 522,
 f 241 48 "is_lane" (.none) m,
 c 240 "is_lane" 525 122 3 531,
 f 248 49 "is_program_row" (.none) m,
 c 247 "is_program_row" 534 124 4 543,
 f 255 50 "kind_made" (.none) m,
 c 254 "kind_made" 546 137 1 550,
 f 262 51 "are_program_rows" (.none) m,
 c 261 "are_program_rows" 553 143 2 562,
 f 269 52 "is_program" (.none) m,
 c 268 "is_program" 565 152 1 572,
 f 274 53 "do_wide" (.none) m,
 b 273 "do_wide" 575 161 4 578,
 f 279 54 "moved" (.none) m,
 b 278 "moved" 581 172 2 584,
 f 284 55 "do_program_row" (.none) m,
 b 283 "do_program_row" 587 179 4 590,
 f 291 56 "run_program" (.none) m,
 c 290 "run_program" 593 186 2 608,
 f 298 58 "_law_cell_at" (.none) (s "law_lanepacks_k49_whole_narrowed" 611),
 c 297 "_law_cell_at" 613 201 2 620,
 f 305 59 "_law_mixed" (.none) (s "law_lanepacks_k49_whole_narrowed" 611),
 c 304 "_law_mixed" 623 210 3 630,
 f 312 60 "_law_draw" (.none) (s "law_lanepacks_k49_whole_narrowed" 611),
 c 311 "_law_draw" 633 213 3 639,
 f 319 61 "_law_pick" (.none) (s "law_lanepacks_k49_whole_narrowed" 611),
 c 318 "_law_pick" 642 216 3 648,
 f 326 62 "_law_place" (.none) (s "law_lanepacks_k49_whole_narrowed" 611),
 c 325 "_law_place" 651 218 5 659,
 f 331 63 "_law_row" (.none) (s "law_lanepacks_k49_whole_narrowed" 611),
 b 330 "_law_row" 662 221 5 665,
 f 336 64 "_law_cells" (.none) (s "law_lanepacks_k49_whole_narrowed" 611),
 b 335 "_law_cells" 668 239 3 671,
 f 343 65 "_law_names" (.none) (s "law_lanepacks_k49_whole_narrowed" 611),
 c 342 "_law_names" 674 243 1 678,
 f 348 66 "_law_program" (.none) (s "law_lanepacks_k49_whole_narrowed" 611),
 b 347 "_law_program" 681 247 3 684,
 f 353 67 "_law_narrowed" (.none) (s "law_lanepacks_k49_whole_narrowed" 611),
 b 352 "_law_narrowed" 687 271 1 690,
 f 358 68 "law" (.none) (s "law_lanepacks_k49_whole_narrowed" 611),
 b 357 "law" 693 299 1 696]
noncomputable def A:List Nat:=[3,52,59,58,66,65,73,72,80,79,87,86,94,93,101,100,108,107,115,114,116,123,122,124,125,126,127,128,129,130,131,132,133,140,139,147,146,154,153,159,158,166,165,173,172,178,177,185,184,190,189,197,196,204,203,205,212,211,219,218,224,223,229,228,234,233,241,240,248,247,255,254,262,261,269,268,274,273,279,278,284,283,291,290,298,297,305,304,312,311,319,318,326,325,331,330,336,335,343,342,348,347,353,352,358,357]
noncomputable def view:Bn:={Hw with main:={PySem.Challenge.pw_lanepacks_k49_whole_narrowed.main with body:=[1,2,3,5,6,7,8,9,10,11,12,13,14,15,16,17,19,20,21,22,23,24,25,26,27,28,29,30,31,33,34,35,37,38,39,40,43,44,45,46,47,48,49,50,51,52,53,54,55,56,58,59,60,61,62,63,64,65,66,67,68].map RR.top}}
abbrev lo:List Str:=["MADE","OTHER_PARTS","do_row"]
theorem kA(P:Lw):A=(K P).map (·.1):=by kernel_rfl
noncomputable def X(s:Ah):Bool:=xlAt view [] s && recOk (RowW.records (OpenRow.toRowW PySem.Challenge.rw_lanepacks_k49_whole_narrowed.row)) s
noncomputable abbrev H:Hook:=kHook K A kA
abbrev pr:Bn:=PySem.Challenge.rw_lanepacks_k49_whole_narrowed.row.prog
abbrev go(w:World)(b:Bool):Option Ah:=openEnds treeTable pr (w.withFollow "special-get-raises" b) 4912
noncomputable abbrev fA(s:Ah):=seen ((recsOf view).map (·.name)) (ownsOf view) [] {s with gens:= #[]}
noncomputable abbrev fB(s:Ah):=(s.heap.bltView,tabsOk view s)
noncomputable abbrev fC(s:Ah):Bool:=s.heap.keysOk (Mr view lo) ((recsOf view).map (·.name)) ((litsOf view).map (·.1)) ((clssOf view (Mr view lo)).map (·.name)) && s.heap.accountedOkI (Ja pr.main.body) && s.heap.isNs mainGlobals && s.heap.isNs builtinsNs && tablesOk view s.heap && X s && (if true then s.gens.size==0 else !leftWithCleanup s.gens)
noncomputable abbrev fD(s:Ah):=(pinSeenD view (Mx view) s,plainSeenE view (Mr view lo) s,plainSeenD view lo s,wideSeen view s,clsSeenW view lo s,H.obs s)
set_option maxRecDepth 100000 in
set_option maxHeartbeats 0 in
theorem rAf(w:World):(go w false).map fA=some (Ms view):=by kernel_rfl
set_option maxRecDepth 100000 in
set_option maxHeartbeats 0 in
theorem rBf(w:World):(go w false).map fB=some ((Kn,true)):=by kernel_rfl
set_option maxRecDepth 100000 in
set_option maxHeartbeats 0 in
theorem rCf(w:World):(go w false).map fC=some (true):=by kernel_rfl
set_option maxRecDepth 100000 in
set_option maxHeartbeats 0 in
theorem rDf(w:World):(go w false).map fD=some ((pinGoodD (Mx view),Mt view (Mr view lo),Mu view lo,wideGood view,clsGoodW view lo,H.val (w.withFollow "special-get-raises" false))):=by kernel_rfl
set_option maxRecDepth 100000 in
set_option maxHeartbeats 0 in
theorem rAt(w:World):(go w true).map fA=some (Ms view):=by kernel_rfl
set_option maxRecDepth 100000 in
set_option maxHeartbeats 0 in
theorem rBt(w:World):(go w true).map fB=some ((Kn,true)):=by kernel_rfl
set_option maxRecDepth 100000 in
set_option maxHeartbeats 0 in
theorem rCt(w:World):(go w true).map fC=some (true):=by kernel_rfl
set_option maxRecDepth 100000 in
set_option maxHeartbeats 0 in
theorem rDt(w:World):(go w true).map fD=some ((pinGoodD (Mx view),Mt view (Mr view lo),Mu view lo,wideGood view,clsGoodW view lo,H.val (w.withFollow "special-get-raises" true))):=by kernel_rfl
theorem jn{o:Option Ah}{v:H.α}(ha:o.map fA=some (Ms view))(hb:o.map fB=some (Kn,true))(hc:o.map fC=some true)(hd:o.map fD=some (pinGoodD (Mx view),Mt view (Mr view lo),Mu view lo,wideGood view,clsGoodW view lo,v)):
  o.map (fun s=>(openSeen view lo (Ja pr.main.body) X true s,H.obs s))=some (openGood view lo,v):=by
 cases o with
 |none=>cases ha
 |some s=>
  have ea:fA s=_:=By ha;have eb:fB s=_:=By hb;have ec:fC s=_:=By hc;have ed:fD s=_:=By hd;obtain⟨b1,b2⟩:=Hf eb;obtain⟨d1,ed⟩:=Hf ed;obtain⟨d2,ed⟩:=Hf ed;obtain⟨d3,ed⟩:=Hf ed;obtain⟨d4,ed⟩:=Hf ed;obtain⟨d5,d6⟩:=Hf ed;show some ((fA s,s.heap.bltView,fC s,tabsOk view s,pinSeenD view (Mx view) s,plainSeenE view (Mr view lo) s,plainSeenD view lo s,wideSeen view s,clsSeenW view lo s),H.obs s)=_;rw[ea,b1,ec,b2,d1,d2,d3,d4,d5,d6];rfl
theorem hl:LeftO pr view lo X H.obs H.val 4912:=fun w=>byRow2 "special-get-raises" (P:=fun w=>(openEnds treeTable pr w 4912).map (fun s=>(openSeen view lo (Ja pr.main.body) X true s,H.obs s))=some (openGood view lo,H.val w)) (fun w=>jn ((rAf w)) ((rBf w)) ((rCf w)) ((rDf w))) (fun w=>jn ((rAt w)) ((rBt w)) ((rCt w)) ((rDt w))) w
set_option maxRecDepth 100000 in
set_option maxHeartbeats 0 in
theorem said:PySem.Challenge.rw_lanepacks_k49_whole_narrowed.wellSaid=true:=by kernel_rfl
end KK
namespace L2
open PySem PySem.Spec PyProof.Rows
abbrev YY:=Sum Int Str
noncomputable def U2:YY->Value->Bool
 | .inl k,v=>No k v
 | .inr x,v=>My x v
def keyH(w:World):YY->Int
 | .inl k=>hashInt k
 | .inr x=>hashStr w x
theorem bF: ∀{k:YY} {v:Value},U2 k v=true->(∃i t,k=Kf i/\v=Lx i t)∨(∃x t,k=Kv x/\v=Ly x t)
 | .inl i,v,h=>by
  obtain⟨t,e⟩:=Value.isInt_shape (k:=i) (v:=v) h;exact .inl ⟨i,t,rfl,e⟩
 | .inr x,v,h=>by
  obtain⟨t,e⟩:=Value.isStrOf_shape (x:=x) (v:=v) h;exact .inr ⟨x,t,rfl,e⟩
theorem EK(i:Int)(t:Tok):U2 (.inl i) (.int i t)=true:=by simp[U2,No]
theorem EL(x:Str)(t:Tok):U2 (.inr x) (.str x t)=true:=by simp[U2,My]
theorem zFS(a b:Int):decide ((Kf a:YY)=Kf b)=(a==b):=by
 by_cases e:a=b
 ·subst e;simp
 ·have h : ¬ (Kf a : YY) = Kf b := fun q => e (Sum.inl.inj q)
  rw[decide_eq_false h];exact(beq_eq_false_iff_ne.mpr e).symm
theorem zFP(a b:Str):decide ((Kv a:YY)=Kv b)=decide (a=b):=by
 by_cases e:a=b
 ·subst e;simp
 ·have h : ¬ (Kv a : YY) = Kv b := fun q => e (Sum.inr.inj q)
  rw[decide_eq_false h,decide_eq_false e]
theorem zFR(a:Int)(b:Str):decide ((Kf a:YY)=Kv b)=false:=decide_eq_false (fun q=>nomatch q)
theorem zFQ(a:Str)(b:Int):decide ((Kv a:YY)=Kf b)=false:=decide_eq_false (fun q=>nomatch q)
def ZJ(prog:Bn)(w:World):Mz prog w YY where
 is:=U2
 hash:=keyH w
 inj:=fun v a b ha hb=>by
  rcases bF ha with⟨i,t,rfl,rfl⟩|⟨x,t,rfl,rfl⟩
  ·rcases bF hb with⟨j,u,rfl,e⟩|⟨y,u,rfl,e⟩
   ·injection e with e1 _;rw[e1]
   ·exact nomatch e
  ·rcases bF hb with⟨j,u,rfl,e⟩|⟨y,u,rfl,e⟩
   ·exact nomatch e
   ·injection e with e1 _;rw[e1]
 byValue:=fun k v h=>by
  rcases bF h with⟨i,t,rfl,rfl⟩|⟨x,t,rfl,rfl⟩<;>rfl
 pyHash:=fun hv h=>by
  rcases bF hv with⟨i,t,rfl,rfl⟩|⟨x,t,rfl,rfl⟩
  ·exact wpAny_pyHash_int h
  ·exact wpAny_pyHash_str h
 eqBool:=fun hu hv h=>by
  rcases bF hu with⟨i,t,rfl,rfl⟩|⟨x,t,rfl,rfl⟩
  ·rcases bF hv with⟨j,u,rfl,rfl⟩|⟨y,u,rfl,rfl⟩
   ·rw[zFS] at h;exact wpAny_eqBool_int h
   ·rw[zFR] at h;exact SeqAt.EqAt.int_str i t y u _ _ _ _ h
  ·rcases bF hv with⟨j,u,rfl,rfl⟩|⟨y,u,rfl,rfl⟩
   ·rw[zFQ] at h;exact SeqAt.EqAt.str_int x t j u _ _ _ _ h
   ·rw[zFP] at h;exact wpAny_eqBool_str h
 «strs» :=fun k x t v h=>by
  rcases bF h with⟨i,u,rfl,e⟩|⟨y,u,rfl,e⟩
  ·exact nomatch e
  ·injection e with e1 _
   subst e1;cases v<;>rfl
theorem J4(prog:Bn)(w:World)(i:Int)(t:Tok):(ZJ prog w).is (.inl i) (.int i t)=true:=EK i t
theorem J5(prog:Bn)(w:World)(x:Str)(t:Tok):(ZJ prog w).is (.inr x) (.str x t)=true:=EL x t
abbrev Ky:=Option YY
def kyIs:Ky->Value->Bool
 |none,.none=>true
 |none,_=>false
 |some k,v=>U2 k v
def kyH(w:World):Ky->Int
 |none=>reduceHash 0xFCA86420
 |some k=>keyH w k
theorem YR{v:Value}(h:kyIs none v=true):v= .none:=by
 cases v<;>first|rfl|cases h
theorem zI6(a b:YY):decide ((some a:Ky)=some b)=decide (a=b):=by
 by_cases e:a=b
 ·subst e;simp
 ·rw[decide_eq_false e,decide_eq_false fun q=>e (By q)]
def V3(prog:Bn)(w:World):Mz prog w Ky where
 is:=kyIs
 hash:=kyH w
 inj:=fun v a b ha hb=>by
  cases a with
  |none=>
   cases b with
   |none=>rfl
   |some k=>
    rw[YR ha] at hb;rcases bF (show U2 k _=true from hb) with⟨i,t,_,e⟩|⟨x,t,_,e⟩<;>cases e
  |some j=>
   cases b with
   |none=>
    rw[YR hb] at ha;rcases bF (show U2 j _=true from ha) with⟨i,t,_,e⟩|⟨x,t,_,e⟩<;>cases e
   |some k=>exact congrArg some ((ZJ prog w).inj v j k ha hb)
 byValue:=fun k v h=>by
  cases k with
  |none=>rw[YR h];rfl
  |some k=>exact(ZJ prog w).byValue k v h
 pyHash:=fun{A E s k v Q} hv h=>by
  cases k with
  |none=>
   rw[YR hv];exact W.pyHash_slot (T:= "NoneType") rfl F.slot_NoneType_hash F.entry_NoneType_hash (F.args_NoneType_hash_1 _) (beq_builtin_none _) (.inl rfl) (Ac (Ao (Ac (wpAny_mkInt (Ao ⟨_,_,rfl,h⟩)))))
  |some k=>exact(ZJ prog w).pyHash hv h
 eqBool:=fun{A E s a b u v Q} hu hv h=>by
  cases a with
  |none=>
   rw[YR hu];cases b with
   |none=>rw[YR hv];exact SeqAt.EqAt.same .none _ _ _ _ (by simpa using h)
   |some k=>
    rw[decide_eq_false (fun q:(none:Ky)=some k=>nomatch q)] at h;rcases bF (show U2 k v=true from hv) with⟨i,t,rfl,rfl⟩|⟨x,t,rfl,rfl⟩
    ·exact SeqAt.EqAt.none_int i t _ _ _ _ h
    ·exact SeqAt.EqAt.none_str x t _ _ _ _ h
  |some j=>
   cases b with
   |none=>
    rw[YR hv];rw[decide_eq_false (fun q:(some j:Ky)=none=>nomatch q)] at h;rcases bF (show U2 j u=true from hu) with⟨i,t,rfl,rfl⟩|⟨x,t,rfl,rfl⟩
    ·exact SeqAt.EqAt.int_none i t _ _ _ _ h
    ·exact SeqAt.EqAt.str_none x t _ _ _ _ h
   |some k=>
    rw[zI6] at h;exact(ZJ prog w).eqBool (a:=j) (b:=k) hu hv h
 «strs» :=fun k x t v h=>by
  cases k with
  |none=>cases (YR h)
  |some k=>exact(ZJ prog w).strs k x t v h
inductive V where
 |non|bl (b:Bool)|int (i:Int)|str (x:Str)|byt (b:Array UInt8)|flt (b:UInt64)|ref (a:Addr)|ty (n:String)
 deriving DecidableEq
def b6:V->Value->Prop
 | .non,u=>u=Value.none
 | .bl b,u=>u=Jt b
 | .int i,u=> ∃t,u=Lx i t
 | .str x,u=> ∃t,u=Ly x t
 | .byt b,u=> ∃t,u=Value.bytes b t
 | .flt b,u=> ∃t,u=Np b t
 | .ref a,u=>u=Bp a
 | .ty n,u=>u=Hz n
abbrev bJ:List V->List Value->Prop:=Paired b6
theorem bJ.length{xs:List V}{us:List Value}(r:bJ xs us):xs.length=us.length:=Ko r
theorem bJ.get: ∀{xs:List V} {us:List Value} {i:Nat} {x:V},bJ xs us->xs[i]? =some x-> ∃u,us[i]? =some u/\b6 x u
 |_,_,_,_,.nil,e=>by simp at e
 |_,_,0,_,.cons r _,e=>by simp at e;subst e;exact⟨_,rfl,r⟩
 |_,_,i+1,x,.cons _ t,e=>by
  obtain⟨u,h1,h2⟩:=bJ.get (i:=i) (x:=x) t (by simpa using e);exact⟨u,by simpa using h1,h2⟩
theorem bJ.set{x:V}{u:Value}(r:b6 x u): ∀{xs:List V} {us:List Value} (i:Nat),bJ xs us->bJ (xs.set i x) (us.set i u)
 |_,_,_,.nil=> .nil
 |_,_,0,.cons _ t=> .cons r t
 |_,_,i+1,.cons q t=> .cons q (bJ.set r i t)
theorem bJ.append: ∀{xs ys:List V} {us ws:List Value},bJ xs us->bJ ys ws->bJ (xs++ys) (us++ws)
 |_,_,_,_,.nil,s=>s
 |_,_,_,_,.cons r t,s=> .cons r (bJ.append t s)
theorem bJ.take: ∀{xs:List V} {us:List Value} (n:Nat),bJ xs us->bJ (xs.take n) (us.take n)
 |_,_,0,_=> .nil
 |_,_,_+1,.nil=> .nil
 |_,_,n+1,.cons r t=> .cons r (bJ.take n t)
theorem bJ.drop: ∀{xs:List V} {us:List Value} (n:Nat),bJ xs us->bJ (xs.drop n) (us.drop n)
 |_,_,0,r=>r
 |_,_,_+1,.nil=> .nil
 |_,_,n+1,.cons _ t=>bJ.drop n t
def QL:Option V->Option Value->Prop
 |some v,some u=>b6 v u
 |none,none=>True
 |_,_=>False
def KV{κ:Type}:List (κ×V)->List (κ×Value)->Prop:=Paired fun(p:κ×V) (q:κ×Value)=>p.1=q.1/\b6 p.2 q.2
noncomputable def kV:YY->V
 | .inl i=> .int i
 | .inr x=> .str x
def IP:Ky->V
 |none=> .non
 |some k=>kV k
inductive HO where
 |lst (xs:List V)
 |tup (xs:List V)
 |dK (kvs:List (YY×V))|dT (kvs:List (List Ky×V))
 |set (S:Int->Bool) (n:Nat)
 |ins (C dx:Addr) (fs:List (Str×V))
 |own (x:Addr)
 |xd (fs:List (Str×V))
 |met (f x:Addr)
 |rng (lo hi:Int)
 |frz (o:Obj) (u:HO)
 |tbl (ps:Array Value)
 |ext (φ:Heap->Prop)
abbrev Hp:=Addr->Option HO
def aS(H:Hp)(a:Addr)(o:HO):Hp:=fun b=>if b=a then some o else H b
theorem cG{H:Hp}{a:Addr}{o:HO}:aS H a o a=some o:=by unfold aS;rw[if_pos rfl]
theorem bN{H:Hp}{a b:Addr}{o:HO}(h:b≠a):aS H a o b=H b:=by unfold aS;rw[if_neg h]
theorem zI3{H:Hp}{a b:Addr}{o u:HO}(h:H a=some o)(h':H b=some u)(d:o≠u):a≠b:=by intro e;subst e;rw[h] at h';exact d (By h')
theorem X7{H:Hp}{a b:Addr}{o:HO}(h:H a=some o)(h':H b=none):a≠b:=by intro e;subst e;rw[h] at h';cases h'
section
variable(P:Bn)(w:World)
def Z3(H:Hp)(h:Heap)(a:Addr):HO->Prop
 | .lst xs=>xs.length<=sizeLine/\ ∃(its:List Value) (n:Nat),bJ xs its/\h.get? a=some {cls:= .type "list",data:= .seq its.toArray n}
 | .tup xs=>xs.length<=sizeLine/\ ∃its:List Value,bJ xs its/\IsTup h a its.toArray
 | .dK kvs=>kvs.length<=sizeLine/\(a==Dx)=false/\ ∃vs,KV kvs vs/\h.DictOf (ZJ P w) a vs
 | .dT kvs => kvs.length <= sizeLine /\ (a == Dx) = false /\ ∃ xs : List (List Ky × Addr × Value),
   Paired (fun(p:List Ky×V) (q:List Ky×Addr×Value)=>p.1=q.1/\H q.2.1=some (.tup (p.1.map IP))/\b6 p.2 q.2.2) kvs xs∧
   ∃o es ep,h.get? a=some o/\o.ExactDict/\o.data= .dict es ep/\es.toList=xs.map (entryOfKey (tupleKind (V3 P w)))/\(xs.map (·.1)).Nodup
 | .set S n=>h.SetOf (intKind P w) a S n
 | .ins C dx fs => H dx = some (.own a) /\ fs.length <= 1000 /\ dx ≠ a /\ h.get? a = some (Ng C dx) ∧
   ∃mA,h.Ns1 dx mA/\(∀f,QL (fs.lookup f) (mA f))/\Nh mA (fs.map (·.1))
 | .own _=> ∃o,h.get? a=some o
 | .xd fs=> ∃mA,h.Ns1 a mA/\ ∀f,QL (fs.lookup f) (mA f)
 | .rng lo hi=> ∃t u v,h.get? a=some {cls:= .type "range",data:= .fields #[.int lo t,.int hi u,.int 1 v]}
 | .frz o u=>h.get? a=some o/\Z3 H h a u
 | .tbl ps=>h.get? a=some {cls:= .none,data:= .fields ps}
 | .met f x=>h.get? a=some (Lz (.ref f) (.ref x))
 | .ext φ=>φ h/\(∃o,h.get? a=some o)/\ ∀h1 h2:Heap,φ h1->(∀o,h1.get? a=some o->h2.get? a=some o)->φ h2
def SE(H:Hp)(h:Heap):Prop:= ∀a o,H a=some o->Z3 P w H h a o
end
section
variable{P:Bn}{w:World}{H H':Hp}{h h':Heap}{a:Addr}{o:HO}
theorem Z3.lt(x:Z3 P w H h a o):a<h.objs.size:=by
 cases o with
 |lst xs=>obtain⟨_,_,_,_,e⟩:=x;exact Aq e
 |tup xs=>obtain⟨_,_,_,p⟩:=x;exact p.lt
 |dK kvs=>obtain⟨_,_,_,_,o,_,_,e,_⟩:=x;exact Aq e
 |dT kvs=>obtain⟨_,_,_,_,o,_,_,e,_⟩:=x;exact Aq e
 |set S n=>obtain⟨o,_,_,_,e,_⟩:=x;exact Aq e
 |ins C dx fs=>obtain⟨_,_,_,e,_⟩:=x;exact Aq e
 |own y=>obtain⟨_,e⟩:=x;exact Aq e
 |xd fs=>obtain⟨_,⟨_,_,_,e,_⟩,_⟩:=x;exact Aq e
 |rng lo hi=>obtain⟨_,_,_,e⟩:=x;exact Aq e
 |frz ob u=>obtain⟨e,_⟩:=x;exact Aq e
 |tbl ps=>exact Aq (show h.get? a=some _ from x)
 |met f y=>exact Aq (show h.get? a=some _ from x)
 |ext φ=>obtain⟨_,⟨_,e⟩,_⟩:=x;exact Aq e
theorem Paired.mapP{α β:Type}{F G:α->β->Prop}: ∀{l₁:List α} {l₂:List β},Paired F l₁ l₂->(∀a b,F a b->G a b)->Paired G l₁ l₂
 |_,_,.nil,_=> .nil
 |_,_,.cons r t,f=> .cons (f _ _ r) (Paired.mapP t f)
theorem Z3.stay(x:Z3 P w H h a o)(k: ∀b u,(b=a∨H b=some (.own a))->h.get? b=some u->h'.get? b=some u)
  (ho: ∀b,H b=some (.own a)->H' b=some (.own a)) (ht: ∀b xs,H b=some (.tup xs)->H' b=some (.tup xs)):Z3 P w H' h' a o:=by
 induction o with
 |lst xs=>obtain⟨z,its,n,r,e⟩:=x;exact⟨z,its,n,r,k _ _ (.inl rfl) e⟩
 |tup xs=>obtain⟨z,its,r,ob,e,c⟩:=x;exact⟨z,its,r,ob,k _ _ (.inl rfl) e,c⟩
 |dK kvs=>obtain⟨z,y,vs,r,ob,es,ep,e,c⟩:=x;exact⟨z,y,vs,r,ob,es,ep,k _ _ (.inl rfl) e,c⟩
 |dT kvs=>
  obtain⟨z,y,xs,r,ob,es,ep,e,c⟩:=x;exact⟨z,y,xs,Paired.mapP r fun p q z=>⟨z.1,ht _ _ z.2.1,z.2.2⟩,ob,es,ep,k _ _ (.inl rfl) e,c⟩
 |set S n=>obtain⟨ob,es,ep,t,e,c⟩:=x;exact⟨ob,es,ep,t,k _ _ (.inl rfl) e,c⟩
 |ins C dx fs=>
  obtain⟨d,z,ne,e,mA,⟨od,es,ep,e2,c⟩,r⟩:=x;exact⟨ho _ d,z,ne,k _ _ (.inl rfl) e,mA,⟨od,es,ep,k _ _ (.inr d) e2,c⟩,r⟩
 |own y=>obtain⟨ob,e⟩:=x;exact⟨ob,k _ _ (.inl rfl) e⟩
 |xd fs=>obtain⟨mA,⟨od,es,ep,e,c⟩,r⟩:=x;exact⟨mA,⟨od,es,ep,k _ _ (.inl rfl) e,c⟩,r⟩
 |rng lo hi=>obtain⟨t,u,v,e⟩:=x;exact⟨t,u,v,k _ _ (.inl rfl) e⟩
 |frz ob u ih=>obtain⟨e,q⟩:=x;exact⟨k _ _ (.inl rfl) e,ih q⟩
 |tbl ps=>
  have e:h.get? a=some {cls:= .none,data:= .fields ps}:=x;show h'.get? a=some {cls:= .none,data:= .fields ps};exact k a _ (.inl rfl) e
 |met f y=>
  have e:h.get? a=some (Lz (.ref f) (.ref y)):=x;show h'.get? a=some (Lz (.ref f) (.ref y));exact k a _ (.inl rfl) e
 |ext φ=>obtain⟨p,⟨o,e⟩,st⟩:=x;exact⟨st _ _ p fun o q=>k _ _ (.inl rfl) q,⟨o,k _ _ (.inl rfl) e⟩,st⟩
theorem SE.lt(x:SE P w H h)(e:H a=some o):a<h.objs.size:=(x a o e).lt
theorem SE.fresh(x:SE P w H h)(e:h.objs.size<=a):H a=none:=by
 cases q:H a with
 |none=>rfl
 |some u=>exact absurd (Bf (x.lt q) e) (Cp _)
theorem SE.kept(x:SE P w H h)(k: ∀b u,h.get? b=some u->h'.get? b=some u):SE P w H h':=fun a o e=>
 (x a o e).stay (fun b u _ q=>k b u q) (fun _ q=>q) fun _ _ q=>q
theorem SE.laid(x:SE P w H h)(k: ∀b u,h.get? b=some u->h'.get? b=some u)(hp:h.objs.size<=a)(new:Z3 P w (aS H a o) h' a o):SE P w (aS H a o) h':=fun b u e=>by
 have hn:=x.fresh hp;by_cases hb:b=a
 ·subst hb;rw[cG] at e;cases e;exact new
 ·rw[bN hb] at e
  exact(x b u e).stay (fun c v _ q=>k c v q) (fun c q=>by rw[bN (X7 q hn)];exact q) fun c xs q=>by rw[bN (X7 q hn)];exact q
end
def Rd(H:Hp)(a:Addr)(u:HO):Prop:=H a=some u∨ ∃o,H a=some (.frz o u)
theorem Rd.ok{P:Bn}{w:World}{H:Hp}{h:Heap}{a:Addr}{u:HO}(r:Rd H a u)(x:SE P w H h):Z3 P w H h a u:=by
 rcases r with r|⟨o,r⟩
 ·exact x a u r
 ·obtain⟨_,q⟩:=x a _ r
  exact q
def Mut:Option HO->Prop
 |some (.lst _)=>True
 |some (.dK _)=>True
 |some (.dT _)=>True
 |some (.set _ _)=>True
 |some (.ins _ _ _)=>True
 |some (.ext _)=>True
 |_=>False
section
variable{P:Bn}{w:World}{H:Hp}{h h':Heap}{x e:Addr}{o':HO}
theorem SE.write(ok:SE P w H h)(mu:Mut (H x))(he:e=x∨H e=some (.own x))(k: ∀b u,b≠e->h.get? b=some u->h'.get? b=some u)(heo: ∃u,h'.get? e=some u)
  (new:Z3 P w (aS H x o') h' x o'):SE P w (aS H x o') h':=fun b u q=>by
 have l7: ∀c y,H c=some (.own y)->c≠x:=fun c y r z=>by subst z;rw[r] at mu;exact mu
 have mi: ∀c xs,H c=some (.tup xs)->c≠x:=fun c xs r z=>by subst z;rw[r] at mu;exact mu
 by_cases hb:b=x
 ·subst hb;rw[cG] at q;cases q;exact new
 ·rw[bN hb] at q
  by_cases hbe:b=e
  ·have q':H b=some (.own x):=by
    rcases he with z|z
    ·exact absurd (hbe.trans z) hb
    ·rw[hbe];exact z
   rw[q] at q';cases q';obtain⟨v,hv⟩:=heo;exact⟨v,by rw[hbe];exact hv⟩
  ·refine (ok b u q).stay (fun c v hc r => k c v ?_ r) (fun c r => by rw [bN (l7 c b r)];exact r) fun c xs r => by rw [bN (mi c xs r)];exact r
   rcases hc with rfl|hc
   ·exact hbe
   ·rintro rfl
    rcases he with z|z
    ·exact l7 c b hc z
    ·rw[hc] at z;cases z;exact hb rfl
end
structure Un(fs ex:List Addr)(H H':Hp)(h h':Heap):Prop where
 keep: ∀b o,h.get? b=some o->H b=none->b∉fs->b∉ex->h'.get? b=some o
 slot: ∀b o,h.get? b=some o->H b=none->b∈fs->b∉ex-> ∃sl,h'.get? b=some {o with slots:=sl}
 free: ∀b o,h.get? b=some o->H b=none->b∉ex->H' b=none
 there: ∀b o,h.get? b=some o->b∉ex-> ∃o',h'.get? b=some o'
 tups: ∀b xs,H b=some (.tup xs)->H' b=some (.tup xs)
 frzs: ∀b o u,H b=some (.frz o u)->H' b=some (.frz o u)
 tbls: ∀b ps,H b=some (.tbl ps)-> ∃more,H' b=some (.tbl (ps++more))
section
variable{fs fs' ex ex':List Addr}{H H1 H2:Hp}{h h1 h2 h':Heap}{a x e:Addr}{o:HO}
theorem Un.any(u:Un fs ex H H1 h h1){b:Addr}{ob:Obj}(q:h.get? b=some ob)(n:H b=none)(hx:b∉ex): ∃sl,h1.get? b=some {ob with slots:=sl}:=by
 by_cases hb:b∈fs
 ·exact u.slot b ob q n hb hx
 ·exact⟨ob.slots,u.keep b ob q n hb hx⟩
theorem Un.kept(k: ∀b u,h.get? b=some u->h'.get? b=some u):Un fs ex H H h h':=
 ⟨fun b ob q _ _ _=>k b ob q,fun b ob q _ _ _=>⟨ob.slots,k b ob q⟩,fun _ _ _ n _=>n,fun b ob q _=>⟨ob,k b ob q⟩,fun _ _ q=>q,fun _ _ _ q=>q,fun _ ps q=>⟨#[],by rw[q];simp⟩⟩
theorem Un.refl:Un fs ex H H h h:=Un.kept fun _ _ q=>q
theorem Un.laid(k: ∀b u,h.get? b=some u->h'.get? b=some u)(hp:h.objs.size<=a)(hn:H a=none):Un fs ex H (aS H a o) h h' where
 keep:=fun b u q _ _ _=>k b u q
 slot:=fun b u q _ _ _=>⟨u.slots,k b u q⟩
 free:=fun b u q n _=>by rw[bN (Bq (Bf (Aq q) hp))];exact n
 there:=fun b u q _=>⟨u,k b u q⟩
 tups:=fun b xs q=>by rw[bN (X7 q hn)];exact q
 frzs:=fun b u xs q=>by rw[bN (X7 q hn)];exact q
 tbls:=fun b ps q=>⟨#[],by rw[bN (X7 q hn),q];simp⟩
theorem Un.write(mu:Mut (H x))(he:e=x∨H e=some (.own x))(k: ∀b u,b≠e->h.get? b=some u->h'.get? b=some u)(heo: ∃u,h'.get? e=some u):Un fs ex H (aS H x o) h h':=by
 have hx: ∀b,H b=none->b≠x:=fun b n z=>by subst z;rw[n] at mu;exact mu
 have hb: ∀b,H b=none->b≠e:=fun b n z=>by
  subst z;rcases he with r|r
  ·exact hx b n r
  ·rw[n] at r;cases r
 have hm: ∀b u,H b=some u-> ¬Mut (some u)->b≠x:=fun b u q nm z=>by subst z;rw[q] at mu;exact nm mu
 refine⟨fun b u q n _ _=>k b u (hb b n) q,fun b u q n _ _=>⟨u.slots,k b u (hb b n) q⟩,fun b u q n _=>by rw[bN (hx b n)];exact n,fun b u q _=> ?_,
  fun b xs q=>by rw[bN (hm b _ q fun z=>z)];exact q,fun b u xs q=>by rw[bN (hm b _ q fun z=>z)];exact q,fun b ps q=>⟨#[],by rw[bN (hm b _ q fun z=>z),q];simp⟩⟩
 by_cases hbe:b=e
 ·subst hbe;exact heo
 ·exact⟨u,k b u hbe q⟩
end
def trk(h:Heap)(H:Hp):List Addr:=(Bt h.objs.size).filter fun a=>(H a).isSome
def LY(h:Heap)(H:Hp):Heap:=W.hideAll h (trk h H)
theorem EF(h:Heap)(H:Hp):(LY h H).objs.size=h.objs.size:=W.hideAll_size _ _
theorem AR{h:Heap}{H:Hp}{b:Addr}{o:Obj}(e:h.get? b=some o)(n:H b=none):(LY h H).get? b=some o:=
 W.hideAll_get _ e fun hm=>by
  have q:(H b).isSome=true:=(Ma.mp hm).2;rw[n] at q;simp at q
theorem zAZ{h:Heap}{H:Hp}{b:Addr}{o:Obj}(e:(LY h H).get? b=some o):h.get? b=some o/\H b=none:=by
 have e':h.get? b=some o:=W.of_hideAll (trk h H) e;refine⟨e',?_⟩;cases q:H b with
 |none=>rfl
 |some x=>
  have hm:b∈trk h H:=Ma.mpr ⟨Ct.mpr (Aq e'),by simp[q]⟩;have z:(LY h H).get? b=none:=W.hideAll_none (trk h H) hm;rw[z] at e;cases e
structure Mod(K:An)(mg:Str->Option Value)(base:Heap):Prop where
 kin:K.In base
 glob:base.Ns mainGlobals mg
 blt: ∃mb,base.Ns builtinsNs mb/\ ∀x:Str,x≠ "__name__" ->mb x=Bo x
 nolimit:base.NoLimit
structure Cx where
 prog:Bn
 w:World
 K:An
 mg:Str->Option Value
 base:Heap
 A:De
 N:List Str
 s₀:Ah
 H₀:Hp
 env:Env
 outer:List Env
 stack:List Env
 ex:List Addr
 fn:Str->Bool
 calm:Bool
 pn:List (Addr×Obj)
 xe:Value->Ah->Prop
def DS(l:List Env):List Addr:=l.filterMap (·.frame)
abbrev Cx.fs(X:Cx):List Addr:=DS X.outer
def Vis(sc:Scope)(x:Str):Prop:=sc.names.lookup x=some .local∨sc.names.lookup x=some .cell∨sc.names.lookup x=some .free
def G3(sc:Scope)(x:Str):Prop:=sc.names.lookup x=some .local∨sc.names.lookup x=some .cell
def Look(env:Env)(h:Heap)(m:Str->Option Value)(x:Str)(u:Value):Prop:=
 (env.kindOf x=some .local/\m x=some u)∨((env.kindOf x=some .cell∨env.kindOf x=some .free)/\ ∃c,env.cells.lookup x=some c/\h.IsCell c (some u))
structure Cx.Ok(X:Cx):Prop where
 mod:Mod X.K X.mg X.base
 kind:X.env.scope.kind= .function
 glob:X.env.globals=mainGlobals
 blt:X.env.builtins=builtinsNs
 above:X.s₀.heap.objs.size<=X.env.locals
 inj: ∀x y c,X.env.cells.lookup x=some c->X.env.cells.lookup y=some c->x=y
 has: ∀x,(X.env.kindOf x=some .cell∨X.env.kindOf x=some .free)-> ∃c,X.env.cells.lookup x=some c
 cab: ∀x c,X.fn x=true->X.env.cells.lookup x=some c->X.s₀.heap.objs.size<=c
 hd:X.calm=true->X.A.handled=none
 frames:X.A.frames=some X.stack
 stk:X.stack=X.outer∨(X.stack=X.env::X.outer/\X.env.frame=some X.env.locals)
 exf: ∀b∈X.ex,b≠X.env.locals/\ ∀x c,X.env.cells.lookup x=some c->c≠b
 bs: ∀b o,X.base.get? b=some o->X.s₀.heap.get? b=some o/\X.H₀ b=none
 bsz:X.base.objs.size<=X.s₀.heap.objs.size
 noex: ∀b o,X.base.get? b=some o->b∉X.ex
 exfs: ∀b∈X.ex,b∉X.fs
 funs:X.s₀.heap.FunFrames X.base X.outer
 frf: ∀b∈X.fs,X.H₀ b=none
structure cL(X:Cx)(aa:List (Addr×Obj))(σ:List (Option V))(H:Hp)(s:Ah):Prop where
 ok:X.Ok
 os:s.os=X.s₀.os
 bare:Jb s.gens
 base:Un X.fs X.ex X.H₀ H X.s₀.heap s.heap
 loc: ∃m,s.heap.Ns X.env.locals m/\ ∀(i:Nat) (x:Str) (v:V),X.N[i]? =some x->σ[i]? =some (some v)->Vis X.env.scope x-> ∃u,b6 v u/\Look X.env s.heap m x u
 cell: ∀x c,X.env.cells.lookup x=some c-> ∃v,s.heap.IsCell c v
 free:H X.env.locals=none
 freeC: ∀x c,X.env.cells.lookup x=some c->H c=none
 pin: ∀p∈X.pn++aa,s.heap.get? p.1=some p.2/\H p.1=none/\p.1≠X.env.locals/\p.1∉X.fs/\ ∀v,p.2.data≠ .cell v
 hok:SE X.prog X.w H s.heap
 len:σ.length=X.N.length
section
variable{X:Cx}{aa:List (Addr×Obj)}{σ:List (Option V)}{H H':Hp}{s:Ah}{h':Heap}
theorem Cx.Ok.nofr(ok:X.Ok){b:Addr}{o:Obj}(e:X.base.get? b=some o):b∉X.fs:=fun hb=>by
 have:=(ok.funs.mem hb).1;rw[e] at this;cases this
theorem cL.bs(I:cL X aa σ H s): ∀b o,X.base.get? b=some o->s.heap.get? b=some o/\H b=none:=fun b o e=>
 ⟨I.base.keep b o (I.ok.bs b o e).1 (I.ok.bs b o e).2 (I.ok.nofr e) (I.ok.noex b o e),I.base.free b o (I.ok.bs b o e).1 (I.ok.bs b o e).2 (I.ok.noex b o e)⟩
theorem cL.bk(I:cL X aa σ H s): ∀b o,X.base.get? b=some o->s.heap.get? b=some o:=fun b o e=>(I.bs b o e).1
theorem cL.mod(I:cL X aa σ H s):Mod X.K X.mg X.base:=I.ok.mod
theorem cL.kIn(I:cL X aa σ H s):X.K.In s.heap:=I.ok.mod.kin.keeps I.bk
theorem cL.lt(I:cL X aa σ H s):X.env.locals<s.heap.objs.size:=let ⟨_,hn,_⟩:=I.loc;hn.lt
theorem cL.sz(I:cL X aa σ H s):X.s₀.heap.objs.size<=s.heap.objs.size:=Eh I.ok.above (Lh I.lt)
theorem cL.nofs(I:cL X aa σ H s){a:Addr}(h:s.heap.objs.size<=a):a∉X.fs:=fun hb=>by
 obtain⟨_,o,ho,_⟩:=I.ok.funs.mem hb;exact absurd (Bf (Aq ho) (Eh I.sz h)) (Cp _)
theorem cL.cne(I:cL X aa σ H s): ∀x c,X.env.cells.lookup x=some c->c≠X.env.locals:=fun x c e z=>by
 obtain⟨v,o,ho,hd⟩:=I.cell x c e;obtain⟨m,⟨o',es,ep,ho',hd',_⟩,_⟩:=I.loc;rw[z,ho'] at ho;cases ho;rw[hd'] at hd;cases hd
theorem cL.funs(I:cL X aa σ H s):s.heap.FunFrames X.base X.outer:=by
 have all: ∀(l:List Env),(∀b∈DS l,b∈X.fs)->X.s₀.heap.FunFrames X.base l->s.heap.FunFrames X.base l:=by
  intro l;induction l with
  |nil=>intro _ _;trivial
  |cons env r ih=>
   intro hs hl;obtain⟨hk,⟨L,o,hf,hn,ho,hd⟩,hr⟩:=hl;have hL:L∈X.fs:=hs L (by unfold DS;rw[Fn,hf];exact Ax);obtain⟨sl,e⟩:=I.base.slot L o ho (I.ok.frf L hL) hL fun z=>I.ok.exfs L z hL;exact⟨hk,⟨L,_,hf,hn,e,hd⟩,ih (fun b hb=>hs b (by unfold DS;rw[Fn,hf];exact Am _ hb)) hr⟩
 exact all X.outer (fun _ hb=>hb) I.ok.funs
theorem cL.stack(I:cL X aa σ H s):s.heap.FunFrames X.base X.stack:=by
 rcases I.ok.stk with e|⟨e,hf⟩
 ·rw[e];exact I.funs
 ·rw[e]
  obtain⟨m,hn,_⟩:=I.loc;refine .cons (by rw[I.ok.kind];decide) hf hn ?_ I.funs;exact Heap.get?_none_of_le (Eh I.ok.bsz I.ok.above)
theorem cL.stkSub(I:cL X aa σ H s): ∀b∈DS X.stack,b∈X.env.locals::X.fs:=fun b hb=>by
 rcases I.ok.stk with e|⟨e,hf⟩
 ·rw[e] at hb;exact Am _ hb
 ·rw[e] at hb
  unfold DS at hb;rw[Fn,hf] at hb;exact hb
theorem cL.stkFree(I:cL X aa σ H s): ∀b∈DS X.stack,H b=none:=fun b hb=>by
 rcases Aj.mp (I.stkSub b hb) with e|hb
 ·rw[e];exact I.free
 ·obtain⟨_,o,ho,_⟩:=I.ok.funs.mem hb
  exact I.base.free b o ho (I.ok.frf b hb) fun z=>I.ok.exfs b z hb
theorem cL.step{g':Array GenState}{t':Nat}{d':Drawn}{ch:List Addr}(I:cL X aa σ H s)
  (hch: ∀b∈ch,(b∈X.ex∨X.s₀.heap.objs.size<=b)/\b≠X.env.locals/\(∀x c,X.env.cells.lookup x=some c->c≠b)/\ ∀p∈X.pn++aa,p.1≠b)
  (keep: ∀b o,b≠X.env.locals->b∉X.fs->b∉ch->s.heap.get? b=some o->H b=none->h'.get? b=some o)
  (slot: ∀b o,b≠X.env.locals->b∈X.fs->b∉ch->s.heap.get? b=some o->H b=none-> ∃sl,h'.get? b=some {o with slots:=sl}) (free: ∀b o,b∉ch->s.heap.get? b=some o->H b=none->H' b=none)
  (there: ∀b o,b∉ch->s.heap.get? b=some o-> ∃o',h'.get? b=some o')
  (tups: ∀b xs,H b=some (.tup xs)->H' b=some (.tup xs)) (frzs: ∀b o u,H b=some (.frz o u)->H' b=some (.frz o u)) (tbls: ∀b ps,H b=some (.tbl ps)-> ∃more,H' b=some (.tbl (ps++more)))
  (ns: ∀m,s.heap.Ns X.env.locals m->h'.Ns X.env.locals m) (hok:SE X.prog X.w H' h') (hg:Jb g'):
  cL X aa σ H' {s with heap:=h',gens:=g',drawn:=d',toks:=t'}:=by
 have neL: ∀b o,X.s₀.heap.get? b=some o->b≠X.env.locals:=fun b o e=>Bq (Bf (Aq e) I.ok.above);have neC: ∀b o,X.s₀.heap.get? b=some o->b∉X.ex->b∉ch:=fun b o e hx hb=>by
  rcases(hch b hb).1 with z|z
  ·exact hx z
  ·exact absurd (Bf (Aq e) z) (Cp _)
 have gv: ∀x c,X.env.cells.lookup x=some c-> ∀v,s.heap.IsCell c v->h'.IsCell c v:=fun x c e v q0=>by
  obtain⟨o,ho,hd⟩:=q0;have nch:c∉ch:=fun z=>(hch c z).2.2.1 x c e rfl;by_cases hc:c∈X.fs
  ·obtain⟨sl,q⟩:=slot c o (I.cne x c e) hc nch ho (I.freeC x c e)
   exact⟨_,q,hd⟩
  ·exact⟨o,keep c o (I.cne x c e) hc nch ho (I.freeC x c e),hd⟩
 refine⟨I.ok,I.os,hg,⟨fun b o e n hb hx=> ?_,fun b o e n hb hx=> ?_,fun b o e n hx=> ?_,fun b o e hx=> ?_,fun b xs e=>tups b xs (I.base.tups b xs e),fun b o xs e=>frzs b o xs (I.base.frzs b o xs e),fun b ps e=> ?_⟩,?_,fun x c e=> ?_,?_,fun x c e=> ?_,fun p hp=> ?_,hok,I.len⟩
 ·exact keep b o (neL b o e) hb (neC b o e hx) (I.base.keep b o e n hb hx) (I.base.free b o e n hx)
 ·obtain⟨sl,e1⟩:=I.base.slot b o e n hb hx
  obtain⟨sl',e2⟩:=slot b _ (neL b o e) hb (neC b o e hx) e1 (I.base.free b o e n hx);exact⟨sl',e2⟩
 ·obtain⟨o',e1⟩:=I.base.there b o e hx
  exact free b o' (neC b o e hx) e1 (I.base.free b o e n hx)
 ·obtain⟨o',e1⟩:=I.base.there b o e hx
  exact there b o' (neC b o e hx) e1
 ·obtain⟨m1,e1⟩:=I.base.tbls b ps e
  obtain⟨m2,e2⟩:=tbls b _ e1;exact⟨m1++m2,by rw[e2,Array.append_assoc]⟩
 ·obtain⟨m,hn,hl⟩:=I.loc
  refine⟨m,ns m hn,fun i x v e1 e2 e3=> ?_⟩;obtain⟨u,r,l⟩:=hl i x v e1 e2 e3;refine⟨u,r,?_⟩;rcases l with l|⟨k,c,e,z⟩
  ·exact .inl l
  ·exact .inr ⟨k,c,e,gv x c e _ z⟩
 ·obtain⟨v,z⟩:=I.cell x c e
  exact⟨v,gv x c e v z⟩
 ·obtain⟨m,⟨o,_,_,ho,_⟩,_⟩:=I.loc
  exact free _ o (fun z=>(hch _ z).2.1 rfl) ho I.free
 ·obtain⟨v,o,ho,hd⟩:=I.cell x c e
  exact free c o (fun z=>(hch c z).2.2.1 x c e rfl) ho (I.freeC x c e)
 ·obtain⟨e,n,ne,nf,d⟩:=I.pin p hp
  have nch:p.1∉ch:=fun z=>(hch p.1 z).2.2.2 p hp rfl;exact⟨keep p.1 p.2 ne nf nch e n,free p.1 p.2 nch e n,ne,nf,d⟩
theorem cL.un{t':Nat}(I:cL X aa σ H s)(u:Un X.fs [] H H' s.heap h')(hok:SE X.prog X.w H' h'):cL X aa σ H' {s with heap:=h',toks:=t'}:=by
 obtain⟨m,⟨o,es,ep,ho,r⟩,_⟩:=id I.loc;obtain⟨sl,hL⟩:=u.any ho I.free (by simp);exact I.step (g':=s.gens) (d':=s.drawn) (ch:=[]) (fun _ z=>nomatch z) (fun b o _ hb _ e n=>u.keep b o e n hb (by simp)) (fun b o _ hb _ e n=>u.slot b o e n hb (by simp)) (fun b o _ e n=>u.free b o e n (by simp)) (fun b o _ e=>u.there b o e (by simp)) u.tups u.frzs u.tbls (fun m' hm=>by
  obtain⟨o',es',ep',ho',r'⟩:=hm;rw[ho] at ho';cases ho';exact⟨_,es',ep',hL,r'⟩) hok I.bare
theorem cL.call{g':Array GenState}{t':Nat}{d':Drawn}{ch:List Addr}(I:cL X aa σ H s)(u:Un (DS X.stack) ch H H' s.heap h')(hok:SE X.prog X.w H' h')(hg:Jb g')
  (hch: ∀b∈ch,(b∈X.ex∨X.s₀.heap.objs.size<=b)/\b≠X.env.locals/\(∀x c,X.env.cells.lookup x=some c->c≠b)/\ ∀p∈X.pn++aa,p.1≠b):
  cL X aa σ H' {s with heap:=h',gens:=g',drawn:=d',toks:=t'}:=by
 obtain⟨m,⟨o,es,ep,ho,r⟩,_⟩:=id I.loc;obtain⟨sl,hL⟩:=u.any ho I.free fun z=>(hch _ z).2.1 rfl;exact I.step (ch:=ch) hch (fun b o hL hb hc e n=>u.keep b o e n (fun z=>(Aj.mp (I.stkSub b z)).elim hL hb) hc) (fun b o _ _ hc e n=>u.any e n hc) (fun b o hc e n=>u.free b o e n hc) (fun b o hc e=>u.there b o e hc) u.tups u.frzs u.tbls (fun m' hm=>by
  obtain⟨o',es',ep',ho',r'⟩:=hm;rw[ho] at ho';cases ho';exact⟨_,es',ep',hL,r'⟩) hok hg
theorem cL.turned{t':Nat}{it:Addr}(I:cL X aa σ H s)(k: ∀b o,b≠it->s.heap.get? b=some o->h'.get? b=some o)(hn:H it=none)(hL:it≠X.env.locals)
  (h1:it∈X.ex∨X.s₀.heap.objs.size<=it) (h2: ∀x c,X.env.cells.lookup x=some c->c≠it) (h3: ∀p∈X.pn++aa,p.1≠it):cL X aa σ H {s with heap:=h',toks:=t'}:=by
 have nit: ∀b u,H b=some u->b≠it:=fun b u e z=>by rw[z,hn] at e;cases e
 refine I.step (g':=s.gens) (d':=s.drawn) (ch:=[it]) (fun b hb=> ?_) (fun b o _ _ hc e _=>k b o (fun z=>hc (by simp[z])) e) (fun b o _ _ hc e _=>⟨o.slots,k b o (fun z=>hc (by simp[z])) e⟩) (fun _ _ _ _ n=>n)
  (fun b o hc e=>⟨o,k b o (fun z=>hc (by simp[z])) e⟩) (fun _ _ e=>e) (fun _ _ _ e=>e) (fun b ps e=>⟨#[],by rw[e];simp⟩) (fun m hm=> ?_) (fun b u e=> ?_) I.bare
 ·have e : b = it := by simpa using hb
  subst e;exact⟨h1,hL,h2,h3⟩
 ·obtain⟨o,es,ep,ho,r⟩:=hm
  exact⟨o,es,ep,k _ o (Cq hL) ho,r⟩
 ·refine (I.hok b u e).stay (fun c v hc q => k c v ?_ q) (fun _ q => q) fun _ _ q => q
  rcases hc with z|z
  ·rw[z];exact nit b u e
  ·exact nit c _ z
theorem cL.tok(I:cL X aa σ H s)(t:Nat):cL X aa σ H {s with toks:=t}:=I.un (h':=s.heap) (t':=t) Un.refl I.hok
theorem cL.kept{t':Nat}(I:cL X aa σ H s)(k: ∀b u,s.heap.get? b=some u->h'.get? b=some u):cL X aa σ H {s with heap:=h',toks:=t'}:=I.un (Un.kept k) (I.hok.kept k)
theorem cL.laid{a:Addr}{o:HO}{t':Nat}(I:cL X aa σ H s)(k: ∀b u,s.heap.get? b=some u->h'.get? b=some u)(hp:s.heap.objs.size<=a)(new:Z3 X.prog X.w (aS H a o) h' a o):
  cL X aa σ (aS H a o) {s with heap:=h',toks:=t'}:=I.un (Un.laid k hp (I.hok.fresh hp)) (I.hok.laid k hp new)
theorem cL.write{x e:Addr}{o:HO}{t':Nat}(I:cL X aa σ H s)(mu:Mut (H x))(he:e=x∨H e=some (.own x))(k: ∀b u,b≠e->s.heap.get? b=some u->h'.get? b=some u)(heo: ∃u,h'.get? e=some u)
  (new:Z3 X.prog X.w (aS H x o) h' x o):cL X aa σ (aS H x o) {s with heap:=h',toks:=t'}:=I.un (Un.write mu he k heo) (I.hok.write mu he k heo new)
theorem cL.weak{σ':List (Option V)}(I:cL X aa σ H s)(hl:σ'.length=σ.length)(w: ∀(i:Nat) v,σ'[i]? =some (some v)->σ[i]? =some (some v)):cL X aa σ' H s:=
 ⟨I.ok,I.os,I.bare,I.base,let ⟨m,hn,hl'⟩:=I.loc;⟨m,hn,fun i x v e1 e2 e3=>hl' i x v e1 (w i v e2) e3⟩,I.cell,I.free,I.freeC,I.pin,I.hok,hl.trans I.len⟩
theorem cL.pins_of{gp:List (Addr×Obj)}(I:cL X aa σ H s)(h: ∀p∈gp,s.heap.get? p.1=some p.2/\H p.1=none/\p.1≠X.env.locals/\p.1∉X.fs/\ ∀v,p.2.data≠ .cell v):cL X gp σ H s:=
 ⟨I.ok,I.os,I.bare,I.base,I.loc,I.cell,I.free,I.freeC,fun p hp=>(Bi.mp hp).elim (fun z=>I.pin p (Bu _ z)) (h p),I.hok,I.len⟩
theorem J8{N:List Str}(hN:N.Nodup){i j:Nat}{x:Str}(a:N[i]? =some x)(b:N[j]? =some x):i=j:=by
 obtain⟨h1,e1⟩:=Ai.mp a;obtain⟨h2,e2⟩:=Ai.mp b;exact(Lm hN).mp (e1.trans e2.symm)
theorem NR{M:Model}{A:De}{E:Value->Ah->Prop}{i:Nat}{x:Str}{v:V}{u:Value}{Q:Unit->Ah->Prop}(I:cL X aa σ H s)(hN:X.N.Nodup)(hi:X.N[i]? =some x)(hx:G3 X.env.scope x)(r:b6 v u)
  (h: ∀s',cL X aa (σ.set i (some v)) H s'->(∃a,Ew a s.heap s'.heap/\(a=X.env.locals∨X.env.cells.lookup x=some a))->Q () s') (hf:X.fn x=true∨X.env.scope.names.lookup x=some .local:=by first|exact .inl rfl|exact .inr rfl|assumption):wpAny M A (storeName X.env x u) Q E s:=by
 obtain⟨m,hn,hl⟩:=id I.loc;have nj:(X.env.scope.kind== .class || (X.env.scope.kind== .module && X.env.locals !=X.env.globals))=false:=by rw[I.ok.kind];rfl
 have hiσ:i<σ.length:=by rw[I.len];exact(Ai.mp hi).1
 have cne:=I.cne;have da: ∀{a:Addr} {h':Heap},(∃o,s.heap.get? a=some o/\H a=none)->Ew a s.heap h'->SE X.prog X.w H h':=fun{a h'} ha hs b ob e=>by
  obtain⟨_,_,bj⟩:=ha;refine(I.hok b ob e).stay (fun c w' hc q=>(hs.2 c ?_).trans q) (fun _ q=>q) fun _ _ q=>q;rintro rfl;rcases hc with rfl|hc
  ·rw[bj] at e;cases e
  ·rw[bj] at hc;cases hc
 rcases hx with hk|hk
 ·refine wpAny_storeName_local hk hn (fun h' hn' hs => ?_) nj
  obtain⟨oL,_,_,hoL,_⟩:=id hn;refine h _ ⟨I.ok,I.os,I.bare,⟨fun b o e n hb hx=> ?_,fun b o e n hb hx=> ?_,I.base.free,fun b o e hx=> ?_,I.base.tups,I.base.frzs,I.base.tbls⟩,⟨_,hn',fun j y v' e1 e2 e3=> ?_⟩,fun y c e=> ?_,I.free,I.freeC,fun p hp=> ?_,da ⟨oL,hoL,I.free⟩ hs,by simpa using I.len⟩ ⟨_,hs,.inl rfl⟩
  ·exact(hs.2 b (Bq (Bf (Aq e) I.ok.above))).trans (I.base.keep b o e n hb hx)
  ·obtain⟨sl,e1⟩:=I.base.slot b o e n hb hx
   exact⟨sl,(hs.2 b (Bq (Bf (Aq e) I.ok.above))).trans e1⟩
  ·obtain⟨o',e1⟩:=I.base.there b o e hx
   exact⟨o',(hs.2 b (Bq (Bf (Aq e) I.ok.above))).trans e1⟩
  ·by_cases hj:j=i
   ·subst hj
    rw[hi] at e1;cases e1;rw[Ci hiσ] at e2;cases e2;exact⟨u,r,.inl ⟨hk,by simp⟩⟩
   ·rw[Bv (Cq hj)] at e2
    obtain⟨u',r',q⟩:=hl j y v' e1 e2 e3;refine⟨u',r',?_⟩;rcases q with⟨k,e⟩|⟨k,c,e,z⟩
    ·refine .inl ⟨k,?_⟩
     have:y≠x:=fun e=>hj (J8 hN e1 (e▸hi));simp[this,e]
    ·exact .inr ⟨k,c,e,z.sameBut hs (cne y c e)⟩
  ·obtain⟨w',z⟩:=I.cell y c e
   exact⟨w',z.sameBut hs (cne y c e)⟩
  ·obtain⟨e,n,ne,nf,d⟩:=I.pin p hp
   exact⟨(hs.2 p.1 ne).trans e,n,ne,nf,d⟩
 ·have hfn:X.fn x=true:=by
   rcases hf with z|z
   ·exact z
   ·rw[z] at hk;cases hk
  obtain⟨c,hc⟩:=I.ok.has x (.inl hk);obtain⟨w',z⟩:=I.cell x c hc;refine wpAny_storeName_cell I.ok.kind hk hc z (fun h' hc' hs=> ?_);obtain⟨oc,hoc,mw⟩:=id z;refine h {s with heap:=h'} ⟨I.ok,I.os,I.bare,⟨fun b o e n hb hx=> ?_,fun b o e n hb hx=> ?_,I.base.free,fun b o e hx=> ?_,I.base.tups,I.base.frzs,I.base.tbls⟩,⟨m,hn.sameBut hs (Cq (cne x c hc)),fun j y v' e1 e2 e3=> ?_⟩,fun y c' e=> ?_,I.free,I.freeC,fun p hp=> ?_,da ⟨oc,hoc,I.freeC x c hc⟩ hs,by simpa using I.len⟩ ⟨c,hs,.inr hc⟩
  ·exact(hs.2 b (Bq (Bf (Aq e) (I.ok.cab x c hfn hc)))).trans (I.base.keep b o e n hb hx)
  ·obtain⟨sl,e1⟩:=I.base.slot b o e n hb hx
   exact⟨sl,(hs.2 b (Bq (Bf (Aq e) (I.ok.cab x c hfn hc)))).trans e1⟩
  ·obtain⟨o',e1⟩:=I.base.there b o e hx
   exact⟨o',(hs.2 b (Bq (Bf (Aq e) (I.ok.cab x c hfn hc)))).trans e1⟩
  ·by_cases hj:j=i
   ·subst hj
    rw[hi] at e1;cases e1;rw[Ci hiσ] at e2;cases e2;exact⟨u,r,.inr ⟨.inl hk,c,hc,hc'⟩⟩
   ·rw[Bv (Cq hj)] at e2
    obtain⟨u',r',q⟩:=hl j y v' e1 e2 e3;refine⟨u',r',?_⟩;rcases q with q|⟨k,c',e,z'⟩
    ·exact .inl q
    ·refine .inr ⟨k,c',e,z'.sameBut hs ?_⟩
     rintro rfl;exact hj (J8 hN e1 (I.ok.inj _ _ _ e hc▸hi))
  ·by_cases hcc:c'=c
   ·subst hcc;exact⟨_,hc'⟩
   ·obtain⟨w2,z2⟩:=I.cell y c' e
    exact⟨w2,z2.sameBut hs hcc⟩
  ·obtain⟨e,n,ne,nf,d⟩:=I.pin p hp
   refine⟨(hs.2 p.1 ?_).trans e,n,ne,nf,d⟩;intro q;rw[q,hoc] at e;have q':oc=p.2:=By e;exact d w' (by rw[<- q'];exact mw)
theorem WI{M:Model}{A:De}{E:Value->Ah->Prop}{i:Nat}{x:Str}{v:V}{u:Value}{Q:Unit->Ah->Prop}(I:cL X aa σ H s)(hN:X.N.Nodup)(hi:X.N[i]? =some x)(hx:G3 X.env.scope x)(r:b6 v u)
  (h: ∀s',cL X aa (σ.set i (some v)) H s'->Q () s') (hf:X.fn x=true∨X.env.scope.names.lookup x=some .local:=by first|exact .inl rfl|exact .inr rfl|assumption):wpAny M A (storeName X.env x u) Q E s:=
 NR I hN hi hx r (fun s' I' _=>h s' I') hf
theorem cL.call'{s':Ah}{ch:List Addr}(I:cL X aa σ H s)(ho:s'.os=s.os)(u:Un (DS X.stack) ch H H' s.heap s'.heap)(hok:SE X.prog X.w H' s'.heap)(hg:Jb s'.gens)
  (hch: ∀b∈ch,(b∈X.ex∨X.s₀.heap.objs.size<=b)/\b≠X.env.locals/\(∀x c,X.env.cells.lookup x=some c->c≠b)/\ ∀p∈X.pn++aa,p.1≠b):cL X aa σ H' s':=by
 obtain⟨h',g',d',t',o'⟩:=s';have e:o'=s.os:=ho;subst e;exact I.call (g':=g') (t':=t') (d':=d') u hok hg hch
end
abbrev XK:=Value->Option Addr->Hp->Prop
abbrev St:=List (Option V)
abbrev VK:=V->Hp->Prop
abbrev TE:=St->Hp->VK->Prop
abbrev TT:=St->Hp->(Bool->Hp->Prop)->Prop
abbrev TA:=St->Hp->(List V->Hp->Prop)->Prop
structure G0 where
 nx:St->Hp->Prop
 rt:VK
 bk:St->Hp->Prop:=fun _ _=>False
 ct:St->Hp->Prop:=fun _ _=>False
abbrev TS:=G0->St->Hp->Prop
def EP(X:Cx)(aa:List (Addr×Obj))(σ:St)(Q:VK)(u:Value)(s':Ah):Prop:= ∃v H',cL X aa σ H' s'/\b6 v u/\Q v H'
def TP(X:Cx)(aa:List (Addr×Obj))(σ:St)(Q:Bool->Hp->Prop)(b:Bool)(s':Ah):Prop:= ∃H',cL X aa σ H' s'/\Q b H'
def AP(X:Cx)(aa:List (Addr×Obj))(σ:St)(Q:List V->Hp->Prop)(us:List Value)(s':Ah):Prop:= ∃vs H',cL X aa σ H' s'/\bJ vs us/\Q vs H'
def SP(X:Cx)(aa:List (Addr×Obj))(D:G0)(f:Flow)(s':Ah):Prop:=
 match f with
 | .next=> ∃σ' H',cL X aa σ' H' s'/\D.nx σ' H'
 | .brk=> ∃σ' H',cL X aa σ' H' s'/\D.bk σ' H'
 | .cont=> ∃σ' H',cL X aa σ' H' s'/\D.ct σ' H'
 | .ret u=> ∃v σ' H',cL X aa σ' H' s'/\b6 v u/\D.rt v H'
def PE(X:Cx)(e:Expr)(t:TE):Prop:=
 ∀(aa:List (Addr×Obj)) (s:Ah) (σ:St) (H:Hp) (Q:VK),cL X aa σ H s->t σ H Q->wpAny (model X.prog X.w) X.A (eval e X.env) (EP X aa σ Q) X.xe s
def PT(X:Cx)(e:Expr)(t:TT):Prop:=
 ∀(aa:List (Addr×Obj)) (s:Ah) (σ:St) (H:Hp) (Q:Bool->Hp->Prop),cL X aa σ H s->t σ H Q->wpAny (model X.prog X.w) X.A (isTrue e X.env (eval e X.env)) (TP X aa σ Q) X.xe s
def PW(X:Cx)(e:Expr)(t:TT):Prop:=
 ∀(bh:Sem Value) (aa:List (Addr×Obj)) (s:Ah) (σ:St) (H:Hp) (Q:Bool->Hp->Prop),cL X aa σ H s->t σ H Q->wpAny (model X.prog X.w) X.A (isTrue e X.env bh) (TP X aa σ Q) X.xe s
theorem PW.pt{X:Cx}{e:Expr}{t:TT}(h:PW X e t):PT X e t:=h _
def PA(X:Cx)(es:List Expr)(t:TA):Prop:=
 ∀(pos:Pos) (aa:List (Addr×Obj)) (s:Ah) (σ:St) (H:Hp) (Q:List V->Hp->Prop),cL X aa σ H s->t σ H Q->wpAny (model X.prog X.w) X.A (spliced (Er pos (Ag es X.env))) (AP X aa σ Q) X.xe s
def PS(X:Cx)(st:Stmt)(t:TS):Prop:=
 ∀(aa:List (Addr×Obj)) (s:Ah) (σ:St) (H:Hp) (D:G0),cL X aa σ H s->t D σ H->wpAny (model X.prog X.w) X.A (exec st X.env) (SP X aa D) X.xe s
def PB(X:Cx)(st:List Stmt)(t:TS):Prop:=
 ∀(aa:List (Addr×Obj)) (s:Ah) (σ:St) (H:Hp) (D:G0),cL X aa σ H s->t D σ H->wpAny (model X.prog X.w) X.A (execs st X.env) (SP X aa D) X.xe s
theorem ZA{α:Type}{t:Sem α}{Q Q':α->Ah->Prop}{M:Model}{A:De}{E:Value->Ah->Prop}{s:Ah}(h:wpAny M A t Q E s)(hQ: ∀a s,Q a s->Q' a s):wpAny M A t Q' E s:=Cm h hQ fun _ _ x=>x
section
variable{X:Cx}
def U7(i:Nat):TE:=fun σ H Q=> ∃v,σ[i]? =some (some v)/\Q v H
def tC(v:V):TE:=fun _ H Q=>Q v H
theorem IB{i:Nat}{x:Str}{pos:Pos}(hN:X.N[i]? =some x)(hv:Vis X.env.scope x)(hd:(x==("__debug__":Str))=false:=by decide) (hcd:(x==("__classdict__":Str))=false:=by decide):PE X (.Name x pos) (U7 i):=by
 intro aa s σ H Q I h;obtain⟨v,e,h⟩:=h;obtain⟨m,hn,hl⟩:=I.loc;obtain⟨u,r,l⟩:=hl i x v hN e hv;have fin:EP X aa σ Q u s:=⟨v,H,I,r,h⟩;rcases l with⟨hk,hm⟩|⟨hk,c,hc,gu⟩
 ·exact Mv (wpAny_loadName_local I.ok.kind hk hn hm fin) hd
 ·rcases hk with hk|hk
  ·exact Mv (wpAny_loadName_cell I.ok.kind hk hc gu fin) hd
  ·exact Mv (wpAny_loadName_free I.ok.kind hk hc gu fin hcd) hd
theorem zE9{i j pos}:PE X (.Constant (.int i) j pos) (tC (.int i)):=fun _ _ _ H _ I h=>wpAny_Constant_int ⟨.int i,H,I.tok _,⟨_,rfl⟩,h⟩
theorem zHO{b j pos}:PE X (.Constant (.bool b) j pos) (tC (.bl b)):=fun _ _ _ H _ I h=>Constant_bool ⟨.bl b,H,I,rfl,h⟩
theorem zE7{j pos}:PE X (.Constant .none j pos) (tC .non):=fun _ _ _ H _ I h=>Constant_none ⟨.non,H,I,rfl,h⟩
theorem zE5{x j pos}:PE X (.Constant (.str x) j pos) (tC (.str x)):=fun _ _ _ H _ I h=>Calls.Constant_str ⟨.str x,H,I.tok _,⟨_,rfl⟩,h⟩
def Gl(X:Cx)(x:Str):Prop:=X.env.kindOf x=some .globalImplicit
theorem F2{E:Value->Ah->Prop}{aa:List (Addr×Obj)}{s:Ah}{σ:St}{H:Hp}{x:Str}{u:Value}{pos:Pos}{Q:Value->Ah->Prop}(I:cL X aa σ H s)(hg:Gl X x)(hm:X.mg x=some u)(h:Q u s)
  (hd:(x==("__debug__":Str))=false:=by decide):wpAny (model X.prog X.w) X.A (eval (.Name x pos) X.env) Q E s:=
 Ho I.ok.kind hg (Calls.loadGlobal_global (by rw[I.ok.glob];exact I.mod.glob.keeps I.bk) hm h) hd
theorem QV{E:Value->Ah->Prop}{aa:List (Addr×Obj)}{s:Ah}{σ:St}{H:Hp}{x:Str}{u:Value}{pos:Pos}{Q:Value->Ah->Prop}(I:cL X aa σ H s)(hg:Gl X x)(hm:X.mg x=none)(hv:Bo x=some u)(h:Q u s)
  (hn:x≠ "__name__":=by decide) (hd:(x==("__debug__":Str))=false:=by decide):wpAny (model X.prog X.w) X.A (eval (.Name x pos) X.env) Q E s:=by
 obtain⟨mb,h1,h2⟩:=I.mod.blt;exact Ho I.ok.kind hg (Calls.loadGlobal_builtin (by rw[I.ok.glob];exact I.mod.glob.keeps I.bk) hm (by rw[I.ok.blt];exact h1.keeps I.bk) ((h2 x hn).trans hv) h) hd
theorem zAS{x:Str}{v:V}{u:Value}{pos:Pos}(hg:Gl X x)(hm:X.mg x=some u)(r:b6 v u)(hd:(x==("__debug__":Str))=false:=by decide):PE X (.Name x pos) (tC v):=
 fun _ _ _ H _ I h=>F2 I hg hm ⟨v,H,I,r,h⟩ hd
theorem zAU{x:Str}{v:V}{u:Value}{pos:Pos}(hg:Gl X x)(hm:X.mg x=none)(hv:Bo x=some u)(r:b6 v u)(hn:x≠ "__name__":=by decide) (hd:(x==("__debug__":Str))=false:=by decide):PE X (.Name x pos) (tC v):=
 fun _ _ _ H _ I h=>QV I hg hm hv ⟨v,H,I,r,h⟩ hn hd
variable{a b:Expr}{ta tb:TE}{pos:Pos}
def tB(t:TE):TT:=fun σ H Q=>t σ H fun x H1=> ∃c,x= .bl c/\Q c H1
theorem zDU{e:Expr}{t:TE}(h:PE X e t)(he: ∀bh,isTrue e X.env bh=(do let v<- bh;standAt e.pos;Kg [v] (truthy v)):=by intro _;rfl):PT X e (tB t):=by
 intro aa s σ H Q I hw;refine isTrue_plain (ZA (h aa s σ H _ I hw) fun v s1 ⟨x,H1,I1,r1,q1⟩=> ?_) (he _);obtain⟨d,rfl,q⟩:=q1;cases r1;exact Dy ⟨H1,I1,q⟩
variable{tA tB':TT}{rest:List Expr}
def tAnd(t u:TT):TT:=fun σ H Q=>t σ H fun c H1=>if c=true then u σ H1 Q else Q false H1
def tOr(t u:TT):TT:=fun σ H Q=>t σ H fun c H1=>if c=true then Q true H1 else u σ H1 Q
def tNot(t:TT):TT:=fun σ H Q=>t σ H fun c H1=>Q (!c) H1
theorem zAG(ha:PT X a tA):PW X (.BoolOp .And [a] pos) tA:=by
 intro wh aa s σ H Q I h;refine isTrue_and (ZA (ha aa s σ H Q I h) fun c s1 e=> ?_);cases c with
 |true=>exact isTrue_and_nil e
 |false=>exact e
theorem zDS(ha:PT X a tA):PW X (.BoolOp .Or [a] pos) tA:=by
 intro wh aa s σ H Q I h;refine isTrue_or (ZA (ha aa s σ H Q I h) fun c s1 e=> ?_);cases c with
 |false=>exact isTrue_or_nil e
 |true=>exact e
theorem zDT(ha:PT X a tA)(hb:PW X (.BoolOp .And (b::rest) pos) tB'):PW X (.BoolOp .And (a::b::rest) pos) (tAnd tA tB'):=by
 intro wh aa s σ H Q I h;refine isTrue_and (ZA (ha aa s σ H _ I h) fun c s1 ⟨H1,I1,q1⟩=> ?_);cases c with
 |true=>exact hb wh aa s1 σ H1 Q I1 q1
 |false=>exact⟨H1,I1,q1⟩
theorem zHK(ha:PT X a tA)(hb:PW X (.BoolOp .Or (b::rest) pos) tB'):PW X (.BoolOp .Or (a::b::rest) pos) (tOr tA tB'):=by
 intro wh aa s σ H Q I h;refine isTrue_or (ZA (ha aa s σ H _ I h) fun c s1 ⟨H1,I1,q1⟩=> ?_);cases c with
 |true=>exact⟨H1,I1,q1⟩
 |false=>exact hb wh aa s1 σ H1 Q I1 q1
theorem zDV(ha:PT X a tA):PT X (.UnaryOp .Not a pos) (tNot tA):=by
 intro aa s σ H Q I h;exact isTrue_not (ha aa s σ H (fun c H1=>Q (!c) H1) I h)
def zGQ(ta tb:TE):TE:=fun σ H Q=>ta σ H fun x H1=> ∃c,x= .bl c/\if c=true then tb σ H1 Q else Q (.bl false) H1
theorem zE6{op}{t:TE}(h:PE X a t):PE X (.BoolOp op [a] pos) t:=fun aa s σ H Q I hw=>BoolOp_one (h aa s σ H Q I hw)
theorem zEA(ha:PE X a ta)(hb:PE X (.BoolOp .And (b::rest) pos) tb):PE X (.BoolOp .And (a::b::rest) pos) (zGQ ta tb):=by
 intro aa s σ H Q I h;refine BoolOp_and (ZA (ha aa s σ H _ I h) fun v s1 ⟨x,H1,I1,r1,q1⟩=> ?_);obtain⟨c,rfl,q1⟩:=q1;cases r1;refine Dy ?_;cases c with
 |true=>exact hb aa s1 σ H1 Q I1 q1
 |false=>exact⟨.bl false,H1,I1,rfl,q1⟩
def tIf(t:TT)(ta tb:TE):TE:=fun σ H Q=>t σ H fun c H1=>if c=true then ta σ H1 Q else tb σ H1 Q
theorem KJ{c:Expr}(hc:PT X c tA)(ha:PE X a ta)(hb:PE X b tb):PE X (.IfExp c a b pos) (tIf tA ta tb):=by
 intro aa s σ H Q I h;refine wpAny_IfExp (ZA (hc aa s σ H _ I h) fun d s1 ⟨H1,I1,q1⟩=> ?_);cases d with
 |true=>exact ha aa s1 σ H1 Q I1 q1
 |false=>exact hb aa s1 σ H1 Q I1 q1
end
def WZ(K:An)(H:Hp)(a:Addr)(xs:List V):Prop:=
 Rd H a (.lst xs)∨
  ∃(o:Obj) (its:Array Value) (n:Nat),K.lookup a=some o/\o.cls= .type "list" /\o.dict=none/\o.data= .seq its n/\its.size<=sizeLine/\bJ xs its.toList
def VR(K:An)(H:Hp)(a:Addr)(xs:List V):Prop:=
 Rd H a (.tup xs)∨
  ∃(o:Obj) (its:Array Value) (n:Nat),K.lookup a=some o/\o.cls= .type "tuple" /\o.data= .seq its n/\its.size<=sizeLine/\bJ xs its.toList
noncomputable def absV:Value->Option V
 | .none=>some .non
 | .bool b=>some (.bl b)
 | .int i _=>some (.int i)
 | .str x _=>some (.str x)
 | .bytes b _=>some (.byt b)
 | .float b _=>some (.flt b)
 | .ref a=>some (.ref a)
 | .type n=>some (.ty n)
 |_=>none
theorem b6.abs{x:V}{u:Value}(r:b6 x u):absV u=some x:=by
 cases x with
 |non=>cases r;rfl
 |bl _=>cases r;rfl
 |int _=>obtain⟨t,rfl⟩:=r;rfl
 |str _=>obtain⟨t,rfl⟩:=r;rfl
 |byt _=>obtain⟨t,rfl⟩:=r;rfl
 |flt _=>obtain⟨t,rfl⟩:=r;rfl
 |ref _=>cases r;rfl
 |ty _=>cases r;rfl
theorem b6.inj{x y:V}{u:Value}(r:b6 x u)(q:b6 y u):x=y:=By (r.abs.symm.trans q.abs)
theorem bJ.inj: ∀{xs ys:List V} {us:List Value},bJ xs us->bJ ys us->xs=ys
 |_,_,_,.nil,.nil=>rfl
 |_,_,_,.cons r t,.cons r' t'=>by rw[r.inj r',bJ.inj t t']
section
variable{X:Cx}{aa:List (Addr×Obj)}{σ:St}{H:Hp}{s:Ah}{a:Addr}{xs ys:List V}
theorem WZ.of{K:An}(h:H a=some (.lst xs)):WZ K H a xs:= .inl (.inl h)
theorem VR.of{K:An}(h:H a=some (.tup xs)):VR K H a xs:= .inl (.inl h)
theorem cL.list(I:cL X aa σ H s)(h:WZ X.K H a xs): ∃its:List Value,bJ xs its/\PlainL s.heap a its.toArray/\xs.length<=sizeLine:=by
 rcases h with h|⟨o,its,n,hk,hc,hd,hs,hz,r⟩
 ·obtain⟨z,its,n,r,e⟩:=h.ok I.hok
  exact⟨its,r,⟨_,n,e,rfl,rfl,rfl⟩,z⟩
 ·refine ⟨its.toList,r,⟨o,n,I.kIn a o hk,hc,hd,by simpa using hs⟩,?_⟩
  have e:=r.length;simp only[Ea] at e;lia
theorem cL.tuple(I:cL X aa σ H s)(h:VR X.K H a xs): ∃its:List Value,bJ xs its/\IsTup s.heap a its.toArray/\xs.length<=sizeLine:=by
 rcases h with h|⟨o,its,n,hk,hc,hs,hz,r⟩
 ·obtain⟨z,its,r,p⟩:=h.ok I.hok
  exact⟨its,r,p,z⟩
 ·refine ⟨its.toList,r,⟨o,I.kIn a o hk,hc,n,by simpa using hs⟩,?_⟩
  have e:=r.length;simp only[Ea] at e;lia
theorem cL.list_inj(I:cL X aa σ H s)(h:WZ X.K H a xs)(h':WZ X.K H a ys):xs=ys:=by
 obtain⟨its,r,⟨o,n,e,_,_,d⟩,_⟩:=I.list h;obtain⟨its',r',⟨o',n',e',_,_,d'⟩,_⟩:=I.list h';rw[e] at e';cases e';rw[d] at d';injection d' with d1 _;have:its=its':=by simpa using congrArg Ni d1
 subst this;exact r.inj r'
theorem cL.tuple_inj(I:cL X aa σ H s)(h:VR X.K H a xs)(h':VR X.K H a ys):xs=ys:=by
 obtain⟨its,r,⟨o,e,_,n,d⟩,_⟩:=I.tuple h;obtain⟨its',r',⟨o',e',_,n',d'⟩,_⟩:=I.tuple h';rw[e] at e';cases e';rw[d] at d';injection d' with d1 _;have:its=its':=by simpa using congrArg Ni d1
 subst this;exact r.inj r'
end
abbrev Cx.wish(X:Cx)(E:Value->Ah->Prop):Cx:={X with xe:=E}
abbrev Cx.nox(X:Cx):Cx:=X.wish fun _ _=>False
theorem Cx.Ok.wish{X:Cx}(ok:X.Ok)(E:Value->Ah->Prop):(X.wish E).Ok:=
 ⟨ok.mod,ok.kind,ok.glob,ok.blt,ok.above,ok.inj,ok.has,ok.cab,ok.hd,ok.frames,ok.stk,ok.exf,ok.bs,ok.bsz,ok.noex,ok.exfs,ok.funs,ok.frf⟩
theorem Cx.Ok.unwish{X:Cx}{E:Value->Ah->Prop}(ok:(X.wish E).Ok):X.Ok:=
 ⟨ok.mod,ok.kind,ok.glob,ok.blt,ok.above,ok.inj,ok.has,ok.cab,ok.hd,ok.frames,ok.stk,ok.exf,ok.bs,ok.bsz,ok.noex,ok.exfs,ok.funs,ok.frf⟩
section
variable{X:Cx}{aa:List (Addr×Obj)}{σ:St}{H:Hp}{s:Ah}{E:Value->Ah->Prop}
theorem cL.wish(I:cL X aa σ H s)(E:Value->Ah->Prop):cL (X.wish E) aa σ H s:=⟨I.ok.wish E,I.os,I.bare,I.base,I.loc,I.cell,I.free,I.freeC,I.pin,I.hok,I.len⟩
theorem cL.unwish(I:cL (X.wish E) aa σ H s):cL X aa σ H s:=⟨I.ok.unwish,I.os,I.bare,I.base,I.loc,I.cell,I.free,I.freeC,I.pin,I.hok,I.len⟩
theorem SP.unwish{D:G0}{f:Flow}{s':Ah}(h:SP (X.wish E) aa D f s'):SP X aa D f s':=by
 cases f with
 |next=>obtain⟨σ',H',I,q⟩:=h;exact⟨σ',H',I.unwish,q⟩
 |brk=>obtain⟨σ',H',I,q⟩:=h;exact⟨σ',H',I.unwish,q⟩
 |cont=>obtain⟨σ',H',I,q⟩:=h;exact⟨σ',H',I.unwish,q⟩
 |ret u=>obtain⟨v,σ',H',I,r,q⟩:=h;exact⟨v,σ',H',I.unwish,r,q⟩
theorem PB.nox{st:List Stmt}{t:TS}(h:PB X.nox st t):PB X st t:=fun aa s σ H D I hw=>
 Cm (h aa s σ H D (I.wish _) hw) (fun _ _ q=>q.unwish) fun _ _ z=>Fi z
end
section
variable{X:Cx}{st:Stmt}{rest:List Stmt}{t u:TS}{e:Expr}{te:TE}{pos:Pos}
def zGN:TS:=fun D σ H=>D.nx σ H
def tSeq(t u:TS):TS:=fun D σ H=>t {D with nx:=u D} σ H
theorem GG:PB X [] zGN:=fun _ _ σ H _ I h=>wpAny_execs_nil ⟨σ,H,I,h⟩
theorem KM(h1:PS X st t)(h2:PB X rest u):PB X (st::rest) (tSeq t u):=by
 intro aa s σ H D I h;refine wpAny_execs_cons (ZA (h1 aa s σ H {D with nx:=u D} I h) fun f s1 q=> ?_);cases f with
 |next=>
  obtain⟨σ',H',I',q⟩:=q;exact h2 aa s1 σ' H' D I' q
 |ret v=>exact q
 |brk=>exact q
 |cont=>exact q
theorem cL.quiet{aa:List (Addr×Obj)}{σ:St}{H:Hp}{s:Ah}(I:cL X aa σ H s):interactive X.env=false:=by simp[interactive,I.ok.kind]
def zGP(te:TE):TS:=fun D σ H=>te σ H fun _ H1=>D.nx σ H1
theorem zAK(he:PE X e te)(hs:Gx e none pos.line X.env=pure false:=by rfl):PS X (.Expr e pos) (zGP te):=by
 intro aa s σ H D I h;exact wpAny_Expr_any (ZA (he aa s σ H _ I h) fun v s1 ⟨x,H1,I1,r1,q1⟩=>⟨σ,H1,I1,q1⟩) I.quiet hs
def tRet(te:TE):TS:=fun D σ H=>te σ H D.rt
theorem zDX(he:PE X e te):PS X (.Return (some e) pos) (tRet te):=by
 intro aa s σ H D I h;exact wpAny_Return_some (ZA (he aa s σ H _ I h) fun v s1 ⟨x,H1,I1,r1,q1⟩=>⟨x,σ,H1,I1,r1,q1⟩)
def tIfS(c:TT)(t u:TS):TS:=fun D σ H=>c σ H fun b H1=>if b=true then t D σ H1 else u D σ H1
theorem zHL{c:Expr}{a b:List Stmt}{tc:TT}(hc:PT X c tc)(ha:PB X a t)(hb:PB X b u):PS X (.If c a b pos) (tIfS tc t u):=by
 intro aa s σ H D I h;refine wpAny_If (ZA (hc aa s σ H _ I h) fun d s1 ⟨H1,I1,q1⟩=> ?_);cases d with
 |true=>exact ha aa s1 σ H1 D I1 q1
 |false=>exact hb aa s1 σ H1 D I1 q1
end
abbrev TG:=V->St->Hp->(St->Hp->Prop)->Prop
abbrev D2:=List V->St->Hp->(St->Hp->Prop)->Prop
def PG(X:Cx)(bo:Expr)(t:TG):Prop:=
 ∀(aa:List (Addr×Obj)) (s:Ah) (σ:St) (H:Hp) (v:V) (u:Value) (Q:St->Hp->Prop),cL X aa σ H s->b6 v u->t v σ H Q→
  wpAny (model X.prog X.w) X.A (assign bo X.env u) (fun _ s'=> ∃σ' H',cL X aa σ' H' s'/\Q σ' H') X.xe s
def FM(X:Cx)(ts:List Expr)(t:D2):Prop:=
 ∀(aa:List (Addr×Obj)) (s:Ah) (σ:St) (H:Hp) (vs:List V) (us:List Value) (Q:St->Hp->Prop),cL X aa σ H s->bJ vs us->t vs σ H Q→
  wpAny (model X.prog X.w) X.A (assignInOrder ((assignEach ts X.env).map (·.2)) us) (fun _ s'=> ∃σ' H',cL X aa σ' H' s'/\Q σ' H') X.xe s
abbrev TSet:=V->V->V->Hp->(Hp->Prop)->Prop
def PSet(X:Cx)(t:TSet):Prop:=
 ∀(aa:List (Addr×Obj)) (s:Ah) (σ:St) (H:Hp) (o i v:V) (ov iv u:Value) (Q:Hp->Prop),cL X aa σ H s->b6 o ov->b6 i iv->b6 v u->t o i v H Q→
  wpAny (model X.prog X.w) X.A (setItem ov iv u) (fun _ s'=> ∃H',cL X aa σ H' s'/\Q H') X.xe s
section
variable{X:Cx}{pos:Pos}
def FW(i:Nat):TG:=fun v σ H Q=>Q (σ.set i (some v)) H
theorem UM{i:Nat}{x:Str}(hN:X.N.Nodup)(hi:X.N[i]? =some x)(hx:G3 X.env.scope x)(hf:X.fn x=true∨X.env.scope.names.lookup x=some .local:=by first|exact .inl rfl|exact .inr rfl|assumption):PG X (.Name x pos) (FW i):=by
 intro aa s σ H v u Q I r h;exact Gk (WI I hN hi hx r (fun s' I'=>⟨_,H,I',h⟩) hf)
def gNil:D2:=fun vs σ H Q=>vs=[]/\Q σ H
def zIL(t:TG)(u:D2):D2:=fun vs σ H Q=> ∃v r,vs=v::r/\t v σ H fun σ' H'=>u r σ' H' Q
theorem L8:FM X [] gNil:=by
 intro aa s σ H vs us Q I r h;obtain⟨e,h⟩:=h;subst e;cases r;exact Ia ⟨σ,H,I,h⟩
theorem WE{e:Expr}{es:List Expr}{t:TG}{u:D2}(h1:PG X e t)(h2:FM X es u)
  (hs:(assignEach (e::es) X.env).map (·.2)=assign e X.env::(assignEach es X.env).map (·.2):=by rfl):FM X (e::es) (zIL t u):=by
 intro aa s σ H vs us Q I r h;obtain⟨v,vr,e1,h⟩:=h;subst e1;cases r with
 |cons r rr=>
  rw[hs];refine Fc (ZA (h1 aa s σ H _ _ _ I r h) fun _ s1 ⟨σ1,H1,I1,q1⟩=> ?_);exact h2 aa s1 σ1 H1 _ _ Q I1 rr q1
def gTup(K:An)(n:Nat)(t:D2):TG:=fun v σ H Q=> ∃a xs,v= .ref a/\VR K H a xs/\xs.length=n/\t xs σ H Q
theorem zE2{es:List Expr}{k:Nat}{t:D2}{n:Nat}(hc:X.calm=true)(h:FM X es t)
  (hn:(assignEach es X.env).length=n:=by rfl) (hst:(assignEach es X.env).findIdx? (·.1)=none:=by rfl):PG X (.Tuple es k pos) (gTup X.K n t):=by
 intro aa s σ H v u Q I r hw;obtain⟨a,xs,e1,hq,hl,hw⟩:=hw;subst e1;cases r;obtain⟨its,rv,ht,hz⟩:=I.tuple hq;refine assign_Tuple_tuple (I.ok.hd hc) ht (by simp[hn,<- hl,rv.length]) hst fun h' hx=> ?_;have I1:cL X aa σ H {s with heap:=h'}:=I.kept (t':=s.toks) fun b o e=>hx b o (Bq (Aq e)) e;exact h aa _ σ H xs _ Q I1 (by simpa using rv) hw
def gSub(to ti:TE)(t:TSet):TG:=fun v σ H Q=>to σ H fun o H1=>ti σ H1 fun i H2=>t o i v H2 fun H3=>Q σ H3
theorem zE3{o i:Expr}{to ti:TE}{t:TSet}(ho:PE X o to)(hi:PE X i ti)(hs:PSet X t)
  (ha: ∀v,assign (.Subscript o i pos) X.env v=(do
   let ov<- Kg [v] (eval o X.env)
   let iv<- Kg [v,ov] (eval i X.env)
   standAt pos
   Kg [v,ov,iv] (setItem ov iv v)
   release [v,ov,iv] []):=by intro _;rfl):PG X (.Subscript o i pos) (gSub to ti t):=by
 intro aa s σ H v u Q I r h;rw[ha];refine Ac (Cg (ZA (ho aa s σ H _ I h) fun ov s1 ⟨x,H1,I1,r1,q1⟩=> ?_));refine Ac (Cg (ZA (hi aa s1 σ H1 _ I1 q1) fun iv s2 ⟨y,H2,I2,r2,q2⟩=> ?_));refine Ac (Ft (Ac (Cg (ZA (hs aa s2 σ H2 x y v ov iv u _ I2 r1 r2 r q2) fun _ s3 ⟨H3,I3,q3⟩=> ?_))));exact wpAny_release ⟨σ,H3,I3,q3⟩
def tAsg(te:TE)(g:TG):TS:=fun D σ H=>te σ H fun x H1=>g x σ H1 D.nx
theorem OU{tg e:Expr}{te:TE}{g:TG}(he:PE X e te)(hg:PG X tg g)(hs:Ex [tg] e pos.line X.env=pure false:=by rfl)(hw:Ey [tg] e X.env=pure none:=by rfl)
  (h1:(assignEach [tg] X.env).map (·.2)=[assign tg X.env]:=by rfl):PS X (.Assign [tg] e pos) (tAsg te g):=by
 intro aa s σ H D I h;refine wpAny_Assign_stores (ZA (he aa s σ H _ I h) fun v s1 ⟨x,H1,I1,r1,q1⟩=> ?_) hs hw;rw[h1];exact ZA (hg aa s1 σ H1 x v _ I1 r1 q1) fun _ s2 q=>q
theorem zDW{i:Nat}{x:Str}{e:Expr}{te:TE}{ar:Pos}(hN:X.N.Nodup)(hi:X.N[i]? =some x)(hx:G3 X.env.scope x)(he:PE X e te)(hs:Gx e (some (.Name x ar)) pos.line X.env=pure false:=by rfl)(hf:X.fn x=true∨X.env.scope.names.lookup x=some .local:=by first|exact .inl rfl|exact .inr rfl|assumption):
  PS X (.Assign [.Name x ar] e pos) (tAsg te (FW i)):=by
 intro aa s σ H D I h;refine wpAny_Assign_Name (ZA (he aa s σ H _ I h) fun v s1 ⟨y,H1,I1,r1,q1⟩=> ?_) hs;exact WI I1 hN hi hx r1 (fun s2 I2=>⟨_,H1,I2,q1⟩) hf
def tPar(i j:Nat)(ta:TA):TS:=fun D σ H=>ta σ H fun vs H1=> ∃v w,vs=[v,w]/\D.nx ((σ.set i (some v)).set j (some w)) H1
theorem zDY{i j:Nat}{x y:Str}{a b:Expr}{ta:TA}{px py pt:Pos}{kt k2 pt2}(hc:X.calm=true)(hN:X.N.Nodup)(hi:X.N[i]? =some x)(hj:X.N[j]? =some y)(hij:i≠j)
  (hx:X.env.scope.names.lookup x=some .local) (hy:X.env.scope.names.lookup y=some .local) (ha:PA X [a,b] ta)
  (hw:Ey [.Tuple [.Name x px,.Name y py] kt pt] (.Tuple [a,b] k2 pt2) X.env=pure (some [x,y]))
  (hs:Ex [.Tuple [.Name x px,.Name y py] kt pt] (.Tuple [a,b] k2 pt2) pos.line X.env=pure false:=by rfl):
  PS X (.Assign [.Tuple [.Name x px,.Name y py] kt pt] (.Tuple [a,b] k2 pt2) pos) (tPar i j ta):=by
 intro aa s σ H D I h;rw[exec_Assign_arm];refine Ac (Ft ?_);rw[hs];refine Ac (Ao ?_);rw[if_neg (by decide)];refine Ac (Tuple_ (ZA (ha _ aa s σ H _ I h) fun us s1 ⟨vs,H1,I1,r1,q1⟩=> ?_));obtain⟨v,w,e1,q1⟩:=q1;subst e1;obtain⟨u1,u2,rfl,rv,rw'⟩: ∃u1 u2,us=[u1,u2]/\b6 v u1/\b6 w u2:=by
  cases r1 with
  |cons p q=>
   cases q with
   |cons p' q'=>
    cases q';exact⟨_,_,rfl,p,p'⟩
 refine Cw ?_ (by show 2<=sizeLine;decide);have I2:cL X aa σ H1 {s1 with heap:=s1.heap.push {cls:= .type "tuple",data:= .seq [u1,u2].toArray}}:=I1.kept (t':=s1.toks) fun b o e=>Ae _ e;rw[hw];refine Ac (Ao ?_);show wpAny (model X.prog X.w) X.A (do rule "assign.swapped-stores";let items<- Ig (.ref s1.heap.objs.size) 2 none;assignInOrder [fun v=>Na X.env y v,fun v=>Na X.env x v] items.reverse;pure Flow.next) _ _ _;refine Ac (Ju (Ac (unpackItems_tuple (items:= #[u1,u2]) (I.ok.hd hc) (Jd s1.heap _) fun h' hx'=> ?_)));have I3:=I2.kept (h':=h') (t':=s1.toks) fun b o e=>hx' b o (Bq (Aq e)) e;show wpAny _ _ (assignInOrder [fun v=>Na X.env y v,fun v=>Na X.env x v] [u2,u1]>>=fun _=>pure Flow.next) _ _ _;refine Ac (Fc (wpAny_bindName (WI I3 hN hj (.inl hy) rw' (fun s2 I4=> ?_) (.inr hy))));refine Fc (wpAny_bindName (WI I4 hN hi (.inl hx) rv (fun s3 I5=>Ia (Ao ?_)) (.inr hx)));rw[Fu _ _ (Cq hij)] at I5;exact⟨_,H1,I5,q1⟩
end
structure It where
 go:Nat->Hp->Prop
 yld:Nat->Hp->V->Hp->Prop
 stop:Nat->Hp->Prop
def NX(X:Cx)(aa:List (Addr×Obj))(H:Hp)(b:Addr):Prop:=
 H b=none/\b≠X.env.locals/\b∉X.fs/\(b∈X.ex∨X.s₀.heap.objs.size<=b)/\(∀x c,X.env.cells.lookup x=some c->c≠b)/\ ∀p∈X.pn++aa,p.1≠b
theorem cL.fpOk{X:Cx}{aa:List (Addr×Obj)}{σ:St}{H H':Hp}{s:Ah}{b:Addr}(I:cL X aa σ H s)(hb:s.heap.objs.size<=b)(hn:H' b=none):NX X aa H' b:=by
 refine⟨hn,Fo (Bf I.lt hb),I.nofs hb,.inr (Eh I.sz hb),fun x c e z=> ?_,fun p hp z=> ?_⟩
 ·obtain⟨v,q⟩:=I.cell x c e
  exact absurd (Bf q.lt (by rw[z];exact hb)) (Cp _)
 ·exact absurd (Bf (Aq (I.pin p hp).1) (by rw[z];exact hb)) (Cp _)
structure G7(P:Bn)(w:World)(K:An)(tg:Expr)(J:It)(fp:List Addr)(it:Addr)(tn:Nat->Heap->Prop):Prop where
 mem:it∈fp
 obj: ∀i h,tn i h-> ∀b∈fp,∃o,h.get? b=some o/\ ∀v,o.data≠ .cell v
 keep: ∀i h h',tn i h->(∀b∈fp,∀o,h.get? b=some o->h'.get? b=some o)->tn i h'
 item: ∀(X:Cx),X.prog=P->X.w=w->X.K=K->X.calm=true-> ∀(i:Nat) (aa:List (Addr×Obj)) (s:Ah) (σ:St) (H:Hp) (E:Value->Ah->Prop),cL X aa σ H s->(∀b∈fp,NX X aa H b)->tn i s.heap->J.go i H→
  wpAny (model P w) X.A (pyNext (.ref it)) (fun r s1=> ∃u,r=some u∧
   wpAny (model P w) X.A (Hg tg (.ref it) u) (fun _ s2=> ∃x H',cL X aa σ H' s2/\b6 x u/\J.yld i H x H'/\tn (i+1) s2.heap/\ ∀b∈fp,H' b=none) E s1) E s
 done: ∀(X:Cx),X.prog=P->X.w=w->X.K=K->X.calm=true-> ∀(i:Nat) (aa:List (Addr×Obj)) (s:Ah) (σ:St) (H:Hp) (E:Value->Ah->Prop),cL X aa σ H s->(∀b∈fp,NX X aa H b)->tn i s.heap->J.stop i H→
  wpAny (model P w) X.A (pyNext (.ref it)) (fun r s1=>r=none/\cL X aa σ H s1) E s
 self: ∀(A:De) (i:Nat) (s:Ah) (Q:Value->Ah->Prop) (E:Value->Ah->Prop),tn i s.heap->Q (.ref it) s->wpAny (model P w) A (pyIter (.ref it)) Q E s
abbrev TI:=St->Hp->(It->Hp->Prop)->Prop
def PIE(X:Cx)(aa:List (Addr×Obj))(σ:St)(tg:Expr)(R:It->Hp->Prop)(itv:Value)(s2:Ah):Prop:=
 ∃(it:Addr) (fp:List Addr) (tn:Nat->Heap->Prop) (J:It) (H':Hp),itv= .ref it/\cL X aa σ H' s2/\G7 X.prog X.w X.K tg J fp it tn/\tn 0 s2.heap/\(∀b∈fp,NX X aa H' b)/\R J H'
def PI(X:Cx)(tg iter:Expr)(wi:TI):Prop:=
 ∀(aa:List (Addr×Obj)) (s:Ah) (σ:St) (H:Hp) (R:It->Hp->Prop),cL X aa σ H s->wi σ H R→
  wpAny (model X.prog X.w) X.A (eval iter X.env) (fun v s1=>wpAny (model X.prog X.w) X.A (pyIter v) (PIE X aa σ tg R) X.xe s1) X.xe s
theorem AO{M:Model}{A:De}{E:Value->Ah->Prop}{s:Ah}{tg:Expr}{it:Addr}{u:Value}{o:Obj}{n:String}{vs:Array Value}{Q:Unit->Ah->Prop}(ho:s.heap.get? it=some o)(hc:o.cls= .type n)(hd:o.data= .fields vs)
    (hn:["enumerate","zip","dict_itemiterator","dict_reverseitemiterator","odict_iterator","itertools.zip_longest","itertools.pairwise"].contains n=false) (hQ:Q () s):wpAny M A (Hg tg (.ref it) u) Q E s:=by
  unfold Hg;cases tg<;>first
    |exact Ao hQ
    |(cases u<;>first
        |exact Ao hQ
        | (refine Ac (wpAny_load ho ?_)
           rw[hc,hd];show wpAny M A (if(["enumerate","zip","dict_itemiterator","dict_reverseitemiterator","odict_iterator","itertools.zip_longest","itertools.pairwise"].contains n && vs[0]? ==some (rawInt _))=true then _ else _) Q E s;rw[if_neg (by intro h;rw[hn,Bool.false_and] at h;cases h)];exact Ao hQ))
def Itl(K:An)(a:Addr):It:=
 ⟨fun i H=> ∃xs x,WZ K H a xs/\xs[i]? =some x,fun i H x H'=>H'=H/\ ∀xs,WZ K H a xs->xs[i]? =some x,fun i H=> ∃xs,WZ K H a xs/\xs.length<=i⟩
def Itt(K:An)(a:Addr):It:=
 ⟨fun i H=> ∃xs x,VR K H a xs/\xs[i]? =some x,fun i H x H'=>H'=H/\ ∀xs,VR K H a xs->xs[i]? =some x,fun i H=> ∃xs,VR K H a xs/\xs.length<=i⟩
def Itr(lo:Int)(n:Nat):It:=⟨fun i _=>i<n,fun i H x H'=>H'=H/\x= .int (lo+i),fun i _=>n<=i⟩
theorem FE{P:Bn}{w:World}{K:An}{tg:Expr}(a it:Addr):G7 P w K tg (Itl K a) [it] it (fun i h=>h.IsListIter it a i) where
 mem:=by simp
 obj:=fun i h st b hb=>by
  have e:b=it:=by simpa using hb
  subst e;obtain⟨o,e,c,d⟩:=st;exact⟨o,e,fun v z=>by rw[d] at z;cases z⟩
 keep:=fun i h h' st k=>st.at fun o e=>k it (by simp) o e
 item:=by
  intro X hP hw hK hc i aa s σ H E I hf st hg;subst hP hw hK;obtain⟨xs,x,hq,hx⟩:=hg;obtain⟨its,rv,p,hz⟩:=I.list hq;obtain⟨u,hu,ru⟩:=rv.get hx;obtain⟨f0,f1,f2,f3,f4,f5⟩:=hf it (by simp);refine Iv st p.isList (x:=u) (by simpa using hu) fun h' st' sb=> ?_;have I1:cL X aa σ H {s with heap:=h'}:=I.turned (t':=s.toks) (fun b o hb e=>(sb.2 b hb).trans e) f0 f1 f3 f4 f5;obtain⟨o,e,c,d⟩:=id st';exact⟨u,rfl,AO (s:={s with heap:=h'}) e c d (by decide) ⟨x,H,I1,ru,⟨rfl,fun ys hy=>by rw[I.list_inj hy hq];exact hx⟩,st',fun b hb=>(hf b hb).1⟩⟩
 done:=by
  intro X hP hw hK hc i aa s σ H E I hf st hg;subst hP hw hK;obtain⟨xs,hq,hx⟩:=hg;obtain⟨its,rv,p,hz⟩:=I.list hq;obtain⟨f0,f1,f2,f3,f4,f5⟩:=hf it (by simp);have hl:=rv.length;exact Je (I.ok.hd hc) st p.isList (by simp;lia) fun h' eb=>⟨rfl,I.turned (t':=s.toks) (fun b o hb e=>eb b o hb e) f0 f1 f3 f4 f5⟩
 self:=fun _ _ _ _ _ st h=>wpAny_pyIter_listiter st h
theorem IK{P:Bn}{w:World}{K:An}{tg:Expr}(a it:Addr):G7 P w K tg (Itt K a) [it] it (fun i h=>h.IsTupleIter it a i) where
 mem:=by simp
 obj:=fun i h st b hb=>by
  have e:b=it:=by simpa using hb
  subst e;obtain⟨o,e,c,d⟩:=st;exact⟨o,e,fun v z=>by rw[d] at z;cases z⟩
 keep:=fun i h h' st k=>st.at fun o e=>k it (by simp) o e
 item:=by
  intro X hP hw hK hc i aa s σ H E I hf st hg;subst hP hw hK;obtain⟨xs,x,hq,hx⟩:=hg;obtain⟨its,rv,p,hz⟩:=I.tuple hq;obtain⟨u,hu,ru⟩:=rv.get hx;obtain⟨f0,f1,f2,f3,f4,f5⟩:=hf it (by simp);refine wpAny_pyNext_tuple_item st (show s.heap.IsTuple a its.toArray from p) (x:=u) (by simpa using hu) fun h' st' sb=> ?_;have I1:cL X aa σ H {s with heap:=h'}:=I.turned (t':=s.toks) (fun b o hb e=>(sb.2 b hb).trans e) f0 f1 f3 f4 f5;obtain⟨o,e,c,d⟩:=id st';exact⟨u,rfl,AO (s:={s with heap:=h'}) e c d (by decide) ⟨x,H,I1,ru,⟨rfl,fun ys hy=>by rw[I.tuple_inj hy hq];exact hx⟩,st',fun b hb=>(hf b hb).1⟩⟩
 done:=by
  intro X hP hw hK hc i aa s σ H E I hf st hg;subst hP hw hK;obtain⟨xs,hq,hx⟩:=hg;obtain⟨its,rv,p,hz⟩:=I.tuple hq;obtain⟨f0,f1,f2,f3,f4,f5⟩:=hf it (by simp);have hl:=rv.length;exact wpAny_pyNext_tuple_end (I.ok.hd hc) st (show s.heap.IsTuple a its.toArray from p) (by simp;lia) fun h' eb=>⟨rfl,I.turned (t':=s.toks) (fun b o hb e=>eb b o hb e) f0 f1 f3 f4 f5⟩
 self:=fun _ _ _ _ _ st h=>wpAny_pyIter_tupleiter st h
theorem IJ{P:Bn}{w:World}{K:PySem.W.Frag}{tg:Expr}(it:Addr)(lo:Int)(n:Nat):G7 P w K tg (Itr lo n) [it] it (fun i h=>IsRangeIter h it (lo+(i:Nat)*1) ((n:Int) - (i:Nat)) 1) where
 mem:=by simp
 obj:=fun i h st b hb=>by
  have e:b=it:=by simpa using hb
  subst e;exact⟨_,st,fun v z=>by
   have z':Data.fields _=Data.cell v:=z;cases z'⟩
 keep:=fun i h h' st k=>k it (by simp) _ st
 item:=by
  intro X hP hw hK hc i aa s σ H E I hf st hg;subst hP hw hK;obtain⟨f0,f1,f2,f3,f4,f5⟩:=hf it (by simp);have W:=Walks.range (prog:=X.prog) (w:=X.w) (I.ok.hd hc) it lo 1 n;refine W.item i s _ _ hg st fun v h' tk hv st' kk=> ?_;obtain⟨t,rfl⟩:=hv;have I1:cL X aa σ H {s with heap:=h',toks:=tk}:=I.turned (fun b o hb e=>kk b o (by simpa using hb) e) f0 f1 f3 f4 f5;refine⟨_,rfl,AO (s:={s with heap:=h',toks:=tk}) (n:= "range_iterator") st' rfl rfl (by decide) ⟨.int (lo+i),H,I1,⟨t,?_⟩,⟨rfl,rfl⟩,st',fun b hb=>(hf b hb).1⟩⟩;rw[Int.mul_one]
 done:=by
  intro X hP hw hK hc i aa s σ H E I hf st hg;subst hP hw hK;obtain⟨f0,f1,f2,f3,f4,f5⟩:=hf it (by simp);exact wpAny_pyNext_range_end (I.ok.hd hc) st (by have:n<=i:=hg;lia) fun h' eb=>⟨rfl,I.turned (t':=s.toks) (fun b o hb e=>eb b o hb e) f0 f1 f3 f4 f5⟩
 self:=fun _ _ _ _ _ st h=>wpAny_pyIter_rangeiter st h
section
variable{X:Cx}{tg:Expr}
def zCD(K:An)(tl:TE):TI:=fun σ H R=>tl σ H fun x H1=> ∃a,x= .ref a/\(∃xs,WZ K H1 a xs)/\R (Itl K a) H1
def iTup(K:An)(tl:TE):TI:=fun σ H R=>tl σ H fun x H1=> ∃a,x= .ref a/\(∃xs,VR K H1 a xs)/\R (Itt K a) H1
theorem zAP{l:Expr}{tl:TE}(hl:PE X l tl):PI X tg l (zCD X.K tl):=by
 intro aa s σ H R I h;refine ZA (hl aa s σ H _ I h) fun v s1 ⟨x,H1,I1,r1,q1⟩=> ?_;obtain⟨a,e,⟨xs,hq⟩,q⟩:=q1;subst e;cases r1;obtain⟨its,rv,p,hz⟩:=I1.list hq;refine Gm p.isList ?_;refine⟨s1.heap.objs.size,[s1.heap.objs.size],_,_,H1,rfl,I1.kept (t':=s1.toks) fun b o e=>Ae _ e,FE a _,⟨_,Az _ rfl,rfl,rfl⟩,fun b hb=> ?_,q⟩;have e:b=s1.heap.objs.size:=by simpa using hb
 subst e;exact I1.fpOk (Aw _) (I1.hok.fresh (Aw _))
theorem zE1{l:Expr}{tl:TE}(hl:PE X l tl):PI X tg l (iTup X.K tl):=by
 intro aa s σ H R I h;refine ZA (hl aa s σ H _ I h) fun v s1 ⟨x,H1,I1,r1,q1⟩=> ?_;obtain⟨a,e,⟨xs,hq⟩,q⟩:=q1;subst e;cases r1;obtain⟨its,rv,p,hz⟩:=I1.tuple hq;refine Fv (show s1.heap.IsTuple a its.toArray from p) ?_;refine⟨s1.heap.objs.size,[s1.heap.objs.size],_,_,H1,rfl,I1.kept (t':=s1.toks) fun b o e=>Ae _ e,IK a _,⟨_,Az _ rfl,rfl,rfl⟩,fun b hb=> ?_,q⟩;have e:b=s1.heap.objs.size:=by simpa using hb
 subst e;exact I1.fpOk (Aw _) (I1.hok.fresh (Aw _))
theorem B7{aa:List (Addr×Obj)}{σ:St}{H:Hp}{s:Ah}{R:It->Hp->Prop}{E:Value->Ah->Prop}{lo hi:Int}{t u v:Tok}{tk:Nat}(I:cL X aa σ H s)(h1: -(2 ^ 62)<=lo)(h2:lo<2 ^ 62)(h3: -(2 ^ 62)<=hi)(h4:hi<2 ^ 62)
  (q:R (Itr lo (hi - lo).toNat) H):wpAny (model X.prog X.w) X.A (pyIter (.ref s.heap.objs.size)) (PIE X aa σ tg R) E {s with heap:=s.heap.push {cls:= .type "range",data:= .fields #[.int lo t,.int hi u,.int 1 v]},toks:=tk}:=by
 refine wpAny_pyIter_range (Nq ..) (small_one h1 h2 h3 h4) ?_;have I1:cL X aa σ H {s with heap:=s.heap.push {cls:= .type "range",data:= .fields #[.int lo t,.int hi u,.int 1 v]},toks:=tk}:=I.kept fun b o e=>Ae _ e;refine⟨(s.heap.push {cls:= .type "range",data:= .fields #[.int lo t,.int hi u,.int 1 v]}).objs.size,[(s.heap.push {cls:= .type "range",data:= .fields #[.int lo t,.int hi u,.int 1 v]}).objs.size],_,_,H,rfl,
  I1.kept (t':=tk) fun b o e=>Ae _ e,IJ _ lo (hi - lo).toNat,?_,fun b hb=> ?_,q⟩
 ·have e1 : lo + ((0 : Nat) : Int) * 1 = lo := by simp
  have e2:(((hi - lo).toNat:Nat):Int) - ((0:Nat):Int)=Fw lo hi 1:=by rw[rangeSize_one];split<;>lia
  show IsRangeIter _ _ (lo+((0:Nat):Int)*1) ((((hi - lo).toNat:Nat):Int) - ((0:Nat):Int)) 1;rw[e1,e2];exact Az _ rfl
 ·have e : b = (s.heap.push { cls := .type "range",data := .fields #[.int lo t,.int hi u,.int 1 v] }).objs.size := by simpa using hb
  subst e;exact I1.fpOk (Aw _) (I1.hok.fresh (Aw _))
def zIH(ta:TA):TI:=fun σ H R=>ta σ H fun vs H1=> ∃j:Int,vs=[.int j]/\ -(2 ^ 62)<=j/\j<2 ^ 62/\R (Itr 0 j.toNat) H1
theorem EX{a:Expr}{ta:TA}{p pos:Pos}(hg:Gl X "range") (hm:X.mg "range"=none) (ha:PA X [a] ta) (hs:Ag [a] X.env=[(false,eval a X.env)]:=by rfl):PI X tg (.Call (.Name "range" p) [a] [] pos) (zIH ta):=by
 intro aa s σ H R I h;refine Call_ (QV I hg hm boot_range (Eb (ZA (ha pos aa s σ H _ I h) fun us s1 ⟨vs,H1,I1,r1,q1⟩=> ?_) hs rfl));obtain⟨j,e,q1,q2,q⟩:=q1;subst e;cases r1 with
 |cons r rr=>
  cases rr;obtain⟨t,rfl⟩:=r;exact call_range_1 (B7 I1 (by lia) (by lia) q1 q2 (by simpa using q))
def tFor(wi:TI)(g:TG)(tb:TS):TS:=fun D σ H=>wi σ H fun J H1=> ∃W:Nat->Nat->St->Hp->Prop,(∃m,W 0 m σ H1)/\ ∀i m σ H,W i m σ H→
 (J.stop i H/\D.nx σ H)∨(J.go i H/\ ∃N:St->Hp->Prop,(∀σ' H',N σ' H'-> ∃m',m'<m/\W (i+1) m' σ' H')/\ ∀x H',J.yld i H x H'->g x σ H' fun σ2 H2=>tb {D with nx:=N,ct:=N,bk:=D.nx} σ2 H2)
def OS(fp:List Addr)(h:Heap):List (Addr×Obj):=fp.filterMap fun b=>(h.get? b).map fun o=>(b,o)
theorem V4{fp:List Addr}{h:Heap}{b:Addr}{o:Obj}(hb:b∈fp)(e:h.get? b=some o):(b,o)∈OS fp h:=Fx.mpr ⟨b,hb,by rw[e];rfl⟩
theorem EU{fp:List Addr}{h:Heap}{p:Addr×Obj}(hp:p∈OS fp h):p.1∈fp/\h.get? p.1=some p.2:=by
 obtain⟨b,hb,e⟩:=Fx.mp hp;cases q:h.get? b with
 |none=>rw[q] at e;cases e
 |some o=>
  rw[q] at e;have e':(b,o)=p:=By e;subst e';exact⟨hb,q⟩
theorem cL.pinned{aa:List (Addr×Obj)}{σ:St}{H:Hp}{s:Ah}{fp:List Addr}(I:cL X aa σ H s)(hf: ∀b∈fp,NX X aa H b)(ho: ∀b∈fp,∃o,s.heap.get? b=some o/\ ∀v,o.data≠ .cell v):cL X (aa++OS fp s.heap) σ H s:=
 I.pins_of fun p hp=>(Bi.mp hp).elim (fun z=>I.pin p (Bh _ z)) fun z=>by
  obtain⟨hb,e⟩:=EU z;obtain⟨f0,f1,f2,_⟩:=hf p.1 hb;obtain⟨o,e',d⟩:=ho p.1 hb;rw[e] at e';cases e';exact⟨e,f0,f1,f2,d⟩
theorem cL.unpinned{aa pl:List (Addr×Obj)}{σ:St}{H:Hp}{s:Ah}(I:cL X (aa++pl) σ H s):cL X aa σ H s:=I.pins_of fun p hp=>I.pin p (Bh _ (Bu _ hp))
theorem zDZ{iter:Expr}{body:List Stmt}{wi:TI}{g:TG}{tb:TS}{pos:Pos}(hp:PassesOwn (model X.prog X.w) X.A X.env X.xe)(hc:X.calm=true)(hi:PI X tg iter wi)(hg:PG X tg g)(hb:PB X body tb)
  (hs: ∀x,foldedSetIterable iter X.env x=pure x:=by intro _;rfl):PS X (.For tg iter body [] pos) (tFor wi g tb):=by
 intro aa s σ H D I h;refine wpAny_For (ZA (hi aa s σ H _ I h) fun v s1 h1=>ZA h1 fun itv s2 h2=> ?_) hs;obtain⟨it,fp,tn,J,H2,e,I2,T,st2,f2,W,⟨m0,w0⟩,turn⟩:=h2;subst e;have stat: ∀{H':Hp},(∀b∈fp,H' b=none)-> ∀b∈fp,NX X aa H' b:=fun hn b hb=>⟨hn b hb,(f2 b hb).2⟩;refine codeAny_forLoop_any (fun n s'=> ∃i σ' H',cL X aa σ' H' s'/\tn i s'.heap/\(∀b∈fp,H' b=none)/\W i n σ' H') ?_ m0 ⟨0,σ,H2,I2,st2,fun b hb=>(f2 b hb).1,w0⟩;rintro n s3 ⟨i,σ3,H3,I3,st3,fr3,w3⟩;rcases turn i n σ3 H3 w3 with⟨stop,qn⟩|⟨go,N,hN,step⟩
 ·refine Fy hp (ZA (T.done X rfl rfl rfl hc i aa s3 σ3 H3 X.xe I3 (stat fr3) st3 stop) fun r s4 ⟨hr,I4⟩ => ?_)
  subst hr;exact wpAny_execs_nil ⟨σ3,H3,I4,qn⟩
 ·refine Fy hp (ZA (T.item X rfl rfl rfl hc i aa s3 σ3 H3 X.xe I3 (stat fr3) st3 go) fun r s4 ⟨u,hr,h4⟩ => ?_)
  subst hr;refine Fy hp (ZA h4 fun _ s5 ⟨x,H5,I5,r5,y5,st5,fr5⟩=> ?_);have I5':=I5.pinned (stat fr5) (T.obj _ _ st5);refine Fy hp (ZA (hg _ s5 σ3 H5 x u _ I5' r5 (step x H5 y5)) fun _ s6 ⟨σ6,H6,I6,q6⟩=> ?_);refine Fy hp (ZA (hb _ s6 σ6 H6 _ I6 q6) fun f s7 q7=> ?_);have UU: ∀{σ7:St} {H7:Hp},cL X (aa++OS fp s5.heap) σ7 H7 s7->N σ7 H7-> ∃m,m<n/\ ∃i σ' H',cL X aa σ' H' s7/\tn i s7.heap/\(∀b∈fp,H' b=none)/\W i m σ' H':=fun{σ7 H7} I7 n7=>by
   obtain⟨m',hm,w7⟩:=hN σ7 H7 n7;refine⟨m',hm,i+1,σ7,H7,I7.unpinned,T.keep _ _ _ st5 fun b hb o e=>(I7.pin (b,o) (Bh _ (Bh _ (V4 hb e)))).1,fun b hb=> ?_,w7⟩;obtain⟨o,e,d⟩:=T.obj _ _ st5 b hb;exact(I7.pin (b,o) (Bh _ (Bh _ (V4 hb e)))).2.1
  cases f with
  |next=>obtain⟨σ7,H7,I7,n7⟩:=q7;exact UU I7 n7
  |cont=>obtain⟨σ7,H7,I7,n7⟩:=q7;exact UU I7 n7
  |brk=>obtain⟨σ7,H7,I7,q7⟩:=q7;exact⟨σ7,H7,I7.unpinned,q7⟩
  |ret v=>obtain⟨x7,σ7,H7,I7,r7,q7⟩:=q7;exact⟨x7,σ7,H7,I7.unpinned,r7,q7⟩
end
abbrev R2:=V->V->Hp->VK->Prop
def XJ(X:Cx)(f:Value->Value->Sem Value)(r:R2):Prop:=
 ∀(aa:List (Addr×Obj)) (s:Ah) (σ:St) (H:Hp) (x y:V) (v u:Value) (Q:VK),cL X aa σ H s->b6 x v->b6 y u->r x y H Q→
  wpAny (model X.prog X.w) X.A (f v u) (EP X aa σ Q) X.xe s
def UnR(X:Cx)(f:Value->Sem Value)(r:V->Hp->VK->Prop):Prop:=
 ∀(aa:List (Addr×Obj)) (s:Ah) (σ:St) (H:Hp) (x:V) (v:Value) (Q:VK),cL X aa σ H s->b6 x v->r x H Q→
  wpAny (model X.prog X.w) X.A (f v) (EP X aa σ Q) X.xe s
def Z6(X:Cx)(f:Value)(r:List V->Hp->VK->Prop):Prop:=
 ∀(aa:List (Addr×Obj)) (s:Ah) (σ:St) (H:Hp) (xs:List V) (us:List Value) (Q:VK),cL X aa σ H s->bJ xs us->r xs H Q→
  wpAny (model X.prog X.w) X.A (call f us) (EP X aa σ Q) X.xe s
def tOp(r:R2)(ta tb:TE):TE:=fun σ H Q=>ta σ H fun x H1=>tb σ H1 fun y H2=>r x y H2 Q
def tUn(r:V->Hp->VK->Prop)(ta:TE):TE:=fun σ H Q=>ta σ H fun x H1=>r x H1 Q
def rI(C:Int->Int->Prop)(g:Int->Int->V):R2:=fun x y H Q=> ∃i j,x= .int i/\y= .int j/\C i j/\Q (g i j) H
def ID(g:Int->Int->V):R2:=fun x y H Q=> ∃i j,x= .int i/\y= .int j/\Q (g i j) H
def rU(g:Int->V):V->Hp->VK->Prop:=fun x H Q=> ∃i,x= .int i/\Q (g i) H
section
variable{X:Cx}{a b c:Expr}{ta tb tc:TE}{pos:Pos}
theorem binT(ha:PE X a ta)(hb:PE X b tb){aa:List (Addr×Obj)}{s:Ah}{σ:St}{H:Hp}{R:V->V->Hp->Prop}(I:cL X aa σ H s)
  (h:ta σ H fun x H1=>tb σ H1 fun y H2=>R x y H2) {Q:Value->Ah->Prop} {f:Value->Value->Sem Value}
  (hf: ∀v u s2 x y H2,cL X aa σ H2 s2->b6 x v->b6 y u->R x y H2->wpAny (model X.prog X.w) X.A (f v u) Q X.xe s2):
  wpAny (model X.prog X.w) X.A (eval a X.env) (fun v s₁=>wpAny (model X.prog X.w) X.A (eval b X.env) (fun u s₂=>wpAny (model X.prog X.w) X.A (f v u) Q X.xe s₂) X.xe s₁) X.xe s:=by
 refine ZA (ha aa s σ H _ I h) fun v s1 ⟨x,H1,I1,r1,q1⟩=> ?_;refine ZA (hb aa s1 σ H1 _ I1 q1) fun u s2 ⟨y,H2,I2,r2,q2⟩=> ?_;exact hf v u s2 x y H2 I2 r1 r2 q2
theorem zC0{op:Operator}{r:R2}(ho:XJ X (Fd op) r)(ha:PE X a ta)(hb:PE X b tb):PE X (.BinOp a op b pos) (tOp r ta tb):=by
 intro aa s σ H Q I h;exact wpAny_BinOp (binT ha hb I h fun v u s2 x y H2 I2 rx ry q=>ho aa s2 σ H2 x y v u Q I2 rx ry q)
theorem zHM{op:UnaryOp}{r:V->Hp->VK->Prop}(ho:UnR X (unaryOp op) r)(ha:PE X a ta):PE X (.UnaryOp op a pos) (tUn r ta):=by
 intro aa s σ H Q I h;exact UnaryOp_ (ZA (ha aa s σ H _ I h) fun v s1 ⟨x,H1,I1,r1,q1⟩=>ho aa s1 σ H1 x v Q I1 r1 q1)
theorem opI{f:Value->Value->Sem Value}{C:Int->Int->Prop}{g:Int->Int->Int}
  (rule: ∀(i j:Int) (t u:Tok) (s:Ah) (Q:Value->Ah->Prop) (E:Value->Ah->Prop),C i j->Q (.int (g i j) s.toks) {s with toks:=s.toks+1}->wpAny (model X.prog X.w) X.A (f (.int i t) (.int j u)) Q E s):
  XJ X f (rI C fun i j=> .int (g i j)):=by
 intro aa s σ H x y v u Q I rx ry h;obtain⟨i,j,rfl,rfl,hc,q⟩:=h;obtain⟨t,rfl⟩:=rx;obtain⟨t',rfl⟩:=ry;exact rule i j t t' s _ _ hc ⟨.int (g i j),H,I.tok _,⟨_,rfl⟩,q⟩
theorem opI0{f:Value->Value->Sem Value}{g:Int->Int->Int}
  (rule: ∀(i j:Int) (t u:Tok) (s:Ah) (Q:Value->Ah->Prop) (E:Value->Ah->Prop),Q (.int (g i j) s.toks) {s with toks:=s.toks+1}->wpAny (model X.prog X.w) X.A (f (.int i t) (.int j u)) Q E s):
  XJ X f (ID fun i j=> .int (g i j)):=by
 intro aa s σ H x y v u Q I rx ry h;obtain⟨i,j,rfl,rfl,q⟩:=h;obtain⟨t,rfl⟩:=rx;obtain⟨t',rfl⟩:=ry;exact rule i j t t' s _ _ ⟨.int (g i j),H,I.tok _,⟨_,rfl⟩,q⟩
theorem opB0{f:Value->Value->Sem Value}{g:Int->Int->Bool}
  (rule: ∀(i j:Int) (t u:Tok) (s:Ah) (Q:Value->Ah->Prop) (E:Value->Ah->Prop),Q (.bool (g i j)) s->wpAny (model X.prog X.w) X.A (f (.int i t) (.int j u)) Q E s):
  XJ X f (ID fun i j=> .bl (g i j)):=by
 intro aa s σ H x y v u Q I rx ry h;obtain⟨i,j,rfl,rfl,q⟩:=h;obtain⟨t,rfl⟩:=rx;obtain⟨t',rfl⟩:=ry;exact rule i j t t' s _ _ ⟨.bl (g i j),H,I,rfl,q⟩
def CDiv(i j:Int):Prop:=0<j/\j<1073741824
def CPow(i j:Int):Prop:=0<=j/\j<=1000000/\i.natAbs<2 ^ 64
def DU(i j:Int):Prop:=(-(2 ^ 64)<i/\i<2 ^ 64)∨(-(2 ^ 64)<j/\j<2 ^ 64)
theorem DU.ok{i j:Int}(h:DU i j):IntMulOk i j:=by
 rcases h with⟨h1,h2⟩|⟨h1,h2⟩
 ·exact .of_left (intBits_le_64 h1 h2)
 ·exact .of_right (intBits_le_64 h1 h2)
theorem zEF:XJ X (Fd .Add) (ID fun i j=> .int (i+j)):=opI0 fun _ _ _ _ _ _ _ q=>add_int q
theorem Q0:XJ X (Fd .Sub) (ID fun i j=> .int (i - j)):=opI0 fun _ _ _ _ _ _ _ q=>sub_int q
theorem zED:XJ X (Fd .Mult) (rI DU fun i j=> .int (i*j)):=opI fun _ _ _ _ _ _ _ hc q=>mul_int q hc.ok
theorem PQ:XJ X (Fd .FloorDiv) (rI CDiv fun i j=> .int (i/j)):=opI fun i j _ _ _ _ _ hc q=>by
 have h1:(0:Int)<j:=hc.1;have h2:j<1073741824:=hc.2;exact floordiv_int (by lia) (by rw[Int.fdiv_eq_ediv_of_nonneg i (by lia)];exact q) (.inl (PyProof.noPylong_small (by lia)))
theorem XA:XJ X (Fd .Mod) (rI (fun _ j=>0<j) fun i j=> .int (i % j)):=opI fun i j _ _ _ _ _ hc q=>by
 have h1:(0:Int)<j:=hc;exact mod_int' (by lia) (by rw[Int.fmod_eq_emod_of_nonneg i (by lia)];exact q)
theorem zEB:XJ X (Fd .Pow) (rI CPow fun i j=> .int (i ^ j.toNat)):=opI fun _ _ _ _ _ _ _ hc q=>pow_int_small hc.1 hc.2.1 hc.2.2 q
theorem unI{f:Value->Sem Value}{g:Int->Int}
  (rule: ∀(i:Int) (t:Tok) (s:Ah) (Q:Value->Ah->Prop) (E:Value->Ah->Prop),Q (.int (g i) s.toks) {s with toks:=s.toks+1}->wpAny (model X.prog X.w) X.A (f (.int i t)) Q E s):
  UnR X f (rU fun i=> .int (g i)):=by
 intro aa s σ H x v Q I rx h;obtain⟨i,rfl,q⟩:=h;obtain⟨t,rfl⟩:=rx;exact rule i t s _ _ ⟨.int (g i),H,I.tok _,⟨_,rfl⟩,q⟩
theorem zCQ:UnR X (unaryOp .USub) (rU fun i=> .int (-i)):=unI fun _ _ _ _ _ q=>neg_int q
end
section
variable{X:Cx}{a b c:Expr}{ta tb tc:TE}{pos:Pos}
theorem LR{aa:List (Addr×Obj)}{σ:St}{H:Hp}{s:Ah}{Q:VK}{k k':Bool}(I:cL X aa σ H s)(q:Q (.bl k) H)(e:k=k'):EP X aa σ Q (.bool k') s:=by
 subst e;exact⟨.bl k,H,I,rfl,q⟩
theorem zC2:XJ X (Cf .Lt) (ID fun i j=> .bl (decide (i<j))):=opB0 fun _ _ _ _ _ _ _ q=>lt_int q
theorem GB:XJ X (Cf .LtE) (ID fun i j=> .bl (decide (i<=j))):=opB0 fun _ _ _ _ _ _ _ q=>le_int q
theorem zC3:XJ X (Cf .Gt) (ID fun i j=> .bl (decide (j<i))):=opB0 fun _ _ _ _ _ _ _ q=>gt_int q
theorem zHP:XJ X (Cf .GtE) (ID fun i j=> .bl (decide (j<=i))):=opB0 fun _ _ _ _ _ _ _ q=>ge_int q
theorem HZ:XJ X (Cf .Is) (fun x y H Q=>y= .non/\Q (.bl (decide (x= .non))) H):=by
 intro aa s σ H x y v u Q I rx ry h;obtain⟨rfl,q⟩:=h;cases ry;refine is_none_gen (LR I q ?_);cases x<;>first
  |(cases rx;rfl)
  |(obtain⟨t,rfl⟩:=rx;rfl)
theorem PU:XJ X (Cf .IsNot) (fun x y H Q=>y= .non/\Q (.bl (!decide (x= .non))) H):=by
 intro aa s σ H x y v u Q I rx ry h;obtain⟨rfl,q⟩:=h;cases ry;refine isnot_none_gen (LR I q ?_);cases x<;>first
  |(cases rx;rfl)
  |(obtain⟨t,rfl⟩:=rx;rfl)
theorem XJ.or{f:Value->Value->Sem Value}{r r':R2}(h:XJ X f r)(h':XJ X f r'):XJ X f (fun x y H Q=>r x y H Q∨r' x y H Q):=by
 intro aa s σ H x y v u Q I rx ry q;rcases q with q|q
 ·exact h aa s σ H x y v u Q I rx ry q
 ·exact h' aa s σ H x y v u Q I rx ry q
theorem aV(b:Expr){op:CmpOp}(h:op≠ .In:=by decide)(h2:op≠ .NotIn:=by decide):Fz op b=false:=by
 have e1:(op==CmpOp.In)=false:=by cases op<;>first|rfl|exact absurd rfl h
 have e2:(op==CmpOp.NotIn)=false:=by cases op<;>first|rfl|exact absurd rfl h2
 cases b<;>simp[Fz,e1,e2]
theorem zAT{op:CmpOp}{r:R2}(ho:XJ X (Cf op) r)(ha:PE X a ta)(hb:PE X b tb)(hm:Fz op b=false):PE X (.Compare a [op] [b] pos) (tOp r ta tb):=by
 intro aa s σ H Q I h;exact wpAny_Compare1 (binT ha hb I h fun v u s2 x y H2 I2 rx ry q=>ho aa s2 σ H2 x y v u Q I2 rx ry q) hm
def zBP(t:TE):TT:=fun σ H Q=>t σ H fun x H'=> ∃k,x= .bl k/\Q k H'
theorem zAJ{op:CmpOp}{r:R2}(ho:XJ X (Cf op) r)(ha:PE X a ta)(hb:PE X b tb)(hm:Fz op b=false):PT X (.Compare a [op] [b] pos) (zBP (tOp r ta tb)):=by
 intro aa s σ H Q I h;refine wpAny_isTrue_Compare1 (ZA (ha aa s σ H _ I h) fun v s1 ⟨x,H1,I1,r1,q1⟩=>ZA (hb aa s1 σ H1 _ I1 q1) fun u s2 ⟨y,H2,I2,r2,q2⟩=>
  ZA (ho aa s2 σ H2 x y v u _ I2 r1 r2 q2) fun c s3 ⟨z,H3,I3,r3,k,e,q3⟩=> ?_) hm
 subst e;cases r3;exact Dy ⟨H3,I3,q3⟩
def II(r r':R2)(ta tb tc:TE):TE:=fun σ H Q=>ta σ H fun x H1=>tb σ H1 fun y H2=>r x y H2 fun z H3=> ∃k,z= .bl k∧
 (if k=true then tc σ H3 fun w' H4=>r' y w' H4 Q else Q (.bl false) H3)
theorem BL{op op':CmpOp}{r r':R2}(ho:XJ X (Cf op) r)(ho':XJ X (Cf op') r')(ha:PE X a ta)(hb:PE X b tb)(hc:PE X c tc)
  (hm:Mb [op,op'] [b,c]=false:=by with_unfolding_all rfl):PE X (.Compare a [op,op'] [b,c] pos) (II r r' ta tb tc):=by
 intro aa s σ H Q I h;refine Compare_chain (ZA (ha aa s σ H _ I h) fun v s1 ⟨x,H1,I1,r1,q1⟩=>chain_link (ZA (hb aa s1 σ H1 _ I1 q1) fun u s2 ⟨y,H2,I2,r2,q2⟩=>
  ZA (ho aa s2 σ H2 x y v u _ I2 r1 r2 q2) fun d s3 ⟨z,H3,I3,r3,k,e,q3⟩=> ?_)) hm
 subst e;cases r3;refine Dy ?_;cases k with
 |false=>exact ite_ff ⟨.bl false,H3,I3,rfl,q3⟩
 |true=>exact ite_tt (chain_last (ZA (hc aa s3 σ H3 _ I3 q3) fun w' s4 ⟨z',H4,I4,r4,q4⟩=>ho' aa s4 σ H4 y z' u w' Q I4 r2 r4 q4))
theorem BU{op op':CmpOp}{r r':R2}(ho:XJ X (Cf op) r)(ho':XJ X (Cf op') r')(ha:PE X a ta)(hb:PE X b tb)(hc:PE X c tc)
  (hm:Mb [op,op'] [b,c]=false:=by with_unfolding_all rfl):PT X (.Compare a [op,op'] [b,c] pos) (zBP (II r r' ta tb tc)):=by
 intro aa s σ H Q I h;refine isTrue_chain (ZA (ha aa s σ H _ I h) fun v s1 ⟨x,H1,I1,r1,q1⟩=>test_link (ZA (hb aa s1 σ H1 _ I1 q1) fun u s2 ⟨y,H2,I2,r2,q2⟩=>
  ZA (ho aa s2 σ H2 x y v u _ I2 r1 r2 q2) fun d s3 ⟨z,H3,I3,r3,k,e,q3⟩=> ?_)) hm
 subst e;cases r3;refine Dy ?_;cases k with
 |false=>
  obtain⟨k',e',q'⟩:=q3;cases e';exact ite_ff ⟨H3,I3,q'⟩
 |true=>
  refine ite_tt (test_last (ZA (hc aa s3 σ H3 _ I3 q3) fun w' s4 ⟨z',H4,I4,r4,q4⟩=>ZA (ho' aa s4 σ H4 y z' u w' _ I4 r2 r4 q4) fun d' s5 ⟨z2,H5,I5,r5,k2,e2,q5⟩=> ?_));subst e2;cases r5;exact Dy ⟨H5,I5,q5⟩
theorem QW:(sizeLine:Nat)<2 ^ 63:=by rw[Cj];decide
theorem HY:XJ X (Fd .Add) (fun x y H Q=> ∃i j,x= .str i/\y= .str j/\i.length+j.length<=sizeLine/\Q (.str (i++j)) H):=by
 intro aa s σ H x y v u Q I rx ry h;obtain⟨i,j,rfl,rfl,hz,q⟩:=h;obtain⟨t,rfl⟩:=rx;obtain⟨t',rfl⟩:=ry;exact add_str (fun t' tk=>⟨.str (i++j),H,I.tok _,⟨_,rfl⟩,q⟩) hz
theorem SD{x:V}{us:List Value}(r:bJ [x] us): ∃u,us=[u]/\b6 x u:=by
 cases r with
 |cons r1 r2=>cases r2;exact⟨_,rfl,r1⟩
theorem GS{x y:V}{us:List Value}(r:bJ [x,y] us): ∃u w',us=[u,w']/\b6 x u/\b6 y w':=by
 cases r with
 |cons r1 r2=>
  cases r2 with
  |cons r3 r4=>cases r4;exact⟨_,_,rfl,r1,r3⟩
theorem MY(hc:X.calm=true):Z6 X (.builtin "max") (fun xs H Q=> ∃i j,xs=[.int i,.int j]/\Q (.int (if j>i then j else i)) H):=by
 intro aa s σ H xs us Q I r h;obtain⟨i,j,rfl,q⟩:=h;obtain⟨u,w',rfl,⟨t,rfl⟩,⟨t',rfl⟩⟩:=GS r;refine max_two_ints (I.ok.hd hc) fun h' tk k=>⟨_,H,I.kept k,?_,q⟩;by_cases hj:j>i
 ·rw[if_pos hj,if_pos hj];exact⟨_,rfl⟩
 ·rw[if_neg hj,if_neg hj];exact⟨_,rfl⟩
theorem QO(hc:X.calm=true):Z6 X (.builtin "min") (fun xs H Q=> ∃i j,xs=[.int i,.int j]/\Q (.int (if j<i then j else i)) H):=by
 intro aa s σ H xs us Q I r h;obtain⟨i,j,rfl,q⟩:=h;obtain⟨u,w',rfl,⟨t,rfl⟩,⟨t',rfl⟩⟩:=GS r;refine min_two_ints (I.ok.hd hc) fun h' tk k=>⟨_,H,I.kept k,?_,q⟩;by_cases hj:j<i
 ·rw[if_pos hj,if_pos hj];exact⟨_,rfl⟩
 ·rw[if_neg hj,if_neg hj];exact⟨_,rfl⟩
end
structure ObjM(h:Heap)(x dx C:Addr)(mA:Str->Option Value):Prop where
 obj:h.get? x=some (Ng C dx)
 ns:h.Ns1 dx mA
 ne:dx≠x
theorem EQ{h:Heap}{dx:Addr}{mA:Str->Option Value}(n:h.Ns1 dx mA): ∃od,h.get? dx=some od/\ ∀name,W.lookIn name od=some (mA name):=by
 obtain⟨o,es,ep,ho,hd,hk,_,hm⟩:=n;refine⟨o,ho,fun name=> ?_⟩;have e:=hm name;unfold nsFind findBy at e;rw[<- Array.find?_toList] at e;unfold W.lookIn;rw[hd];dsimp only;split
 ·rename_i y q
  rw[q] at e;exact congrArg some e
 ·rename_i q
  rw[q] at e;have a:es.toList.any (·.refKey)=false:=by
   rw[List.any_eq_false];intro y hy;obtain⟨z,t,nh⟩:=hk y (Array.mem_toList_iff.mp hy);simp[DictEntry.refKey,nh]
  have a': ¬es.toList.any (·.refKey)=true:=by rw[a];exact Ei
  rw[if_neg a'];exact congrArg some e
theorem ObjM.look{h:Heap}{x dx C:Addr}{mA:Str->Option Value}(I:ObjM h x dx C mA): ∃od,W.InstAt h x (Ng C dx) C (some od)/\ ∀name,W.lookIn name od=some (mA name):=
 let ⟨od,ho,hl⟩:=EQ I.ns
 ⟨od,⟨I.obj,rfl,rfl,ho⟩,hl⟩
theorem QL.some_of{v:V}{o:Option Value}(r:QL (some v) o): ∃u,o=some u/\b6 v u:=by
 cases o with
 |none=>exact(show False from r).elim
 |some u=>exact⟨u,rfl,r⟩
section
variable{P:Bn}{w:World}{H H':Hp}{h h':Heap}{a C dx:Addr}{fs fs':List (Str×V)}
theorem zBD(hok:SE P w H h)(e:H a=some (.ins C dx fs)): ∃mA,ObjM h a dx C mA/\(∀f,QL (fs.lookup f) (mA f))/\Nh mA (fs.map (·.1))/\fs.length<=1000/\H dx=some (.own a):=by
 obtain⟨d,z,ne,ob,mA,n,r,q⟩:=(show Z3 P w H h a (.ins C dx fs) from hok a _ e);exact⟨mA,⟨ob,n,ne⟩,r,q,z,d⟩
end
structure Cls(K:An)(C:Addr):Prop where
 pg:W.plainGet K C Str.empty=true
 hd:W.hasDictIn K C=true
 po:W.plainOver K C=true
 sa:W.findIn K (.ref C) "__setattr__"=some (some (.builtin "object.__setattr__"))
theorem Cls.get{K:An}{C:Addr}(c:Cls K C)(f:Str):W.plainGet K C f=true:=c.pg
section
variable{X:Cx}{aa:List (Addr×Obj)}{σ:St}{H:Hp}{s:Ah}{A:De}{E:Value->Ah->Prop}{Q:Value->Ah->Prop}{c:Value}{b:Bool}
inductive PZ(K:An)(H:Hp):V->Value->Prop where
 |non:PZ K H .non (.type "NoneType")
 |bl (x:Bool):PZ K H (.bl x) (.type "bool")
 |int (i:Int):PZ K H (.int i) (.type "int")
 |str (x:Str):PZ K H (.str x) (.type "str")
 |flt (x:UInt64):PZ K H (.flt x) (.type "float")
 |lst {a:Addr} {xs:List V} (e:H a=some (.lst xs)):PZ K H (.ref a) (.type "list")
 |frz {a:Addr} {o:Obj} {xs:List V} (e:H a=some (.frz o (.lst xs))):PZ K H (.ref a) (.type "list")
 |tup {a:Addr} {xs:List V} (e:H a=some (.tup xs)):PZ K H (.ref a) (.type "tuple")
 |dK {a:Addr} {kvs:List (YY×V)} (e:H a=some (.dK kvs)):PZ K H (.ref a) (.type "dict")
 |dT {a:Addr} {kvs:List (List Ky×V)} (e:H a=some (.dT kvs)):PZ K H (.ref a) (.type "dict")
 |ins {a C dx:Addr} {fs:List (Str×V)} (e:H a=some (.ins C dx fs)) (cl:Cls K C) (ha:W.findIn K (.ref C) "__class__"=some (some (.builtin "object.__class__")))
   (hn:W.specialIn K (.builtin "object.__class__") "__get__"=some (some (.builtin "getset_descriptor.__get__"))) (htk:W.takesIn K (.builtin "object.__class__")=some true)
   (hm:W.mroIn K C (.type "object")=some true):PZ K H (.ref a) (.ref C)
theorem UF{x:V}{u t:Value}(I:cL X aa σ H s)(rx:b6 x u)(ty:PZ X.K H x t)(e:W.kitOne X.K t c=some b)(h: ∀tk,Q (.bool b) {s with toks:=tk}):
  wpAny (model X.prog X.w) A (call (.builtin "isinstance") [u,c]) Q E s:=by
 cases ty with
 |non=>cases (show u=Value.none from rx);exact Es W.kitx_none I.kIn True.intro e (fun z=>nomatch z) h
 |bl y=>cases (show u=Jt y from rx);exact Es W.kitx_bool I.kIn True.intro e (fun z=>nomatch z) h
 |int i=>obtain⟨t,q⟩:=(show∃t,u=Lx i t from rx);cases q;exact Es W.kitx_int I.kIn True.intro e (fun z=>nomatch z) h
 |str y=>obtain⟨t,q⟩:=(show∃t,u=Ly y t from rx);cases q;exact Es W.kitx_str I.kIn True.intro e (fun z=>nomatch z) h
 |flt y=>obtain⟨t,q⟩:=(show∃t,u=Np y t from rx);cases q;exact Es W.kitx_float I.kIn True.intro e (fun z=>nomatch z) h
 | @lst a xs ea=>
  cases (show u=Bp a from rx);obtain⟨_,_,n,_,h1⟩:=(show Z3 X.prog X.w H s.heap a (.lst xs) from I.hok a _ ea);exact Es Kh I.kIn ⟨_,h1,rfl⟩ e (fun z=>nomatch z) h
 | @frz a ob xs ea=>
  cases (show u=Bp a from rx);obtain⟨_,_,_,n,_,h1⟩:=(show Z3 X.prog X.w H s.heap a (.frz ob (.lst xs)) from I.hok a _ ea);exact Es Kh I.kIn ⟨_,h1,rfl⟩ e (fun z=>nomatch z) h
 | @tup a xs ea=>
  cases (show u=Bp a from rx);obtain⟨_,_,_,p⟩:=(show Z3 X.prog X.w H s.heap a (.tup xs) from I.hok a _ ea);obtain⟨o,h1,h2,_⟩:=p;exact Es W.kitx_tuple I.kIn ⟨o,h1,h2⟩ e (fun z=>nomatch z) h
 | @dK a kvs ea=>
  cases (show u=Bp a from rx);obtain⟨_,_,vs,_,p⟩:=(show Z3 X.prog X.w H s.heap a (.dK kvs) from I.hok a _ ea);obtain⟨o,es,ep,h1,h2,_⟩:=p;exact Es W.kitx_dict I.kIn ⟨o,h1,h2.1⟩ e (fun z=>nomatch z) h
 | @dT a kvs ea=>
  cases (show u=Bp a from rx);obtain⟨_,_,xs,_,o,es,ep,h1,h2,_⟩:=(show Z3 X.prog X.w H s.heap a (.dT kvs) from I.hok a _ ea);exact Es W.kitx_dict I.kIn ⟨o,h1,h2.1⟩ e (fun z=>nomatch z) h
 | @ins a C dx fs ea cl ha hn htk hm=>
  cases (show u=Bp a from rx);obtain⟨mA,O,_⟩:=zBD I.hok ea;obtain⟨od,J,_⟩:=O.look;exact Es (W.kitx_own (cl.get _) cl.hd ha hn htk hm) I.kIn J e (fun z=>nomatch z) h
end
structure YH(k:Nat)(A:De):Prop where
 hd:A.handled=none
 dp:A.depth+3*k+5<recursionLimit
 un:A.units+16*k+200<cLine
theorem YH.mono{j k:Nat}{A:De}(r:YH k A)(h:j<=k):YH j A:=⟨r.hd,by have:=r.dp;lia,by have:=r.un;lia⟩
theorem YH.deeper{k:Nat}{A:De}(r:YH (k+1) A)(env:Env):YH k (A.deeper env):=
 ⟨r.hd,by have:=r.dp;show A.depth+1+3*k+5<_;lia,by have:=r.un;show A.units+3+16*k+200<_;lia⟩
theorem YH.depth{k:Nat}{A:De}(r:YH k A):A.depth<recursionLimit:=by have:=r.dp;lia
theorem YH.units{k:Nat}{A:De}(r:YH k A):A.units+64<cLine:=by have:=r.un;lia
def CZ:TA:=fun _ H Q=>Q [] H
def NS(ta:TE)(tr:TA):TA:=fun σ H Q=>ta σ H fun x H1=>tr σ H1 fun xs H2=>Q (x::xs) H2
section
variable{X:Cx}{e:Expr}{es:List Expr}{te:TE}{t:TA}{pos:Pos}
theorem YV:PA X [] CZ:=fun _ _ _ _ H Q I h=>Go ⟨[],H,I,.nil,h⟩
theorem bR(ha:PE X e te)(hr:PA X es t)(hs:Ag (e::es) X.env=(false,eval e X.env)::Ag es X.env:=by rfl):PA X (e::es) (NS te t):=by
 intro pos aa s σ H Q I h;rw[hs];show wpAny _ _ (spliced ((false,eval e X.env)::Er pos (Ag es X.env))) _ _ s;refine Fe (ZA (ha aa s σ H _ I h) fun u s1 ⟨x,H1,I1,r1,q1⟩=> ?_);exact ZA (hr pos aa s1 σ H1 _ I1 q1) fun us s2 ⟨xs,H2,I2,r2,q2⟩=>⟨x::xs,H2,I2,.cons r1 r2,q2⟩
def tTup(t:TA):TE:=fun σ H Q=>t σ H fun xs H1=>xs.length<=sizeLine/\ ∀p,H1 p=none->Q (.ref p) (aS H1 p (.tup xs))
def tLst(t:TA):TE:=fun σ H Q=>t σ H fun xs H1=>xs.length<=sizeLine/\ ∀p,H1 p=none->Q (.ref p) (aS H1 p (.lst xs))
theorem OR{x1}(h:PA X es t):PE X (.Tuple es x1 pos) (tTup t):=by
 intro aa s σ H Q I hq;refine wpAny_Tuple_spliced (ZA (h pos aa s σ H _ I hq) fun us s1 ⟨xs,H1,I1,r,z,q⟩=>⟨by rw[<- r.length];exact z,?_⟩);have hf:H1 s1.heap.objs.size=none:=I1.hok.fresh (Aw _);refine⟨.ref s1.heap.objs.size,aS H1 s1.heap.objs.size (.tup xs),I1.laid (t':=s1.toks) (fun b u e=>Ae _ e) (Aw _) ?_,rfl,q _ hf⟩;exact⟨z,us,r,⟨_,Az _ rfl,rfl,_,rfl⟩⟩
theorem zE8(h:PA X es t):PE X (.List es pos) (tLst t):=by
 intro aa s σ H Q I hq;refine wpAny_List_spliced (ZA (h pos aa s σ H _ I hq) fun us s1 ⟨xs,H1,I1,r,z,q⟩=>⟨by rw[<- r.length];exact z,?_⟩);have hf:H1 s1.heap.objs.size=none:=I1.hok.fresh (Aw _);refine⟨.ref s1.heap.objs.size,aS H1 s1.heap.objs.size (.lst xs),I1.laid (t':=s1.toks) (fun b u e=>Ae _ e) (Aw _) ?_,rfl,q _ hf⟩;exact⟨z,us,0,r,Az _ rfl⟩
end
abbrev Sp:=List V->Hp->VK->XK->Prop
abbrev CXT:=List Env->Hp->Ah->XK->Value->Ah->Prop
structure Env0(P:Bn)(w:World)(K:An)(mg:Str->Option Value)(base:Heap)(A:De)(outer:List Env)(s:Ah)(H:Hp):Prop where
 frames:A.frames=some outer
 mod:Mod K mg base
 bs: ∀b o,base.get? b=some o->s.heap.get? b=some o/\H b=none
 bsz:base.objs.size<=s.heap.objs.size
 funs:s.heap.FunFrames base outer
 frf: ∀b∈DS outer,H b=none
 hok:SE P w H s.heap
 bare:Jb s.gens
def CE(outer:List Env)(P:Bn)(w:World)(H:Hp)(s:Ah)(Q:VK)(u:Value)(s':Ah):Prop:=
 ∃v H',s'.os=s.os/\Jb s'.gens/\Un (DS outer) [] H H' s.heap s'.heap/\SE P w H' s'.heap/\b6 v u/\Q v H'
def CR(CX:CXT)(outer:List Env)(P:Bn)(w:World)(H:Hp)(s:Ah)(Q:VK)(E:XK)(r:Result)(s':Ah):Prop:=
 match r with
 | .ok (.ret u)=>CE outer P w H s Q u s'
 | .ok _=>False
 | .error e=>CX outer H s E e s'
structure bC(P:Bn)(w:World)(K:An)(mg:Str->Option Value)(base:Heap)(CX:CXT)(k:Nat)(f:Addr)(fd:Ee)(ps:List Str)(sp:Sp):Prop where
 len: ∀vs H Q E,sp vs H Q E->vs.length=ps.length
 run: ∀(A:De) (outer:List Env) (s:Ah) (H:Hp) (args:Args) (us:List Value) (vs:List V) (Q:VK) (E:XK),YH k A->Env0 P w K mg base A outer s H->Mc s fd args (ps.zip us)->bJ vs us->sp vs H Q E→
  Kw (model P w) A (.call (.ref f) args) (CR CX outer P w H s Q E) s
section
variable{X:Cx}{aa:List (Addr×Obj)}{σ:St}{H:Hp}{s s':Ah}
theorem cL.env0(I:cL X aa σ H s):Env0 X.prog X.w X.K X.mg X.base X.A X.stack s H:=
 ⟨I.ok.frames,I.ok.mod,I.bs,Eh I.ok.bsz I.sz,I.stack,I.stkFree,I.hok,I.bare⟩
theorem cL.after{Q:VK}{u:Value}(I:cL X aa σ H s)(h:CE X.stack X.prog X.w H s Q u s'):EP X aa σ Q u s':=by
 obtain⟨v,H',os,bare,un,hok,r,q⟩:=h;obtain⟨hh,g,d,t,os'⟩:=s';obtain rfl:os'=s.os:=os;exact⟨v,H',I.call (h':=hh) (g':=g) (d':=d) (t':=t) (ch:=[]) un hok bare (fun b z=>absurd z (by simp)),r,q⟩
end
def CW(sp:Sp)(dvs:List V)(E:XK)(t:TA):TE:=fun σ H Q=>t σ H fun vs H1=>sp (vs++dvs) H1 Q E
def RA(K:An)(fd:Ee)(ps:List Str)(ds:List Value):Prop:=
 ∀(s:Ah) (us:List Value),K.In s.heap->(us++ds).length=ps.length->Mc s fd ⟨us,[]⟩ (ps.zip (us++ds))
theorem RA.all{K:An}{fd:Ee}{ps:List Str}(h: ∀us:List Value,us.length=ps.length->bindArgs fd ⟨us,[]⟩=pure (ps.zip us)):RA K fd ps []:=fun s us _ hl=>by
 rw[Ca] at hl⊢;exact .of_eq (h us hl)
def G4(CX:CXT)(X:Cx)(E:XK):Prop:= ∀(aa:List (Addr×Obj)) (σ:St) (H:Hp) (s:Ah) (e:Value) (s':Ah),cL X aa σ H s->CX X.stack H s E e s'->X.xe e s'
section
variable{X:Cx}{CX:CXT}{k:Nat}{f C:Addr}{fd:Ee}{ps:List Str}{sp:Sp}{dvs:List V}{ds:List Value}{E:XK}{x m:Str}{p pos ap:Pos}{e o:Expr}{es:List Expr}{ta:TE}{t:TA}
theorem CB{aa:List (Addr×Obj)}{σ:St}{H:Hp}{s:Ah}{Q:VK}{us:List Value}{vs:List V}(F:bC X.prog X.w X.K X.mg X.base CX k f fd ps sp)(hr:YH k X.A)(hb:RA X.K fd ps ds)(hd:bJ dvs ds)(hx:G4 CX X E)
  (I:cL X aa σ H s) (r:bJ vs us) (h:sp (vs++dvs) H Q E):wpAny (model X.prog X.w) X.A (call (.ref f) us) (EP X aa σ Q) X.xe s:=by
 have r2:bJ (vs++dvs) (us++ds):=r.append hd;have hl:(us++ds).length=ps.length:=by rw[<- r2.length];exact F.len _ _ _ _ h
 refine wpAny_call (Li (F.run X.A X.stack s H ⟨us,[]⟩ (us++ds) (vs++dvs) Q E hr I.env0 (hb s us I.kIn hl) r2 h) fun r s' hq=> ?_);cases r with
 |error e=>exact hx aa σ H s e s' I hq
 |ok fl=>
  cases fl with
  |ret u=>exact I.after hq
  |next=>exact Fi hq
  |brk=>exact Fi hq
  |cont=>exact Fi hq
theorem GD(F:bC X.prog X.w X.K X.mg X.base CX k f fd ps sp)(hr:YH k X.A)(hg:Gl X x)(hm:X.mg x=some (.ref f))(hk:Ga X.K (.ref f)=true)(hb:RA X.K fd ps ds)(hd:bJ dvs ds)(hx:G4 CX X E)
  (ha:PA X (e::es) t) (hdb:(x==("__debug__":Str))=false:=by decide) (he:Ag (e::es) X.env=(false,eval e X.env)::Ag es X.env:=by rfl) (hpl:(Er pos (Ag es X.env)).any (·.1)=false:=by rfl):
  PE X (.Call (.Name x p) (e::es) [] pos) (CW sp dvs E t):=by
 intro aa s σ H Q I h;refine Ej (F2 I hg hm ?_ hdb);refine W.callWith_K (h₀:=X.base) I.ok.mod.kin hk (ZA (ha pos aa s σ H _ I h) fun us s1 ⟨vs,H1,I1,r,q⟩=>⟨I1.kIn,?_⟩) he hpl;exact CB F hr hb hd hx I1 r q
end
structure cS(N P:List Str)(sc:Scope):Prop where
 kind:sc.kind= .function
 co:sc.isCoroutine=false
 gen:sc.isGenerator=false
 nd:N.Nodup
 pre:N.take P.length=P
 par: ∀x∈P,sc.names.lookup x=some .local∨sc.names.lookup x=some .cell
 nofree: ∀y∈sc.names,y.2≠ .free
theorem MX{kindOf:Str->Option NameKind}{x:Str}: ∀{binds:List (Str×Value)} {m:Str->Option Value},(∀v,(x,v)∉binds)->bindL kindOf binds m x=m x
 |[],_,_=>rfl
 | (n,v) :: r,m,h => by
  unfold bindL;rw[MX fun w hw=>h w (Am _ hw)];split
  ·have : x ≠ n := by rintro rfl;exact h v Ax
   simp[this]
  ·rfl
theorem MV{kindOf:Str->Option NameKind}{x:Str}: ∀{binds:List (Str×Value)} {m:Str->Option Value},(∀v,(x,v)∉binds)->bindC kindOf binds m x=m x
 |[],_,_=>rfl
 | (n,v) :: r,m,h => by
  unfold bindC;rw[MV fun w hw=>h w (Am _ hw)];split
  ·rfl
  ·have : x ≠ n := by rintro rfl;exact h v Ax
   simp[this]
theorem MW{kindOf:Str->Option NameKind}{x:Str}{v:Value}: ∀{P:List Str} {vs:List Value} {i:Nat} {m:Str->Option Value},P.Nodup->P[i]? =some x->vs[i]? =some v->kindOf x=some .local→
  bindL kindOf (P.zip vs) m x=some v
 |[],_,_,_,_,h,_,_=>by simp at h
 |_::_,[],_,_,_,_,h,_=>by simp at h
 |p::P,w::vs,0,m,nd,h1,h2,hk=>by
  simp at h1 h2;subst h1;subst h2;show bindL kindOf ((p,w)::P.zip vs) m p=_;unfold bindL;rw[MX fun v hv=>(Cb.mp nd).1 (Jf hv).1,if_pos hk];simp
 |p::P,w::vs,i+1,m,nd,h1,h2,hk=>by
  show bindL kindOf ((p,w)::P.zip vs) m x=_;unfold bindL;exact MW (i:=i) (Cb.mp nd).2 (by simpa using h1) (by simpa using h2) hk
theorem MU{kindOf:Str->Option NameKind}{x:Str}{v:Value}: ∀{P:List Str} {vs:List Value} {i:Nat} {m:Str->Option Value},P.Nodup->P[i]? =some x->vs[i]? =some v->kindOf x≠some .local→
  bindC kindOf (P.zip vs) m x=some v
 |[],_,_,_,_,h,_,_=>by simp at h
 |_::_,[],_,_,_,_,h,_=>by simp at h
 |p::P,w::vs,0,m,nd,h1,h2,hk=>by
  simp at h1 h2;subst h1;subst h2;show bindC kindOf ((p,w)::P.zip vs) m p=_;unfold bindC;rw[MV fun v hv=>(Cb.mp nd).1 (Jf hv).1,if_neg hk];simp
 |p::P,w::vs,i+1,m,nd,h1,h2,hk=>by
  show bindC kindOf ((p,w)::P.zip vs) m x=_;unfold bindC;exact MU (i:=i) (Cb.mp nd).2 (by simpa using h1) (by simpa using h2) hk
def start(N:List Str)(vs:List V):St:=vs.map some++Bj (N.length - vs.length) none
noncomputable def LO(CX:CXT)(P:Bn)(w:World)(K:An)(mg:Str->Option Value)(base:Heap)(N:List Str)(qual:Str)(scope:Scope)(f:Addr)(cd:Value)(A:De)(outer:List Env)(s:Ah)(H:Hp)(E:XK):Cx where
 prog:=P
 w:=w
 K:=K
 mg:=mg
 base:=base
 A:=A.deeper (Ib qual scope s.heap.objs.size f cd)
 N:=N
 s₀:=s
 H₀:=H
 env:=Ib qual scope s.heap.objs.size f cd
 outer:=outer
 stack:=Ib qual scope s.heap.objs.size f cd::outer
 ex:=[]
 calm:=true
 fn:=fun _=>true
 pn:=[]
 xe:=fun e s'=>wpAny (model P w) (A.deeper (Ib qual scope s.heap.objs.size f cd)) (leaving (Ib qual scope s.heap.objs.size f cd) e) (fun _ s''=>CX outer H s E e s'') (fun e' s''=>CX outer H s E e' s'') s'
theorem JI{sc:Scope}{n:Nat}{x:Str}(h:sc.names.lookup x=some .cell): ∃c,(cellsFrom n sc.names []).lookup x=some c:=by
 have q:=Ln sc.names n [] (.inl h);exact Option.isSome_iff_exists.mp q
theorem EH{CX:CXT}{P:Bn}{w:World}{K:An}{mg:Str->Option Value}{base:Heap}{N ps:List Str}{qual:Str}{scope:Scope}{f:Addr}{cd:Value}{A:De}{outer:List Env}{s s1:Ah}{H:Hp}{E:XK}{us:List Value}{vs:List V}
  (S:cS N ps scope) (hd:A.handled=none) (e0:Env0 P w K mg base A outer s H) (hl:vs.length=ps.length) (r:bJ vs us)
  (x:InCallC s s.heap.objs.size (bindL (Ib qual scope s.heap.objs.size f cd).kindOf (ps.zip us) fun _=>none) (cellsFrom (s.heap.objs.size+1) scope.names []) (bindC (Ib qual scope s.heap.objs.size f cd).kindOf (ps.zip us) fun _=>none) s1):
  cL (LO CX P w K mg base N qual scope f cd A outer s H E) [] (start N vs) H s1:=by
 have hpl:ps.length<=N.length:=by have:=congrArg List.length S.pre;rw[Dj] at this;lia
 obtain⟨h1,tk,rfl,hk⟩:=x.done;have noA: ∀b:Addr,b∉(LO CX P w K mg base N qual scope f cd A outer s H E).ex:=fun b z=>absurd (show b∈([]:List Addr) from z) (by simp);refine⟨⟨e0.mod,S.kind,rfl,rfl,Aw _,fun y z c h1 h2=> ?_,fun y hy=> ?_,fun y c _ h=> ?_,fun _=>hd,Around.frames_deeper e0.frames,.inr ⟨rfl,rfl⟩,fun b z=>absurd z (noA b),e0.bs,e0.bsz,fun b _ _=>noA b,fun b z=>absurd z (noA b),e0.funs,e0.frf⟩,
  rfl,e0.bare,Un.kept hk,⟨_,x.toInCall.ns,fun i y v h1 h2 h3=> ?_⟩,fun y c h=>⟨_,x.cell y c h⟩,e0.hok.fresh (Aw _),fun y c h=> ?_,fun p hp=>absurd (show p∈([]:List (Addr×Obj)) from hp) (by simp),e0.hok.kept hk,?_⟩
 ·exact name_of_addr x.apart (Ch h1) (Ch h2)
 ·have hy:scope.names.lookup y=some .cell∨scope.names.lookup y=some .free:=hy
  rcases hy with hy|hy
  ·exact JI hy
  ·exact absurd rfl (S.nofree _ (Ch hy))
 ·exact Lh (x.above y c (Ch h))
 ·have hi:i<vs.length:=by
   unfold start at h2;by_cases hi:i<vs.length
   ·exact hi
   ·rw [As (by simpa using hi)] at h2
    rw[Df] at h2;split at h2<;>cases h2
  have ha:vs[i]? =some v:=by
   unfold start at h2;rw[Af (by simpa using hi),Dz] at h2;cases e:vs[i]? with
   |none=>rw[e] at h2;cases h2
   |some a=>rw[e] at h2;cases h2;rfl
  obtain⟨u,hu,rv⟩:=r.get ha;have hp:ps[i]? =some y:=by rw[<- S.pre,Cn (by lia)];exact h1
  have ndP:ps.Nodup:=by rw[<- S.pre];exact S.nd.sublist (List.take_sublist _ _)
  refine⟨u,rv,?_⟩;rcases S.par y (Di hp) with k|k
  ·exact .inl ⟨k,MW ndP hp hu k⟩
  ·obtain⟨c,e⟩:=JI (n:=s.heap.objs.size+1) k
   refine .inr ⟨.inl k,c,e,?_⟩;have q:=x.cell y c e;rw[MU ndP hp hu (by show scope.names.lookup y≠_;rw[k];decide)] at q;exact q
 ·exact e0.hok.fresh (Lh (x.above y c (Ch h)))
 ·unfold start
  show _=N.length;rw[Br,Bz,Jg];lia
theorem zCG{CX:CXT}{P:Bn}{w:World}{K:An}{mg:Str->Option Value}{base:Heap}{k:Nat}{f:Addr}{name qual:Str}{params:Arguments}{body:List Stmt}{scope:Scope}{dV kV doc pm cdv ct oc:Value}{an od:Option Addr}
  {osl:Array (Option Value)} {N ps:List Str} {sp:Sp} (lk:K.lookup f=some ⟨oc,od,.func (Hh name qual params body scope dV kV doc pm an cdv ct),osl⟩) (hcd:Hs K cdv qual=true) (S:cS N ps scope)
  (len: ∀vs H Q E,sp vs H Q E->vs.length=ps.length)
  (bm: ∀(A:De) (outer:List Env) (s:Ah) (H:Hp) (vs:List V) (Q:VK) (E:XK),YH k (A.deeper (Ib qual scope s.heap.objs.size f cdv))->sp vs H Q E→
   ∃t,PB (LO CX P w K mg base N qual scope f cdv A outer s H E) body t/\t {nx:=fun _ H'=>Q .non H',rt:=Q} (start N vs) H):
  bC P w K mg base CX (k+1) f (Hh name qual params body scope dV kV doc pm an cdv ct) ps sp:=by
 refine⟨len,fun A outer s H args us vs Q E hr e0 hb r hsp=> ?_⟩;have hl:=len _ _ _ _ hsp;have KX:K.In s.heap:=e0.mod.kin.keeps fun b o e=>(e0.bs b o e).1;have lim:s.heap.NoLimit:=e0.mod.nolimit.keeps fun b o e=>(e0.bs b o e).1;have lm: ∀y∈ps.zip us,scope.names.lookup y.1=some .local∨(scope.names.lookup y.1=some .cell/\((cellsFrom (s.heap.objs.size+1) scope.names []).lookup y.1).isSome=true):=fun⟨n,v⟩ hy=>by
  rcases S.par n (Jf hy).1 with q|q
  ·exact .inl q
  ·exact .inr ⟨q,Ln _ _ _ (.inl q)⟩
 refine codeAny_call_function hr.depth (KX _ _ lk) rfl S.co S.gen rfl (W.codeRec_of KX hcd) (hb _ _ _ _ ?_);refine wpAny_newFunctionEnv_cells S.kind lm fun env he s1 x=> ?_;subst he;refine⟨lim.keeps x.toInCall.keep,codeAny_func ?_⟩;obtain⟨t,ht,hq⟩:=bm A outer s H vs Q E (hr.deeper _) hsp;have I:cL (LO CX P w K mg base N qual scope f cdv A outer s H E) [] (start N vs) H s1:=EH S hr.hd e0 hl r x;refine Cm (ht [] s1 (start N vs) H _ I hq) (fun fl s' hs=> ?_) fun e s' hs=>hs;have fin: ∀{σ':St} {H':Hp} {v:V} {u:Value},cL (LO CX P w K mg base N qual scope f cdv A outer s H E) [] σ' H' s'->b6 v u->Q v H'->CE outer P w H s Q u s':=
  fun{σ' H' v u} J rv q=>⟨v,H',J.os,J.bare,J.base,J.hok,rv,q⟩
 cases fl with
 |ret u=>
  obtain⟨v,σ',H',J,rv,q⟩:=hs;exact fin J rv q
 |next=>
  obtain⟨σ',H',J,q⟩:=hs;exact fin (v:=V.non) (u:=Value.none) J rfl q
 |brk=>
  obtain⟨_,_,_,q⟩:=hs;exact Fi q
 |cont=>
  obtain⟨_,_,_,q⟩:=hs;exact Fi q
section
variable{X:Cx}{x:Str}{p pos:Pos}{e:Expr}{es:List Expr}{t:TA}{id T:String}{r:List V->Hp->VK->Prop}
def tCB(r:List V->Hp->VK->Prop)(t:TA):TE:=fun σ H Q=>t σ H fun vs H1=>r vs H1 Q
theorem KG(hc:Z6 X (.builtin id) r)(hg:Gl X x)(hm:X.mg x=none)(hv:Bo x=some (.builtin id))(ha:PA X (e::es) t)(hn:x≠ "__name__":=by decide) (hdb:(x==("__debug__":Str))=false:=by decide)
  (he:Ag (e::es) X.env=(false,eval e X.env)::Ag es X.env:=by rfl) (hpl:(Er pos (Ag es X.env)).any (·.1)=false:=by rfl):PE X (.Call (.Name x p) (e::es) [] pos) (tCB r t):=by
 intro aa s σ H Q I h;refine Ej (QV I hg hm hv ?_ hn hdb);exact PyProof.Rows.callWith_builtin1 (ZA (ha pos aa s σ H _ I h) fun us s1 ⟨vs,H1,I1,r1,q1⟩=>hc aa s1 σ H1 vs us Q I1 r1 q1) he hpl
theorem UL(hc:Z6 X (.type T) r)(hg:Gl X x)(hm:X.mg x=none)(hv:Bo x=some (.type T))(ha:PA X (e::es) t)(hn:x≠ "__name__":=by decide) (hdb:(x==("__debug__":Str))=false:=by decide)
  (he:Ag (e::es) X.env=(false,eval e X.env)::Ag es X.env:=by rfl) (hpl:(Er pos (Ag es X.env)).any (·.1)=false:=by rfl):PE X (.Call (.Name x p) (e::es) [] pos) (tCB r t):=by
 intro aa s σ H Q I h;refine Ej (QV I hg hm hv ?_ hn hdb);exact Eb (ZA (ha pos aa s σ H _ I h) fun us s1 ⟨vs,H1,I1,r1,q1⟩=>hc aa s1 σ H1 vs us Q I1 r1 q1) he hpl
end
end L2
namespace HT
open PySem PyProof.Rows
section
variable{prog:Bn}{w:World}{A:De}{E:Value->Ah->Prop}{s:Ah}
theorem zBJ{t b:Addr}{vs ws:List Value}{Q:Value->Ah->Prop}(ht:IsTup s.heap t vs.toArray)(hb:IsTup s.heap b ws.toArray)(hv:vs≠[])
  (h1:ws=[]->Q (.ref t) s) (h2:ws≠[]->Q (.ref s.heap.objs.size) {s with heap:=s.heap.push {cls:= .type "tuple",data:= .seq (vs++ws).toArray}})
  (hsz:vs.length+ws.length<=sizeLine):wpAny (model prog w) A (Fd .Add (.ref t) (.ref b)) Q E s:=by
 obtain⟨⟨cls,dd,data,sl⟩,ho,hc,n,hd⟩:=id ht;obtain⟨⟨lv,dd2,data2,sl2⟩,ho2,hc2,n2,hd2⟩:=id hb;simp only at hc hd hc2 hd2;subst hc hd hc2 hd2;have e:vs.toArray++ws.toArray=(vs++ws).toArray:=by simp
 by_cases hw:ws=[]
 ·exact Jh ⟨_,ho,rfl⟩ ⟨_,ho2,rfl⟩ Ip Kp Gh Gb (Fp _ _)
   (tuple_addW1 t b vs.toArray ws.toArray n n2 dd dd2 sl sl2 (by simpa using hv) (by simp[hw])) ⟨ho,ho2,h1 hw⟩
 ·refine Jh ⟨_,ho,rfl⟩ ⟨_,ho2,rfl⟩ Ip Kp Gh Gb (Fp _ _)
   (tuple_addW2 t b vs.toArray ws.toArray n n2 dd dd2 sl sl2 (by simpa using hv) (by simpa using hw) (by rw[Au,Au];exact hsz)) ⟨ho,ho2,?_⟩
  rw[e];exact h2 hw
noncomputable def sIx(n d:Nat):Option Int->Nat
 |none=>d
 |some v=>if v<0 then(v+(n:Int)).toNat else min v.toNat n
theorem KU(n d:Nat):sIx n d none=d:=rfl
theorem GO(n d k:Nat):sIx n d (some (k:Int))=min k n:=by
 show(if(k:Int)<0 then((k:Int)+(n:Int)).toNat else min (k:Int).toNat n)=min k n;rw[if_neg (by lia),Cy]
theorem zDQ(n d:Nat)(hd:d<=n)(o:Option Int):sIx n d o<=n:=by
 cases o with
 |none=>exact hd
 |some v=>
  show(if v<0 then(v+(n:Int)).toNat else min v.toNat n)<=n;by_cases hv:v<0
  ·rw[if_pos hv];lia
  ·rw[if_neg hv];exact Nat.min_le_right _ _
theorem FS(v:Int)(n d:Nat):(if v<0 then max (v+(n:Int)) 0 else min v (n:Int))=((sIx n d (some v):Nat):Int):=by
 show(if v<0 then max (v+(n:Int)) 0 else min v (n:Int))=(((if v<0 then(v+(n:Int)).toNat else min v.toNat n):Nat):Int);by_cases hv:v<0
 ·simp only[if_pos hv];lia
 ·simp only[if_neg hv];lia
theorem G8(lo hi:Option Int)(n:Nat):Fk lo hi 1 (n:Int)=(((sIx n 0 lo:Nat):Int),((sIx n n hi:Nat):Int)):=by
 have h1: ¬((1:Int)<0):=by lia
 unfold Fk;simp only[h1,if_false];refine Prod.ext ?_ ?_
 ·cases lo with
  |none=>rfl
  |some v=>exact FS v n 0
 ·cases hi with
  |none=>rfl
  |some v=>exact FS v n n
theorem IC(i j:Nat):Em (i:Int) (j:Int) 1=j - i:=by
 unfold Em;have h1:(1:Int)>0:=by lia
 simp only[h1,if_true,Int.ediv_one];split<;>lia
theorem O0{v:Value}{o:Option Int}{Q:Option Int->Ah->Prop}(p:IsPart v o)(h:Q o s):wpAny (model prog w) A (Lu v) Q E s:=by
 cases p with
 |none=>exact slicePart_none h
 |int i t=>exact slicePart_int h
theorem WH{sl:Addr}{vl vu:Value}{lo hi:Option Int}{n:Nat}{Q:Int×Int×Nat->Ah->Prop}(hs:s.heap.IsSliceOf sl vl vu .none)(pl:IsPart vl lo)(pu:IsPart vu hi)
  (h:Q (((sIx n 0 lo:Nat):Int),1,sIx n n hi - sIx n 0 lo) s):wpAny (model prog w) A (Hq (.ref sl) (pure (n:Int))) Q E s:=by
 obtain⟨os,hos,hcs,hds⟩:=id hs;unfold Hq Mo;refine Ac (Ac (Dg hos hds (x:=vl) rfl (Ac (Dg hos hds (x:=vu) rfl (Ac (Dg hos hds (x:= .none) rfl (Ao ?_)))))));refine Ac (slicePart_none ?_);show wpAny _ _ (if((1:Int)==0)=true then _ else _) _ _ s;rw[if_neg (by decide)];refine Ac (O0 pl (Ac (O0 pu (Ac (Ao ?_)))));show wpAny _ _ (match Fk lo hi 1 (n:Int) with|(lo,hi)=>pure (lo,(1:Int),Em lo hi 1)) _ _ s;rw[G8 lo hi n];show wpAny _ _ (pure (((sIx n 0 lo:Nat):Int),(1:Int),Em ((sIx n 0 lo:Nat):Int) ((sIx n n hi:Nat):Int) 1)) _ _ s;rw[IC];exact Ao h
theorem BR(xs:Array Value)(i k:Nat):((Bt k).filterMap fun(m:Nat)=>xs[((i:Int)+(m:Int)*1).toNat]?).toArray=((xs.toList.drop i).take k).toArray:=by
 have e:(fun(m:Nat)=>xs[((i:Int)+(m:Int)*1).toNat]?)=fun m=>xs[i+m]? :=by
  funext m;have:((i:Int)+(m:Int)*1).toNat=i+m:=by lia
  rw[this]
 rw[e];have:=pick_run xs i k;rw[List.filterMap_map] at this;have e2:((fun x=>xs[x]?)∘fun x=>i+x)=fun m=>xs[i+m]? :=rfl;rw[e2] at this;rw[this]
theorem RO{t sl:Addr}{items:Array Value}{vl vu:Value}{lo hi:Option Int}{Q:Value->Ah->Prop}(ht:IsTup s.heap t items)(hs:s.heap.IsSliceOf sl vl vu .none)(pl:IsPart vl lo)(pu:IsPart vu hi)
  (hw: ¬(sIx items.size 0 lo=0/\sIx items.size items.size hi=items.size))
  (h:Q (.ref s.heap.objs.size) {s with heap:=s.heap.push {cls:= .type "tuple",data:= .seq ((items.toList.drop (sIx items.size 0 lo)).take (sIx items.size items.size hi - sIx items.size 0 lo)).toArray}})
  (hsz:items.size<=sizeLine):wpAny (model prog w) A (Ih (.ref t) (.ref sl)) Q E s:=by
 have bp:sizeOk (.seq ((items.toList.drop (sIx items.size 0 lo)).take (sIx items.size items.size hi - sIx items.size 0 lo)).toArray):=by
  show((items.toList.drop (sIx items.size 0 lo)).take (sIx items.size items.size hi - sIx items.size 0 lo)).toArray.size<=sizeLine;rw[Au,Dj,Lo,Ea];lia
 have hj:sIx items.size items.size hi<=items.size:=zDQ _ _ (Aw _) hi;obtain⟨os,hos,hcs,hds⟩:=id hs;have hTs:s.TypeIs (.ref sl) "slice":=⟨os,hos,hcs⟩;unfold Ih;try with_reducible refine Cg ?_
 first|refine Ac (Ao ?_)|skip
 refine Ac (Ic ht.typeIs (by decide) ?_);refine Ac (Cr (name:=Ar "__getitem__") ht.typeIs Dm
  (Dt Dm ht.typeIs entry_tuple_getitem ?_ (args_tuple_getitem _ _)))
 show wpAny _ _ (Hr (.ref t)>>=_) _ _ s;refine Ac (tupleItemsOf_ ht ?_);refine Ac (Lj hTs ?_);rw[if_pos (by decide)];refine Ac (WH hs pl pu ?_);have hno: ¬((((sIx items.size 0 lo:Nat):Int)==0 && (1:Int)==1 && (sIx items.size items.size hi - sIx items.size 0 lo)==items.size)=true):=by
  intro q;rw[Ad,Ad] at q;have q1:((sIx items.size 0 lo:Nat):Int)=0:=eq_of_beq q.1.1;have q2:sIx items.size items.size hi - sIx items.size 0 lo=items.size:=eq_of_beq q.2;exact hw ⟨by lia,by lia⟩
 show wpAny _ _ (if(((sIx items.size 0 lo:Nat):Int)==0 && (1:Int)==1 && (sIx items.size items.size hi - sIx items.size 0 lo)==items.size)=true then _ else _) _ _ s;rw[if_neg hno,BR]
 first
  |exact Ac (m:=Et _) (Cw (Ao ⟨_,rfl,Ao h⟩) bp)
  |exact Ac (m:=Et _) (Cw (Ac (Ao (Ao ⟨_,rfl,Ao h⟩))) bp)
  |exact Ac (Ac (m:=Et _) (Cw (Ao (Ao ⟨_,rfl,Ao h⟩)) bp))
  |exact Ac (Ac (m:=Et _) (Cw (Ao ⟨_,rfl,Ao h⟩) bp))
end
end HT
namespace L2
open PySem PySem.Spec PyProof.Rows
abbrev TO:=St->Hp->(Option Int->Hp->Prop)->Prop
def PO(X:Cx)(e:Option Expr)(t:TO):Prop:=
 ∀(aa:List (Addr×Obj)) (s:Ah) (σ:St) (H:Hp) (Q:Option Int->Hp->Prop),cL X aa σ H s->t σ H Q→
  wpAny (model X.prog X.w) X.A (evalPart e X.env) (fun u s'=> ∃o H',cL X aa σ H' s'/\IsPart u o/\Q o H') X.xe s
def zA9:TO:=fun _ H Q=>Q none H
def zGM(t:TE):TO:=fun σ H Q=>t σ H fun x H1=> ∃i,x= .int i/\Q (some i) H1
section
variable{X:Cx}{e:Expr}{te:TE}{lo hi:Option Expr}{tl th:TO}{pos p2:Pos}
theorem zAN:PO X none zA9:=by
 intro aa s σ H Q I h;rw[evalPart_none];exact Ao ⟨none,H,I,.none,h⟩
theorem zAM(h:PE X e te):PO X (some e) (zGM te):=by
 intro aa s σ H Q I hw;rw[evalPart_some];refine ZA (h aa s σ H _ I hw) fun u s1 ⟨x,H1,I1,r1,q1⟩=> ?_;obtain⟨i,rfl,q⟩:=q1;obtain⟨t,rfl⟩:=r1;exact⟨some i,H1,I1,.int i t,q⟩
def SlR(X:Cx)(r:V->Option Int->Option Int->Hp->VK->Prop):Prop:=
 ∀(aa:List (Addr×Obj)) (s:Ah) (σ:St) (H:Hp) (x:V) (v vl vu:Value) (lo hi:Option Int) (sl:Addr) (Q:VK),cL X aa σ H s->b6 x v->s.heap.IsSliceOf sl vl vu .none->IsPart vl lo->IsPart vu hi->r x lo hi H Q→
  ∃T id,typeLookup (.type T) "__getitem__"=pure (some (.builtin id))/\s.TypeIs v T/\wpAny (model X.prog X.w) X.A (Ih v (.ref sl)) (EP X aa σ Q) X.xe s
theorem SlR.or{r r':V->Option Int->Option Int->Hp->VK->Prop}(h:SlR X r)(h':SlR X r'):SlR X (fun x lo hi H Q=>r x lo hi H Q∨r' x lo hi H Q):=by
 intro aa s σ H x v vl vu lo hi sl Q I rx hs pl pu q;rcases q with q|q
 ·exact h aa s σ H x v vl vu lo hi sl Q I rx hs pl pu q
 ·exact h' aa s σ H x v vl vu lo hi sl Q I rx hs pl pu q
def tSl(r:V->Option Int->Option Int->Hp->VK->Prop)(te:TE)(tl th:TO):TE:=fun σ H Q=>te σ H fun x H1=>tl σ H1 fun l H2=>th σ H2 fun u H3=>r x l u H3 Q
theorem BQ{r:V->Option Int->Option Int->Hp->VK->Prop}(hr:SlR X r)(he:PE X e te)(hl:PO X lo tl)(hu:PO X hi th):PE X (.Subscript e (.Slice lo hi none p2) pos) (tSl r te tl th):=by
 intro aa s σ H Q I h;refine Subscript_ (ZA (he aa s σ H _ I h) fun v s1 ⟨x,H1,I1,r1,q1⟩=> ?_);refine wpAny_Slice (ZA (hl aa s1 σ H1 _ I1 q1) fun vl s2 ⟨l,H2,I2,pl,q2⟩=>ZA (hu aa s2 σ H2 _ I2 q2) fun vu s3 ⟨u,H3,I3,pu,q3⟩=> ?_);rw[evalPart_none];refine Ao ?_;have I4:cL X aa σ H3 {s3 with heap:=s3.heap.push {cls:= .type "slice",data:= .fields #[vl,vu,.none]}}:=I3.kept (t':=s3.toks) fun b ob q=>Ae _ q;obtain⟨T,id,hT,ht,hg⟩:=hr aa {s3 with heap:=s3.heap.push {cls:= .type "slice",data:= .fields #[vl,vu,.none]}} σ H3 x v vl vu l u s3.heap.objs.size Q I4 r1 (Nu ..) pl pu q3;show wpAny (model X.prog X.w) X.A (subscriptTail e (.Slice lo hi none p2) v (.ref s3.heap.objs.size)) (EP X aa σ Q) X.xe {s3 with heap:=s3.heap.push {cls:= .type "slice",data:= .fields #[vl,vu,.none]}};exact Nb (ops:=[.ref s3.heap.objs.size,v]) ht hT hg (by with_unfolding_all rfl)
def JL(xs:List V)(lo hi:Option Int):List V:=(xs.drop (HT.sIx xs.length 0 lo)).take (HT.sIx xs.length xs.length hi - HT.sIx xs.length 0 lo)
theorem P9(xs:List V)(lo hi:Option Int):(JL xs lo hi).length<=xs.length:=by
 unfold JL;rw[Dj,Lo];lia
def rSlT(K:An):V->Option Int->Option Int->Hp->VK->Prop:=fun x lo hi H Q=> ∃a xs,x= .ref a/\VR K H a xs∧
 ¬(HT.sIx xs.length 0 lo=0/\HT.sIx xs.length xs.length hi=xs.length)/\ ∀p,H p=none->Q (.ref p) (aS H p (.tup (JL xs lo hi)))
theorem zD2:SlR X (rSlT X.K):=by
 intro aa s σ H x v vl vu lo hi sl Q I rx hs pl pu h;obtain⟨a,xs,rfl,hx,hw,q⟩:=h;cases rx;obtain⟨its,r,ht,hz⟩:=I.tuple hx;have am:its.toArray.size=xs.length:=by rw[Au];exact r.length.symm
 refine⟨"tuple",_,PyProof.Rows.slot_tuple_getitem.lookup,ht.typeIs,?_⟩;refine HT.RO ht hs pl pu (by rw[am];exact hw) ?_ (by rw[am];exact hz);rw[am];refine⟨.ref s.heap.objs.size,_,I.laid (t':=s.toks) (o:= .tup (JL xs lo hi)) (fun b ob q=>Ae _ q) (Aw _) ?_,rfl,q _ (I.hok.fresh (Aw _))⟩;exact⟨Eh (P9 xs lo hi) hz,_,(r.drop (HT.sIx xs.length 0 lo)).take (HT.sIx xs.length xs.length hi - HT.sIx xs.length 0 lo),Jd _ _⟩
theorem bJ.nil_iff{xs:List V}{us:List Value}(r:bJ xs us):us=[]↔xs=[]:=by
 cases r with
 |nil=>simp
 |cons _ _=>simp
end
noncomputable def JY(n:Nat)(i:Int):Option Nat:=if 0<=i then(if i<n then some i.toNat else none) else if -(n:Int)<=i then some (i+n).toNat else none
def W4{α:Type}(xs:List α)(i:Int):Option α:=(JY xs.length i).bind fun j=>xs[j]?
theorem FY{n:Nat}{i:Int}{j:Nat}(h:JY n i=some j):seqIndex? i n=some j/\j<n/\ -(n:Int)<=i/\i<n:=by
 unfold JY at h;by_cases h0:0<=i
 ·rw[if_pos h0] at h
  by_cases h1:i<n
  ·rw[if_pos h1] at h
   have e:i.toNat=j:=By h;exact⟨by rw[Md h0 h1,e],by lia,by lia,h1⟩
  ·rw[if_neg h1] at h;cases h
 ·rw[if_neg h0] at h
  by_cases h1: -(n:Int)<=i
  ·rw[if_pos h1] at h
   have e:(i+n).toNat=j:=By h;exact⟨by rw[Lk (by lia) h1,e],by lia,h1,by lia⟩
  ·rw[if_neg h1] at h;cases h
theorem LB{α:Type}{xs:List α}{i:Int}{v:α}(h:W4 xs i=some v): ∃j,seqIndex? i xs.length=some j/\xs[j]? =some v/\j<xs.length/\ -(xs.length:Int)<=i/\i<xs.length:=by
 unfold W4 at h;cases e:JY xs.length i with
 |none=>rw[e] at h;cases h
 |some j=>
  rw[e] at h;obtain⟨h1,h2,h3,h4⟩:=FY e;exact⟨j,h1,h,h2,h3,h4⟩
def PC(b:Expr):Prop:= ∀o i,subscripted b false o i=operate [o,i] (Ih o i)
def DW(X:Cx)(r:R2):Prop:=
 ∀(value slice:Expr) (aa:List (Addr×Obj)) (s:Ah) (σ:St) (H:Hp) (x y:V) (v u:Value) (Q:VK),cL X aa σ H s->b6 x v->b6 y u->r x y H Q→
  subscripted slice false v u=operate [v,u] (Ih v u)->wpAny (model X.prog X.w) X.A (subscriptTail value slice v u) (EP X aa σ Q) X.xe s
def MtR(X:Cx)(id:String)(r:V->List V->Hp->VK->Prop):Prop:=
 ∀(aa:List (Addr×Obj)) (s:Ah) (σ:St) (H:Hp) (x:V) (xs:List V) (v:Value) (us:List Value) (Q:VK),cL X aa σ H s->b6 x v->bJ xs us->r x xs H Q→
  wpAny (model X.prog X.w) X.A (call (.builtin id) (v::us)) (EP X aa σ Q) X.xe s
section
variable{X:Cx}{a b:Expr}{ta tb:TE}{pos:Pos}
theorem DW.or{r r':R2}(h:DW X r)(h':DW X r'):DW X (fun x y H Q=>r x y H Q∨r' x y H Q):=by
 intro value slice aa s σ H x y v u Q I rx ry q hs;rcases q with q|q
 ·exact h value slice aa s σ H x y v u Q I rx ry q hs
 ·exact h' value slice aa s σ H x y v u Q I rx ry q hs
theorem zC1{r:R2}(hr:DW X r)(ha:PE X a ta)(hb:PE X b tb)(hs:PC b):PE X (.Subscript a b pos) (tOp r ta tb):=by
 intro aa s σ H Q I h;exact Subscript_ (binT ha hb I h fun v u s2 x y H2 I2 rx ry q=>hr a b aa s2 σ H2 x y v u Q I2 rx ry q (hs _ _))
def rIxL(K:An):R2:=fun x y H Q=> ∃p xs i v,x= .ref p/\y= .int i/\WZ K H p xs/\W4 xs i=some v/\Q v H
def rIxT(K:An):R2:=fun x y H Q=> ∃p xs i v,x= .ref p/\y= .int i/\VR K H p xs/\W4 xs i=some v/\Q v H
def rIxS:R2:=fun x y H Q=> ∃z i c,x= .str z/\y= .int i/\z.length<=sizeLine/\W4 z.cps.toList i=some c/\Q (.str ⟨#[c]⟩) H
theorem zBA:DW X (rIxL X.K):=by
 intro value slice aa s σ H x y v u Q I rx ry h hs;obtain⟨p,xs,i,z,rfl,rfl,hq,he,q⟩:=h;cases rx;obtain⟨t,rfl⟩:=ry;obtain⟨its,r,pl,hz⟩:=I.list hq;obtain⟨j,h1,h2,h3,h4,h5⟩:=LB he;obtain⟨w,ew,rw'⟩:=r.get h2;have hl:=r.length;have hn:=QW;have fin:EP X aa σ Q w s:=⟨z,H,I,rw',q⟩;by_cases h0:0<=i
 ·have hj:i.toNat=j:=by
   rw[Md h0 h5] at h1;exact By h1
  exact item_listR pl.isList h0 (by lia) (by rw[hj];simpa using ew) fin hs
 ·have hj:(i+(its.toArray.size:Int)).toNat=j:=by
   rw[Lk (by lia) h4] at h1;rw[Au,<- hl];exact By h1
  exact Iw (x:=w) pl.isList.typeIs slot_list_getitem.lookup
   (wpAny_getItem_list_neg (Q:=fun r s'=>r=w/\EP X aa σ Q r s') pl.isList (by lia) (by rw[Au]<;>lia) (by lia) (by rw[hj];simpa using ew) ⟨rfl,fin⟩) hs
theorem zFU:DW X (rIxT X.K):=by
 intro value slice aa s σ H x y v u Q I rx ry h hs;obtain⟨p,xs,i,z,rfl,rfl,hq,he,q⟩:=h;cases rx;obtain⟨t,rfl⟩:=ry;obtain⟨its,r,pl,hz⟩:=I.tuple hq;obtain⟨j,h1,h2,h3,h4,h5⟩:=LB he;obtain⟨w,ew,rw'⟩:=r.get h2;have hl:=r.length;have hn:=QW;have fin:EP X aa σ Q w s:=⟨z,H,I,rw',q⟩;exact Iw (x:=w) pl.typeIs slot_tuple_getitem.lookup
  (getItem_tuple (j:=j) (Q:=fun r s'=>r=w/\EP X aa σ Q r s') pl (by lia) (by lia) (by rw[Au,<- hl];exact h1) (by simpa using ew) ⟨rfl,fin⟩) hs
theorem zFV:DW X rIxS:=by
 intro value slice aa s σ H x y v u Q I rx ry h hs;obtain⟨z,i,c,rfl,rfl,hz,he,q⟩:=h;obtain⟨t,rfl⟩:=rx;obtain⟨t',rfl⟩:=ry;obtain⟨j,h1,h2,h3,h4,h5⟩:=LB he;have hl:z.cps.toList.length=z.length:=by simp[Str.length]
 rw[hl] at h1 h4 h5;have hn:=QW;exact Nb (typeIs_str s z t) slot_str_getitem.lookup (getItem_str (c:=c) (by
  have e1:decide (i< -(2 ^ 63:Int))=false:=decide_eq_false (by lia);have e2:decide (i≥2 ^ 63)=false:=decide_eq_false (by lia);rw[e1,e2,Bool.or_false]) (by rw[h1];simpa using h2) ⟨.str ⟨#[c]⟩,H,I.tok _,⟨_,rfl⟩,q⟩) hs
def rIx(K:An):R2:=fun x y H Q=>rIxL K x y H Q∨rIxT K x y H Q∨rIxS x y H Q
theorem zFW:DW X (rIx X.K):=zBA.or (zFU.or zFV)
theorem HU(its:List Value)(n j:Nat)(u:Value):Jv (·.setIfInBounds j u) {cls:= .type "list",data:= .seq its.toArray n}={cls:= .type "list",data:= .seq (its.set j u).toArray n}:=by simp[Jv]
theorem cL.lst{aa:List (Addr×Obj)}{σ:St}{H:Hp}{s:Ah}{p:Addr}{xs:List V}(I:cL X aa σ H s)(h:H p=some (.lst xs)):
  ∃(its:List Value) (n:Nat),bJ xs its/\s.heap.get? p=some {cls:= .type "list",data:= .seq its.toArray n}/\xs.length<=sizeLine:=by
 obtain⟨z,its,n,r,e⟩:=I.hok p _ h;exact⟨its,n,r,e,z⟩
theorem cL.lstUpd{aa:List (Addr×Obj)}{σ:St}{H:Hp}{s:Ah}{p:Addr}{xs ys:List V}{its its':List Value}{n n':Nat}{f:Obj->Obj}(I:cL X aa σ H s)(h:H p=some (.lst xs))
  (ho:s.heap.get? p=some {cls:= .type "list",data:= .seq its.toArray n}) (hf:f {cls:= .type "list",data:= .seq its.toArray n}={cls:= .type "list",data:= .seq its'.toArray n'}) (r:bJ ys its') (hz:ys.length<=sizeLine) (t:Nat):
  cL X aa σ (aS H p (.lst ys)) {s with heap:=s.heap.update p f,toks:=t}:=by
 have e:(s.heap.update p f).get? p=some {cls:= .type "list",data:= .seq its'.toArray n'}:=by rw[Ji f ho (by rw[hf]<;>rfl),hf]
 refine I.write (x:=p) (e:=p) (by rw[h];trivial) (.inl rfl) (fun b u hb q=>(Ix _ _ (Cq hb)).trans q) ⟨_,e⟩ ?_;exact⟨hz,its',n',r,e⟩
def zHB:V->V->V->Hp->(Hp->Prop)->Prop:=fun o i v H Q=> ∃p xs k j,o= .ref p/\i= .int k/\H p=some (.lst xs)/\JY xs.length k=some j/\Q (aS H p (.lst (xs.set j v)))
theorem CK:PSet X zHB:=by
 intro aa s σ H o i v ov iv u Q I ro ri rv h;obtain⟨p,xs,k,j,rfl,rfl,hp,hj,q⟩:=h;cases ro;obtain⟨t,rfl⟩:=ri;obtain⟨its,n,r,ho,hz⟩:=I.lst hp;obtain⟨h1,h2,h3,h4⟩:=FY hj;have hl:=r.length;have hn:=QW;have I':cL X aa σ (aS H p (.lst (xs.set j v))) {s with heap:=s.heap.update p (Jv (·.setIfInBounds j u))}:=
  I.lstUpd hp ho (HU its n j u) (r.set rv j) (by rw[Ce];exact hz) s.toks
 by_cases h0:0<=k
 ·have hk:k.toNat=j:=by
   rw[Md h0 h4] at h1;exact By h1
  exact W.ki_setAt ho h0 (by lia) (by rw[Au,<- hl];exact h4) (by rw[hk];exact⟨_,I',q⟩)
 ·have hk:(k+(its.toArray.size:Int)).toNat=j:=by
   rw[Lk (by lia) h3] at h1;rw[Au,<- hl];exact By h1
  exact W.ki_setBack ho (by lia) (by rw[Au,<- hl];exact h3) (by lia) (by rw[hk];exact⟨_,I',q⟩)
theorem MJ(lo hi:Option Int)(n:Nat):(Gp lo hi none n).1=((HT.sIx n 0 lo:Nat):Int)/\(Gp lo hi none n).2.1=((HT.sIx n n hi:Nat):Int)/\(Gp lo hi none n).2.2=1:=by
 refine⟨?_,?_,rfl⟩
 ·cases lo with
  |none=>simp[Gp,HT.sIx]
  |some i=>
   simp only[Gp,HT.sIx,Lp,show(1:Int)>0 by decide,if_true];by_cases h:i<0
   ·simp only[h,if_true]<;>lia
   ·simp only[h,if_false]<;>lia
 ·cases hi with
  |none=>simp[Gp,HT.sIx]
  |some i=>
   simp only[Gp,HT.sIx,Lp,show(1:Int)>0 by decide,if_true];by_cases h:i<0
   ·simp only[h,if_true]<;>lia
   ·simp only[h,if_false]<;>lia
theorem N8(its:List Value)(lo hi:Option Int):slicePick its.toArray lo hi none=((its.drop (HT.sIx its.length 0 lo)).take (HT.sIx its.length its.length hi - HT.sIx its.length 0 lo)).toArray:=by
 obtain⟨h1,h2,h3⟩:=MJ lo hi its.toArray.size;unfold slicePick;rw[h1,h2,h3];simp only[sliceRange_one,pick_run,Au]<;>rfl
def rSlL(K:An):V->Option Int->Option Int->Hp->VK->Prop:=fun x lo hi H Q=> ∃a xs,x= .ref a/\WZ K H a xs/\ ∀p,H p=none->Q (.ref p) (aS H p (.lst (JL xs lo hi)))
theorem zAD:SlR X (rSlL X.K):=by
 intro aa s σ H x v vl vu lo hi sl Q I rx hs pl pu h;obtain⟨a,xs,rfl,hx,q⟩:=h;cases rx;obtain⟨its,r,ht,hz⟩:=I.list hx;have am:=r.length;refine⟨"list",_,slot_list_getitem.lookup,ht.isList.typeIs,?_⟩;refine wpAny_getItem_list_slice ht.isList hs pl pu .none (by simp) ?_ (by rw[Au]<;>lia);rw[N8,<- am];refine⟨.ref s.heap.objs.size,_,I.laid (t':=s.toks) (o:= .lst (JL xs lo hi)) (fun b ob q=>Ae _ q) (Aw _) ?_,rfl,q _ (I.hok.fresh (Aw _))⟩;exact⟨Eh (P9 xs lo hi) hz,_,0,(r.drop (HT.sIx xs.length 0 lo)).take (HT.sIx xs.length xs.length hi - HT.sIx xs.length 0 lo),Az _ rfl⟩
theorem LG:Z6 X (.builtin "len") (fun xs H Q=> ∃p ys,xs=[.ref p]/\(WZ X.K H p ys∨VR X.K H p ys)/\Q (.int ys.length) H):=by
 intro aa s σ H xs us Q I r h;obtain⟨p,ys,rfl,hq,q⟩:=h;obtain⟨u,rfl,rx⟩:=SD r;cases rx;have hn:=QW;rcases hq with hq|hq
 ·obtain⟨its,r',pl,hz⟩:=I.list hq
  have am:=r'.length;exact Calls.call_len_list pl.isList (by simp only[Au]<;>lia) ⟨.int ys.length,H,I.tok _,⟨s.toks+1,by rw[Au,am]⟩,q⟩
 ·obtain⟨its,r',pl,hz⟩:=I.tuple hq
  have am:=r'.length;exact len_tuple pl (by simp only[Au]<;>lia) ⟨.int ys.length,H,I.tok _,⟨s.toks+1,by rw[Au,am]⟩,q⟩
theorem LH:Z6 X (.builtin "len") (fun xs H Q=> ∃z,xs=[.str z]/\z.length<=sizeLine/\Q (.int z.length) H):=by
 intro aa s σ H xs us Q I r h;obtain⟨z,rfl,hz,q⟩:=h;obtain⟨u,rfl,t,rfl⟩:=SD r;have hn:=QW;exact len_str (by lia) ⟨.int z.length,H,I.tok _,⟨_,rfl⟩,q⟩
theorem Z6.or{f:Value}{r r':List V->Hp->VK->Prop}(h:Z6 X f r)(h':Z6 X f r'):Z6 X f (fun xs H Q=>r xs H Q∨r' xs H Q):=by
 intro aa s σ H xs us Q I rs q;rcases q with q|q
 ·exact h aa s σ H xs us Q I rs q
 ·exact h' aa s σ H xs us Q I rs q
theorem LI:Z6 X (.type "list") (fun xs H Q=> ∃p ys,xs=[.ref p]/\(WZ X.K H p ys∨VR X.K H p ys)/\ ∀l,H l=none->Q (.ref l) (aS H l (.lst ys))):=by
 intro aa s σ H xs us Q I r h;obtain⟨p,ys,rfl,hq,q⟩:=h;obtain⟨u,rfl,rx⟩:=SD r;cases rx;have fin: ∀(its:List Value),bJ ys its->ys.length<=sizeLine-> ∀(h':Heap) (c':Nat),(∀b o',s.heap.get? b=some o'->h'.get? b=some o')→
   h'.get? s.heap.objs.size=some {cls:= .type "list",dict:=none,data:= .seq its.toArray c',slots:= #[]}->EP X aa σ Q (.ref s.heap.objs.size) {s with heap:=h'}:=fun its r' hz h' c' kp e=>
  ⟨.ref s.heap.objs.size,_,I.laid (t':=s.toks) kp (Aw _) (show Z3 X.prog X.w _ h' _ (.lst ys) from⟨hz,its,c',r',e⟩),rfl,q _ (I.hok.fresh (Aw _))⟩
 rcases hq with hq|hq
 ·obtain⟨its,r',pl,hz⟩:=I.list hq
  have am:=r'.length;obtain⟨o,ho,hc,n,hd⟩:=pl.isList;exact call_list_seq p (.inl rfl) ho hc hd (fun h' c' kp e=>fin its r' hz h' c' kp e) (by simp only[Au]<;>lia)
 ·obtain⟨its,r',pl,hz⟩:=I.tuple hq
  have am:=r'.length;obtain⟨o,ho,hc,n,hd⟩:=pl;exact call_list_seq p (.inr rfl) ho hc hd (fun h' c' kp e=>fin its r' hz h' c' kp e) (by simp only[Au]<;>lia)
theorem N3:Z6 X (.type "tuple") (fun xs H Q=> ∃p ys,xs=[.ref p]/\((WZ X.K H p ys/\ ∀l,H l=none->Q (.ref l) (aS H l (.tup ys)))∨(VR X.K H p ys/\Q (.ref p) H))):=by
 intro aa s σ H xs us Q I r h;obtain⟨p,ys,rfl,h⟩:=h;obtain⟨u,rfl,rx⟩:=SD r;cases rx;rcases h with⟨hq,q⟩|⟨hq,q⟩
 ·obtain⟨its,r',pl,hz⟩:=I.list hq
  have am:=r'.length;refine call_tuple_list pl.isList (fun h' kp=> ?_) (by simp only[Au]<;>lia);have I1:cL X aa σ H {s with heap:=h'}:=I.kept (t':=s.toks) kp;have I2:cL X aa σ (aS H h'.objs.size (.tup ys)) {s with heap:=h'.push {cls:= .type "tuple",data:= .seq its.toArray}}:=
   I1.laid (t':=s.toks) (fun b o e=>Ae _ e) (Aw _) (show Z3 X.prog X.w _ _ _ (.tup ys) from⟨hz,its,r',Jd _ _⟩)
  exact⟨.ref h'.objs.size,_,I2,rfl,q _ (I1.hok.fresh (Aw _))⟩
 ·obtain⟨its,r',pl,hz⟩:=I.tuple hq
  exact call_tuple_same pl ⟨.ref p,H,I,rfl,q⟩
def tyV(K:An)(T:String)(x:V)(H:Hp):Prop:=match x with
 | .str _=>T= "str"
 | .int _=>T= "int"
 | .ref p => (T = "list" /\ ∃ xs,WZ K H p xs) ∨ (T = "tuple" /\ ∃ o,K.lookup p = some o /\ o.cls = .type "tuple" /\ o.dict = none) ∨
   (T= "dict" /\((∃kvs,H p=some (.dK kvs))∨ ∃kvs,H p=some (.dT kvs)))∨(T= "set" /\ ∃S n,H p=some (.set S n))
 |_=>False
theorem zCR{aa:List (Addr×Obj)}{σ:St}{H:Hp}{s:Ah}{T:String}{x:V}{v:Value}(I:cL X aa σ H s)(r:b6 x v)(ty:tyV X.K T x H):
  s.TypeIs v T/\ ∀a,v= .ref a-> ∃ob,s.heap.get? a=some ob/\ob.dict=none:=by
 cases x with
 |str z=>
  obtain⟨t,rfl⟩:=r;cases (show T= "str" from ty);exact⟨typeIs_str s z t,fun _ e=>nomatch e⟩
 |int i=>
  obtain⟨t,rfl⟩:=r;cases (show T= "int" from ty);exact⟨typeIs_int s i t,fun _ e=>nomatch e⟩
 |ref p=>
  cases r;rcases ty with⟨rfl,xs,hq⟩|⟨rfl,o,hk,hc,hd⟩|⟨rfl,hk⟩|⟨rfl,S,n,hk⟩
  ·obtain⟨its,_,pl,_⟩:=I.list hq
   refine⟨pl.isList.typeIs,fun a e=> ?_⟩;cases e;obtain⟨o,n,e,c,hd,_⟩:=pl;exact⟨o,e,hd⟩
  ·refine ⟨⟨o,I.kIn p o hk,hc⟩,fun a e => ?_⟩
   cases e;exact⟨o,I.kIn _ o hk,hd⟩
  ·have z: ∃o,s.heap.get? p=some o/\o.ExactDict:=by
    rcases hk with⟨kvs,hk⟩|⟨kvs,hk⟩
    ·obtain⟨_,_,_,_,o,_,_,e,ex,_⟩:=I.hok p _ hk
     exact⟨o,e,ex⟩
    ·obtain⟨_,_,_,_,o,_,_,e,ex,_⟩:=I.hok p _ hk
     exact⟨o,e,ex⟩
   obtain⟨o,e,ex⟩:=z;refine⟨⟨o,e,ex.1⟩,fun a e2=> ?_⟩;cases e2;exact⟨o,e,ex.2.1⟩
  ·obtain⟨o,_,_,_,e,ex,_⟩:=I.hok p _ hk
   refine⟨⟨o,e,ex.1⟩,fun a e2=> ?_⟩;cases e2;exact⟨o,e,ex.2.1⟩
 |_=>exact Fi ty
def tBM(K:An)(T:String)(r:V->List V->Hp->VK->Prop)(to:TE)(t:TA):TE:=fun σ H Q=>to σ H fun x H1=>tyV K T x H1/\t σ H1 fun xs H2=>r x xs H2 Q
variable{o e:Expr}{es:List Expr}{to:TE}{t:TA}{name:Str}{ap aj:Pos}{T id:String}{r:V->List V->Hp->VK->Prop}
theorem zHN(pa:PlainAttrs T)(slot:Slot T name id)(hty:typeOf (.builtin id)=pure (.type "method_descriptor")) (hm:MtR X id r) (ho:PE X o to) (ha:PA X (e::es) t)
  (cv:Hb o name X.env (eval o X.env)=eval o X.env:=by rfl)
  (ee : ((Er aj (Ag (e :: es) X.env)).all (fun x => !x.1) && (Lv aj (Ii [] X.env)).all (fun x => x.1.isSome)
   && decide ((e::es).length+([]:List Ij).length+(if([]:List Ij).isEmpty then 0 else 1)<30))=true:=by rfl)
  (cu:(ap.endLine==aj.line)=true:=by rfl) (hs:Ag (e::es) X.env=(false,eval e X.env)::Ag es X.env:=by rfl) (br:(Er aj (Ag es X.env)).any (·.1)=false:=by rfl):
  PE X (.Call (.Attribute o name ap) (e::es) [] aj) (tBM X.K T r to t):=by
 intro aa s σ H Q I h;refine wpAny_Call_method_late cv ee cu rfl (ZA (ho aa s σ H _ I h) fun v s1 ⟨x,H1,I1,r1,ty,q1⟩=> ?_);obtain⟨h1,h2⟩:=zCR I1 r1 ty;refine⟨T,id,pa,slot,hty,h1,h2,?_⟩;have hA:=ha aj aa s1 σ H1 _ I1 q1;rw[hs] at hA⊢;refine Fb (by show(false || (Er aj (Ag es X.env)).any (·.1))=false;rw[br]<;>rfl) (Fj ?_);exact ZA hA fun us s2 ⟨vs,H2,I2,r2,q2⟩=>hm aa s2 σ H2 x vs v us Q I2 r1 r2 q2
end
def MtM(X:Cx)(id:String)(r:V->List V->Hp->VK->Prop):Prop:=
 ∀(aa:List (Addr×Obj)) (s:Ah) (σ:St) (H:Hp) (x:V) (xs:List V) (v:Value) (us:List Value) (Q:VK),cL X aa σ H s->b6 x v->bJ xs us->r x xs H Q→
  wpAny (model X.prog X.w) X.A (call (.builtin id) (v::us)) (EP X aa σ Q) X.xe s
theorem bJ.one: ∀{x:V} {us:List Value},bJ [x] us-> ∃u,us=[u]/\b6 x u
 |_,_,.cons r .nil=>⟨_,rfl,r⟩
section
variable{X:Cx}{aa:List (Addr×Obj)}{σ:St}{H:Hp}{s:Ah}{l b:Addr}{xs ys zs:List V}
theorem cL.lset{its its':List Value}{n:Nat}{f:Array Value->Array Value}{t':Nat}(I:cL X aa σ H s)(hH:H l=some (.lst xs))
  (e:s.heap.get? l=some {cls:= .type "list",data:= .seq its.toArray n}) (hf:f its.toArray=its'.toArray) (hv:bJ ys its') (hz:ys.length<=sizeLine):
  cL X aa σ (aS H l (.lst ys)) {s with heap:=s.heap.update l (Jv f),toks:=t'}:=by
 have q:=PySem.IsL.update e f;rw[hf] at q;refine I.write (x:=l) (e:=l) (by rw[hH];exact trivial) (.inl rfl) (fun b' u hb hu=>(Ix s.heap (Jv f) (Cq hb)).trans hu) ⟨_,q⟩ ?_;exact⟨hz,its',_,hv,q⟩
theorem cL.lnew{its:List Value}{t':Nat}(I:cL X aa σ H s)(hv:bJ ys its)(hz:ys.length<=sizeLine):
  cL X aa σ (aS H s.heap.objs.size (.lst ys)) {s with heap:=s.heap.push {cls:= .type "list",data:= .seq its.toArray},toks:=t'}:=
 I.laid (fun _ _ q=>Ae _ q) (Aw _) ⟨hz,its,0,hv,Az _ rfl⟩
theorem cL.fresh(I:cL X aa σ H s):H s.heap.objs.size=none:=I.hok.fresh (Aw _)
theorem cL.lstM(I:cL X aa σ H s)(hH:H l=some (.lst xs)):xs.length<=sizeLine/\ ∃(its:List Value) (n:Nat),bJ xs its/\xs.length=its.length/\s.heap.get? l=some {cls:= .type "list",data:= .seq its.toArray n}:=by
 obtain⟨z,its,n,r,e⟩:=I.hok l _ hH;exact⟨z,its,n,r,r.length,e⟩
end
section
variable{X:Cx}
def GJ:V->List V->Hp->VK->Prop:=fun x vs H Q=> ∃l xs y,x= .ref l/\vs=[y]/\H l=some (.lst xs)/\xs.length<sizeLine/\Q .non (aS H l (.lst (xs++[y])))
theorem a8:MtM X "list.append" GJ:=by
 intro aa s σ H x vs v us Q I rx rv h;obtain⟨l,xs,y,rfl,rfl,hH,hz,q⟩:=h;cases rx;obtain⟨u,rfl,ru⟩:=rv.one;obtain⟨z,its,n,r,hl,e⟩:=I.lstM hH;refine call_meets F.slot_list_append ⟨_,e,rfl⟩ F.entry_list_append (F.args_list_append_2 _ _) (PySem.list_append l its.toArray n u (by rw[Au];lia)) ⟨e,?_⟩;refine⟨.non,_,I.lset (its':=its++[u]) hH e (by simp) (r.append (.cons ru .nil)) ?_,rfl,q⟩;rw[Br,Jj];lia
end
section
variable{prog:Bn}{w:World}{A:De}{E:Value->Ah->Prop}{s:Ah}
set_option maxRecDepth 100000 in
end
section
variable{κ:Type}[DecidableEq κ]
noncomputable def SZ(kvs:List (κ×V))(k:κ):Option V:=(kvs.find? fun kv=>decide (kv.1=k)).map (·.2)
noncomputable def YJ(kvs:List (κ×V))(k:κ)(v:V):List (κ×V):=
 if(kvs.any fun kv=>decide (kv.1=k))=true then kvs.map (fun kv=>if kv.1=k then(kv.1,v) else kv) else kvs++[(k,v)]
theorem U9{p:κ×V}{r:List (κ×V)}{k:κ}(e:p.1=k):SZ (p::r) k=some p.2:=by simp[SZ,Dh,e]
theorem WJ{p:κ×V}{r:List (κ×V)}{k:κ}(e: ¬p.1=k):SZ (p::r) k=SZ r k:=by simp[SZ,Dh,e]
theorem K3(k:κ): ∀kvs:List (κ×V),(kvs.any fun kv=>decide (kv.1=k))=(SZ kvs k).isSome
 |[]=>rfl
 |p::r=>by
  rw[Hc];by_cases e:p.1=k
  ·simp only[U9 e,decide_eq_true e,Bool.true_or,Kq]
  ·rw[WJ e,decide_eq_false e,Kr];exact K3 k r
theorem QC(kvs:List (κ×V))(k:κ)(v:V):(YJ kvs k v).length<=kvs.length+1:=by
 unfold YJ;split
 ·rw[Bz];lia
 ·rw[Br,Bg,Eu];lia
theorem QL.isSome_eq{o:Option V}{u:Option Value}(r:QL o u):o.isSome=u.isSome:=by
 cases o with
 |none=>cases u with
  |none=>rfl
  |some _=>exact(show False from r).elim
 |some _=>cases u with
  |none=>exact(show False from r).elim
  |some _=>rfl
theorem QL.getD{o:Option V}{u:Option Value}{d:V}{d':Value}(r:QL o u)(rd:b6 d d'):b6 (o.getD d) (u.getD d'):=by
 cases o with
 |none=>cases u with
  |none=>exact rd
  |some _=>exact(show False from r).elim
 |some _=>cases u with
  |none=>exact(show False from r).elim
  |some _=>exact r
theorem KV.val{kvs:List (κ×V)}{vs:List (κ×Value)}(r:KV kvs vs)(k:κ):QL (SZ kvs k) (Kx vs k):=by
 unfold KV at r;induction r with
 |nil=>exact True.intro
 | @cons p q ps qs h t ih=>
  obtain⟨h1,h2⟩:=h;by_cases e:p.1=k
  ·have e':q.1=k:=h1.symm.trans e
   have b:Kx (q::qs) k=some q.2:=by simp[Kx,Dh,e']
   rw[U9 e,b];exact h2
  ·have e' : ¬ q.1 = k := fun z => e (h1.trans z)
   have b:Kx (q::qs) k=Kx qs k:=by simp[Kx,Dh,e']
   rw[WJ e,b];exact ih
theorem KV.any{kvs:List (κ×V)}{vs:List (κ×Value)}(r:KV kvs vs)(k:κ):(kvs.any fun kv=>decide (kv.1=k))=vs.any fun kv=>decide (kv.1=k):=by
 unfold KV at r;induction r with
 |nil=>rfl
 |cons h t ih=>rw[Hc,Hc,ih,h.1]
theorem KV.repl{kvs:List (κ×V)}{vs:List (κ×Value)}(r:KV kvs vs)(k:κ){y:V}{u:Value}(ry:b6 y u):
  KV (kvs.map fun kv=>if kv.1=k then(kv.1,y) else kv) (vs.map fun kv=>if kv.1=k then(kv.1,u) else kv):=by
 unfold KV at r⊢;induction r with
 |nil=>exact .nil
 | @cons p q ps qs h t ih=>
  rw[Be,Be];refine .cons ?_ ih;obtain⟨h1,h2⟩:=h;by_cases e:p.1=k
  ·rw[if_pos e,if_pos (h1.symm.trans e)];exact⟨h1,ry⟩
  ·rw[if_neg e,if_neg (fun z=>e (h1.trans z))];exact⟨h1,h2⟩
theorem KV.put{kvs:List (κ×V)}{vs:List (κ×Value)}(r:KV kvs vs)(k:κ){y:V}{u:Value}(ry:b6 y u):KV (YJ kvs k y) (stored vs k u):=by
 unfold YJ stored;rw[r.any k];by_cases e:(vs.any fun kv=>decide (kv.1=k))=true
 ·rw[if_pos e,if_pos e];exact r.repl k ry
 ·rw[if_neg e,if_neg e];exact Nr r ⟨rfl,ry⟩
theorem KV.length{kvs:List (κ×V)}{vs:List (κ×Value)}(r:KV kvs vs):kvs.length=vs.length:=Ko r
end
theorem J0{P:Bn}{w:World}{k:YY}{u:Value}(r:b6 (kV k) u):(ZJ P w).is k u=true:=by
 cases k with
 |inl i=>obtain⟨t,e⟩:=(show∃t,u=Lx i t from r);subst e;exact J4 P w i t
 |inr x=>obtain⟨t,e⟩:=(show∃t,u=Ly x t from r);subst e;exact J5 P w x t
theorem zFM{P:Bn}{w:World}{k:Ky}{u:Value}(r:b6 (IP k) u):(V3 P w).is k u=true:=by
 cases k with
 |none=>rw[show u=Value.none from r];rfl
 |some k=>exact J0 (P:=P) (w:=w) r
theorem NC{P:Bn}{w:World}: ∀{ks:List Ky} {us:List Value},bJ (ks.map IP) us->ItemsAre (V3 P w) ks us
 |[],_,r=>by rw[Fq] at r;cases r;exact .nil
 |k::ks,_,r=>by
  rw[Be] at r;cases r with
  |cons h t=>exact .cons (zFM h) (NC t)
abbrev KT(H:Hp):List (List Ky×V)->List (List Ky×Addr×Value)->Prop:=Paired fun p q=>p.1=q.1/\H q.2.1=some (.tup (p.1.map IP))/\b6 p.2 q.2.2
theorem KT.val{H:Hp}{kvs:List (List Ky×V)}{xs:List (List Ky×Addr×Value)}(r:KT H kvs xs)(k:List Ky):QL (SZ kvs k) ((atKey xs k).map (·.2)):=by
 induction r with
 |nil=>exact True.intro
 | @cons p q ps qs h t ih=>
  obtain⟨h1,_,h2⟩:=h;by_cases e:p.1=k
  ·have e':q.1=k:=h1.symm.trans e
   have b:atKey (q::qs) k=some q.2:=by simp[atKey,Dh,e']
   rw[U9 e,b];exact h2
  ·have e' : ¬ q.1 = k := fun z => e (h1.trans z)
   have b:atKey (q::qs) k=atKey qs k:=by simp[atKey,Dh,e']
   rw[WJ e,b];exact ih
theorem KT.repl{H:Hp}{kvs:List (List Ky×V)}{xs:List (List Ky×Addr×Value)}(r:KT H kvs xs)(k:List Ky){y:V}{u:Value}(ry:b6 y u):
  KT H (kvs.map fun kv=>if kv.1=k then(kv.1,y) else kv) (xs.map (putAt k u)):=by
 induction r with
 |nil=>exact .nil
 | @cons p q ps qs h t ih=>
  rw[Be,Be];refine .cons ?_ ih;obtain⟨h1,h2,h3⟩:=h;unfold putAt;by_cases e:p.1=k
  ·rw[if_pos e,if_pos (h1.symm.trans e)];exact⟨h1,h2,ry⟩
  ·rw[if_neg e,if_neg (fun z=>e (h1.trans z))];exact⟨h1,h2,h3⟩
theorem KT.put{H:Hp}{kvs:List (List Ky×V)}{xs:List (List Ky×Addr×Value)}(r:KT H kvs xs)(k:List Ky){b:Addr}{y:V}{u:Value}(hb:H b=some (.tup (k.map IP)))(ry:b6 y u):
  KT H (YJ kvs k y) (storedH xs k b u):=by
 have e:(kvs.any fun kv=>decide (kv.1=k))=(atKey xs k).isSome:=by rw[K3,(r.val k).isSome_eq,Option.isSome_map]
 unfold YJ storedH;rw[e];by_cases q:(atKey xs k).isSome=true
 ·rw[if_pos q,if_pos q];exact r.repl k ry
 ·rw[if_neg q,if_neg q];exact Nr r ⟨rfl,hb,ry⟩
theorem KT.keeps{H H':Hp}{kvs:List (List Ky×V)}{xs:List (List Ky×Addr×Value)}(r:KT H kvs xs)(ht: ∀b ys,H b=some (.tup ys)->H' b=some (.tup ys)):KT H' kvs xs:=
 Paired.mapP r fun _ _ z=>⟨z.1,ht _ _ z.2.1,z.2.2⟩
section
variable{P:Bn}{w:World}{H:Hp}{h:Heap}{a:Addr}
theorem zBU{u:HO}(ok:SE P w H h)(e:Rd H a u):Z3 P w H h a u:=e.ok ok
theorem M5{kvs:List (YY×V)}(ok:SE P w H h)(e:Rd H a (.dK kvs)):kvs.length<=sizeLine/\(a==Dx)=false/\ ∃vs,KV kvs vs/\h.DictOf (ZJ P w) a vs:=
 show Z3 P w H h a (.dK kvs) from zBU ok e
theorem zIR{kvs:List (YY×V)}(ok:SE P w H h)(e:H a=some (.dK kvs)):kvs.length<=sizeLine/\(a==Dx)=false/\ ∃vs,KV kvs vs/\h.DictOf (ZJ P w) a vs:=M5 ok (.inl e)
theorem OI{ks:List Ky}(ok:SE P w H h)(e:H a=some (.tup (ks.map IP))):(tupleKind (V3 P w)).is h ks a:=by
 obtain⟨_,its,r,o,h1,h2,n,h3⟩:=(show Z3 P w H h a (.tup (ks.map IP)) from ok a _ e);exact⟨o,its.toArray,n,h1,h2,h3,by simpa using NC r⟩
theorem M7{kvs:List (List Ky×V)}(ok:SE P w H h)(e:Rd H a (.dT kvs)):kvs.length<=sizeLine/\(a==Dx)=false∧
  ∃xs,KT H kvs xs/\h.DictOfH (tupleKind (V3 P w)) a xs:=by
 obtain⟨z,y,xs,r,o,es,ep,h1,h2,h3,h4,h5⟩:=(show Z3 P w H h a (.dT kvs) from zBU ok e);refine⟨z,y,xs,r,o,es,ep,h1,h2,h3,h4,fun x hx=> ?_,h5⟩;have all: ∀{l:List (List Ky×V)} {m:List (List Ky×Addr×Value)},KT H l m-> ∀x∈m,(tupleKind (V3 P w)).is h x.1 x.2.1:=by
  intro l m q;induction q with
  |nil=>intro x hx;exact nomatch hx
  | @cons p q ps qs hq t ih=>
   intro x hx;rcases Aj.mp hx with e|hx
   ·subst e
    exact OI ok (by rw[<- hq.1];exact hq.2.1)
   ·exact ih x hx
 exact all r x hx
theorem zIQ{kvs:List (List Ky×V)}(ok:SE P w H h)(e:H a=some (.dT kvs)):kvs.length<=sizeLine/\(a==Dx)=false∧
  ∃xs,KT H kvs xs/\h.DictOfH (tupleKind (V3 P w)) a xs:=M7 ok (.inl e)
end
def TY(H:Hp)(a:Addr)(y:V)(r:Option V):Prop:=
 (∃kvs k,Rd H a (.dK kvs)/\y=kV k/\r=SZ kvs k)∨ ∃kvs k b,Rd H a (.dT kvs)/\y= .ref b/\H b=some (.tup (k.map IP))/\r=SZ kvs k
def IT(H:Hp)(a:Addr)(y v:V)(H':Hp):Prop:=
 (∃kvs k,H a=some (.dK kvs)/\y=kV k/\kvs.length<sizeLine/\H'=aS H a (.dK (YJ kvs k v)))∨
 ∃kvs k b,H a=some (.dT kvs)/\y= .ref b/\H b=some (.tup (k.map IP))/\kvs.length<sizeLine/\H'=aS H a (.dT (YJ kvs k v))
theorem TY.k{H:Hp}{a:Addr}{kvs:List (YY×V)}{k:YY}(e:H a=some (.dK kvs)):TY H a (kV k) (SZ kvs k):= .inl ⟨kvs,k,.inl e,rfl,rfl⟩
theorem TY.t{H:Hp}{a b:Addr}{kvs:List (List Ky×V)}{k:List Ky}(e:H a=some (.dT kvs))(eb:H b=some (.tup (k.map IP))):TY H a (.ref b) (SZ kvs k):= .inr ⟨kvs,k,b,.inl e,rfl,eb,rfl⟩
theorem IT.k{H:Hp}{a:Addr}{kvs:List (YY×V)}{k:YY}{v:V}(e:H a=some (.dK kvs))(hl:kvs.length<sizeLine):IT H a (kV k) v (aS H a (.dK (YJ kvs k v))):= .inl ⟨kvs,k,e,rfl,hl,rfl⟩
theorem IT.t{H:Hp}{a b:Addr}{kvs:List (List Ky×V)}{k:List Ky}{v:V}(e:H a=some (.dT kvs))(eb:H b=some (.tup (k.map IP)))(hl:kvs.length<sizeLine):
  IT H a (.ref b) v (aS H a (.dT (YJ kvs k v))):= .inr ⟨kvs,k,b,e,rfl,eb,hl,rfl⟩
section
variable{X:Cx}{aa:List (Addr×Obj)}{σ:St}{H:Hp}{s:Ah}{a:Addr}{y v:V}{u r:Value}{o:Option V}{A:De}{E:Value->Ah->Prop}
theorem cL.big(I:cL X aa σ H s):Dx<s.heap.objs.size:=by
 have h:mainGlobals<s.heap.objs.size:=(I.mod.glob.keeps I.bk).lt;exact Nat.lt_trans (by decide) h
theorem D9{Q:Value->Ah->Prop}(hu:A.units+1<cLine)(I:cL X aa σ H s)(g:TY H a y (some v))(ry:b6 y u)(h: ∀w' s',cL X aa σ H s'->b6 v w'->Q w' s'):
  wpAny (model X.prog X.w) A (Ih (.ref a) u) Q E s:=by
 rcases g with⟨kvs,k,e,ey,l⟩|⟨kvs,k,b,e,ey,eb,l⟩
 ·subst ey
  obtain⟨z,hd,vs,rel,dd⟩:=M5 I.hok e;obtain⟨w',hw,rw'⟩:=QL.some_of (v:=v) (o:=Kx vs k) (by rw[l];exact rel.val k);exact wpAny_getItem_of (J0 ry) dd.mapOf hw (h w' _ (I.tok _) rw')
 ·subst ey
  cases (show u=Bp b from ry);obtain⟨z,hd,xs,rel,dd⟩:=M7 I.hok e;obtain⟨w',hw,rw'⟩:=QL.some_of (v:=v) (o:=(atKey xs k).map (·.2)) (by rw[l];exact rel.val k);obtain⟨p,hp,hp2⟩:=Al.mp hw;refine wpAny_getItem_heap (Gc hu) (OI I.hok eb) dd hp ?_;rw[hp2];exact h w' _ (I.tok _) rw'
theorem FV{h':Heap}{t':Nat}{ob:HO}(I:cL X aa σ H s)(mu:Mut (H a))(hs:Ew a s.heap h')(he: ∃q,h'.get? a=some q)(new:Z3 X.prog X.w (aS H a ob) h' a ob):
  cL X aa σ (aS H a ob) {s with heap:=h',toks:=t'}:=
 I.write (x:=a) (e:=a) mu (.inl rfl) (fun b q hb z=>(hs.2 b hb).trans z) he new
theorem zG3{P:Bn}{w:World}{H':Hp}{h':Heap}{kvs:List (YY×V)}{vs:List (YY×Value)}(z:kvs.length<=sizeLine)(hd:(a==Dx)=false)(rel:KV kvs vs)(dd:h'.DictOf (ZJ P w) a vs):
  Z3 P w H' h' a (.dK kvs):=⟨z,hd,vs,rel,dd⟩
theorem EA{H':Hp}{Q:Unit->Ah->Prop}(hu:A.units+1<cLine)(I:cL X aa σ H s)(g:IT H a y v H')(ry:b6 y u)(rv:b6 v r)(h: ∀s',cL X aa σ H' s'->Q () s'):
  wpAny (model X.prog X.w) A (setItem (.ref a) u r) Q E s:=by
 rcases g with⟨kvs,k,e,ey,l,eH⟩|⟨kvs,k,b,e,ey,eb,l,eH⟩
 ·subst ey eH
  obtain⟨z,hd,vs,rel,dd⟩:=zIR I.hok e;have hz:vs.length<=sizeLine:=by rw[<- rel.length];exact z
  have hl:(YJ kvs k v).length<=sizeLine:=by have:=QC kvs k v;lia
  refine wpAny_setItem_pairs (hsz:=hz) (J0 ry) dd fun h' dd' hs=>h _ ?_;have he: ∃q,h'.get? a=some q:=let ⟨q,_,_,hq,_⟩:=dd';⟨q,hq⟩
  exact FV I (by rw[e];exact True.intro) hs he (zG3 hl hd (rel.put k rv) dd')
 ·subst ey eH
  cases (show u=Bp b from ry);obtain⟨z,hd,xs,rel,dd⟩:=zIQ I.hok e;have hz:xs.length<=sizeLine:=by rw[<- Ko rel];exact z
  have hl:(YJ kvs k v).length<=sizeLine:=by have:=QC kvs k v;lia
  refine wpAny_setItem_heap (hsz:=hz) (Gc hu) (OI I.hok eb) dd fun h' dd' hs=>h _ ?_;obtain⟨q,es,ep,hq,h2,h3,h4,_,h5⟩:=dd';refine FV I (by rw[e];exact True.intro) hs ⟨q,hq⟩ ⟨hl,hd,_,(rel.put k eb rv).keeps fun c ys ec=> ?_,q,es,ep,hq,h2,h3,h4,h5⟩;rw[bN (zI3 ec e (fun z=>nomatch z))];exact ec
end
theorem JM{X:Cx}{aa:List (Addr×Obj)}{σ:St}{H:Hp}{s:Ah}{a:Addr}{y:V}{o:Option V}(I:cL X aa σ H s)(g:TY H a y o):s.TypeIs (.ref a) "dict":=by
 rcases g with⟨kvs,k,e,_,_⟩|⟨kvs,k,b,e,_,_,_⟩
 ·obtain⟨_,_,vs,_,dd⟩:=M5 I.hok e
  exact dd.typeIs
 ·obtain⟨_,_,xs,_,dd⟩:=M7 I.hok e
  exact dd.typeIs
def zH4(td ty tv:TE):TS:=fun D σ H=>tv σ H fun v H1=>td σ H1 fun x H2=>ty σ H2 fun y H3=> ∃a H4,x= .ref a/\IT H3 a y v H4/\D.nx σ H4
section
variable{X:Cx}{o i e value:Expr}{pos ar cr:Pos}{td ty tv:TE}
theorem GF(hu:X.A.units+1<cLine)(ho:PE X o td)(hi:PE X i ty)(hv:PE X value tv)(hs:Gx value (some (.Subscript o i ar)) pos.line X.env=pure false):
  PS X (.Assign [.Subscript o i ar] value pos) (zH4 td ty tv):=by
 intro aa s σ H D I h;refine wpAny_Assign_Subscript (ZA (hv aa s σ H _ I h) fun r s1 ⟨v,H1,I1,rv,q1⟩=>ZA (ho aa s1 σ H1 _ I1 q1) fun u s2 ⟨x,H2,I2,rx,q2⟩=>ZA (hi aa s2 σ H2 _ I2 q2) fun iv s3 ⟨y,H3,I3,ry,a,H4,ex,g,q3⟩=> ?_) hs;subst ex;obtain rfl:u=Bp a:=rx;exact EA hu I3 g ry rv fun s4 I4=>⟨σ,H4,I4,q3⟩
end
theorem AG{P:Bn}{w:World}{H:Hp}(h:Heap)(hb:Dx<h.objs.size):Z3 P w H (h.push {cls:= .type "dict",data:= .dict #[]}) h.objs.size (.dK []):=
 ⟨Du _,beq_eq_false_iff_ne.mpr (Cq (Bq hb)),[],.nil,Heap.DictOf.new h⟩
theorem AI{P:Bn}{w:World}{H:Hp}(h:Heap)(hb:Dx<h.objs.size):Z3 P w H (h.push {cls:= .type "dict",data:= .dict #[]}) h.objs.size (.dT []):=
 ⟨Du _,beq_eq_false_iff_ne.mpr (Cq (Bq hb)),[],.nil,_,#[],0,Az _ rfl,⟨rfl,rfl,rfl⟩,rfl,rfl,Jz⟩
def zCZ:TE:=fun _ H Q=> ∀p,H p=none->Q (.ref p) (aS H p (.dK []))
def zCY:TE:=fun _ H Q=> ∀p,H p=none->Q (.ref p) (aS H p (.dT []))
section
variable{X:Cx}{pos:Pos}
theorem KI:PE X (.Dict [] [] pos) zCZ:=fun aa s σ H Q I h=>
 wpAny_Dict_empty ⟨.ref s.heap.objs.size,_,I.laid (a:=s.heap.objs.size) (o:= .dK []) (t':=s.toks) (fun _ _ q=>Ae _ q) (Aw _) (AG s.heap I.big),rfl,h _ (I.hok.fresh (Aw _))⟩
theorem BO:PE X (.Dict [] [] pos) zCY:=fun aa s σ H Q I h=>
 wpAny_Dict_empty ⟨.ref s.heap.objs.size,_,I.laid (a:=s.heap.objs.size) (o:= .dT []) (t':=s.toks) (fun _ _ q=>Ae _ q) (Aw _) (AI s.heap I.big),rfl,h _ (I.hok.fresh (Aw _))⟩
end
structure M1(X:Cx)(o:Expr)(m:Str)(ap:Pos)(e:Expr)(aj:Pos):Prop where
 base:Hb o m X.env (eval o X.env)=eval o X.env
 few:((Er aj (Ag [e] X.env)).all (fun x=> !x.1) && (Lv aj (Ii [] X.env)).all (fun x=>x.1.isSome)
  && decide (([e]:List Expr).length+([]:List Ij).length+(if([]:List Ij).isEmpty then 0 else 1)<30))=true
 line:(ap.endLine==aj.line)=true
 trees:Er aj (Ag [e] X.env)=[(false,eval e X.env)]
structure M2(X:Cx)(o:Expr)(m:Str)(ap:Pos)(e f:Expr)(aj:Pos):Prop where
 base:Hb o m X.env (eval o X.env)=eval o X.env
 few:((Er aj (Ag [e,f] X.env)).all (fun x=> !x.1) && (Lv aj (Ii [] X.env)).all (fun x=>x.1.isSome)
  && decide (([e,f]:List Expr).length+([]:List Ij).length+(if([]:List Ij).isEmpty then 0 else 1)<30))=true
 line:(ap.endLine==aj.line)=true
 trees:Er aj (Ag [e,f] X.env)=[(false,eval e X.env),(false,eval f X.env)]
def IsD(H:Hp)(a:Addr):Prop:=(∃kvs,Rd H a (.dK kvs))∨ ∃kvs,Rd H a (.dT kvs)
theorem AU{X:Cx}{aa:List (Addr×Obj)}{σ:St}{H:Hp}{s:Ah}{a:Addr}(I:cL X aa σ H s)(d:IsD H a):
  s.TypeIs (.ref a) "dict" /\(∀b,Bp a= .ref b-> ∃ob,s.heap.get? b=some ob/\ob.dict=none)/\(a==Dx)=false:=by
 rcases d with⟨kvs,e⟩|⟨kvs,e⟩
 ·obtain⟨_,hd,vs,_,dd⟩:=M5 I.hok e
  refine⟨dd.typeIs,fun b q=> ?_,hd⟩;cases q;obtain⟨ob,_,_,h1,h2,_⟩:=dd;exact⟨ob,h1,h2.2.1⟩
 ·obtain⟨_,hd,xs,_,dd⟩:=M7 I.hok e
  refine⟨dd.typeIs,fun b q=> ?_,hd⟩;cases q;obtain⟨ob,_,_,h1,h2,_⟩:=dd;exact⟨ob,h1,h2.2.1⟩
section
variable{X:Cx}{aa:List (Addr×Obj)}{σ:St}{H:Hp}{s:Ah}{a:Addr}{y d:V}{u r:Value}{o:Option V}{A:De}{E:Value->Ah->Prop}
theorem zG5{Q:Value->Ah->Prop}(hu:A.units+1<cLine)(I:cL X aa σ H s)(g:TY H a y o)(ry:b6 y u)(h: ∀w' s',cL X aa σ H s'->b6 (o.getD .non) w'->Q w' s'):
  wpAny (model X.prog X.w) A (call (.builtin "dict.get") [.ref a,u]) Q E s:=by
 rcases g with⟨kvs,k,e,ey,l⟩|⟨kvs,k,b,e,ey,eb,l⟩
 ·subst ey
  obtain⟨z,hd,vs,rel,dd⟩:=M5 I.hok e;refine Jk Cz dd.typeIs Ef (Ge _ _) (meets_dict_get (ZJ X.prog X.w) a (J0 ry) hd) ⟨_,dd.mapOf,h _ _ (I.tok _) ?_⟩;rw[l];exact(rel.val k).getD rfl
 ·subst ey
  cases (show u=Bp b from ry);obtain⟨z,hd,xs,rel,dd⟩:=M7 I.hok e;refine Jk Cz dd.typeIs Ef (Ge _ _) (meetsH_dict_get (tupleKind (V3 X.prog X.w)) a b hd) ⟨Gc hu,k,xs,OI I.hok eb,dd,h _ _ (I.tok _) ?_⟩;rw[l];exact(rel.val k).getD rfl
theorem zG4{Q:Value->Ah->Prop}(hu:A.units+1<cLine)(I:cL X aa σ H s)(g:TY H a y o)(ry:b6 y u)(rd:b6 d r)(h: ∀w' s',cL X aa σ H s'->b6 (o.getD d) w'->Q w' s'):
  wpAny (model X.prog X.w) A (call (.builtin "dict.get") [.ref a,u,r]) Q E s:=by
 rcases g with⟨kvs,k,e,ey,l⟩|⟨kvs,k,b,e,ey,eb,l⟩
 ·subst ey
  obtain⟨z,hd,vs,rel,dd⟩:=M5 I.hok e;refine Jk Cz dd.typeIs Ef (Ik _ _ _) (meets_dict_get_default (ZJ X.prog X.w) a (J0 ry) hd r) ⟨_,dd.mapOf,h _ _ (I.tok _) ?_⟩;rw[l];exact(rel.val k).getD rd
 ·subst ey
  cases (show u=Bp b from ry);obtain⟨z,hd,xs,rel,dd⟩:=M7 I.hok e;refine Jk Cz dd.typeIs Ef (Ik _ _ _) (meetsH_dict_get_default (tupleKind (V3 X.prog X.w)) a b hd r) ⟨Gc hu,k,xs,OI I.hok eb,dd,h _ _ (I.tok _) ?_⟩;rw[l];exact(rel.val k).getD rd
end
def zD0(td ty tx:TE):TE:=fun σ H Q=>td σ H fun x H1=> ∃a,x= .ref a/\IsD H1 a/\ty σ H1 fun y H2=>tx σ H2 fun z H3=> ∃o,TY H3 a y o/\Q (o.getD z) H3
section
variable{X:Cx}{o e f:Expr}{ap aj:Pos}{td ty tx:TE}
theorem BN(hu:X.A.units+1<cLine)(ho:PE X o td)(he:PE X e ty)(hf:PE X f tx)(m:M2 X o "get" ap e f aj):PE X (.Call (.Attribute o "get" ap) [e,f] [] aj) (zD0 td ty tx):=by
 intro aa s σ H Q I h;refine Kz m.base m.few m.line Il Cz Jl (ZA (ho aa s σ H _ I h) fun u s1 ⟨x,H1,I1,rx,a,ex,d,q1⟩=> ?_);subst ex;obtain rfl:u=Bp a:=rx;obtain⟨t1,t2,_⟩:=AU I1 d;refine⟨t1,t2,?_⟩;rw[m.trees];refine Fb rfl (Fj (Fe (ZA (he aa s1 σ H1 _ I1 q1) fun iv s2 ⟨y,H2,I2,ry,q2⟩=>
  Fe (ZA (hf aa s2 σ H2 _ I2 q2) fun fv s3 ⟨z,H3,I3,rz,ov,g,q3⟩=>Go ?_))))
 exact zG4 hu I3 g ry rz fun w' s4 I4 rw'=>⟨_,H3,I4,rw',q3⟩
end
end L2
namespace Att
open PySem PySem.W PySem.Calls PyProof.Rows
theorem P5{P:Lw}{h:Heap}: ∀(ns:List Int) (vs:List Value),WellAll P h vs (ns.map WData.int)->Me vs ns:=by
 intro ns;induction ns with
 |nil=>
  intro vs w;rw[Fq] at w;cases w;exact .nil
 |cons n ns ih=>
  intro vs w;rw[Be] at w;cases w with
  |cons a b=>
   cases a;exact .cons _ _ (ih _ b)
theorem E5{l:OpenLaw}{n:Nat}(hn:l.most=some n){P:Lw}{h:Heap}{args:List WData}{vals:List Value}
  (hpre:l.row.toRowW.claim.pre args=true) (hwl:WellAll P h vals args):
  ∃a vs ns,vals=[Bp a]/\args=[WData.list (ns.map WData.int)]/\h.get? a=some {cls:= .type "list",data:= .seq vs.toArray}/\Me vs ns/\ns.length<=n:=by
 have hsh:WShape.hasAll [] args [.list .int]=true:=(pre_splitW hpre).1;have hc:l.pre.holds [] {args:=args}=true:=(pre_splitW hpre).2;obtain⟨d,r,rfl,h1,h2⟩:=hasAllW_cons hsh;obtain rfl:=hasAllW_nil h2;obtain⟨xs,rfl,h3⟩:=hasW_list h1;obtain⟨ns,rfl⟩:=items_int h3;have am:ns.length<=n:=by
  unfold OpenLaw.pre at hc;have h4:(WTm.not (.lt (.lit (.int (n:Int))) (.len (.arg 0)))).holds [] {args:=[.list (ns.map .int)]}=true:=by
   have h4:=(holds_andW hc).1;rw[hn] at h4;exact h4
  have h5:=condW_of h4 (w_not (w_lt w_lit (w_len_list (w_arg rfl))));rw[Bz] at h5;refine Nat.le_of_not_lt fun q=> ?_;have q':(n:Int)<((ns.length:Nat):Int):=by lia
  first
   |(rw[decide_eq_true q'] at h5;exact absurd h5 (by decide))
   |(simp at h5;lia)
 cases hwl with
 |cons w1 w2=>
  cases w2;cases w1 with
  |list ho i8=>exact⟨_,_,ns,rfl,rfl,ho,P5 ns _ i8,am⟩
theorem EZ(l:OpenLaw)(args:List WData):l.row.toRowW.claim.post args (.bool true) args=true:=
 postW_of (r:=l.row.toRowW) (X:=(true==true))
  (show Nv [] (.bool true) .bool=true by first|rfl|decide|simp[Nv,WShape.arms,WShape.armsAll])
  (show(WTm.eq .res (.lit (.bool true))).value [] {args:=args,res:=some (.bool true),after:=args}=some (.bool (true==true)) from w_eq_bool (w_res rfl) w_lit) rfl
theorem JD{l:OpenLaw}{n:Nat}{q:Bn}{loose:List Str}{XP:(Str->Option Value)->Heap->Prop}{YP:World->Heap->Prop}{d:DefRec}
  (hn:l.most=some n) (hdf:d.params.defaults=[])
  (call: ∀(w:World) (s₀ s₁:Ah) (mg mb:Str->Option Value) (fa:Addr) (o:Obj) (pm cd doc:Value) (a:Addr) (vs:List Value) (ns:List Int),
   Ground q loose [] XP w s₀ mg mb s₁.heap->YP w s₁.heap→
   s₁.heap.get? fa=some o->o.data= .func (docDef d.name d.params d.body d.scope pm cd doc)->s₁.heap.CodeRec cd d.name->mg d.name=some (.ref fa)→
   s₁.heap.get? a=some {cls:= .type "list",data:= .seq vs.toArray}->Me vs ns->ns.length<=n->s₁.gens= #[]→
   Kw (model l.prog w) Ki (.call (.ref fa) ⟨[.ref a],[]⟩) (fun r s'=>r= .ok (.ret (.bool true))/\OldK s₁.heap s'.heap/\s'.os=s₁.os/\Jb s'.gens) s₁):
  WalkO q loose XP YP l.row.toRowW d [] (fun f vs=>Mw f vs):=by
 intro w s₀ s₁ mg mb G Y fa o pm cd doc dV kV ho hd hcd hD hmg hg args vals as hpre hlay hrd hwl hlo;obtain rfl:dV= .none:=Dflts.none hD hdf;obtain rfl:kV= .none:=Dflts.noKw hD;obtain⟨a,vs,ns,rfl,rfl,hobj,hints,am⟩:=E5 hn hpre hwl;refine enter_call (Li (call w s₀ s₁ mg mb fa o pm cd doc a vs ns G Y ho (fd_plain hd) hcd hmg hobj hints am hg) fun r s' hq=> ?_);obtain⟨rfl,h2,h3,h4⟩:=hq;exact⟨.inl ⟨.bool true,.bool true,[],rfl,fun _=>rfl,.bool true,EZ l _,fun _=>⟨La,fun _ hm=>(nomatch hm)⟩⟩,h2,h3,h4⟩
end Att
namespace L2
open PySem PySem.Spec PyProof.Rows
theorem NT: ∀{vs:List Value} {ns:List Int},Me vs ns->bJ (ns.map V.int) vs
 |_,_,.nil=> .nil
 |_,_,.cons n t h=> .cons ⟨t,rfl⟩ (NT h)
def Only(H:Hp):Prop:= ∀b,H b=none∨ ∃o xs,H b=some (.frz o (.lst xs))
theorem AZ{P:Bn}{w:World}{K:An}{mg mb:Str->Option Value}{CX:CXT}{k:Nat}{fa a:Addr}{fd:Ee}{x:Str}{sp:Sp}{s₁:Ah}{vs:List Value}{ns:List Int}
  (KX:K.In s₁.heap) (hns:s₁.heap.Ns mainGlobals mg) (hb:s₁.heap.Ns builtinsNs mb) (hbb: ∀x:Str,x≠ "__name__" ->mb x=Bo x) (nb:s₁.heap.NoLimit) (hg:s₁.gens= #[])
  (ha:s₁.heap.get? a=some {cls:= .type "list",data:= .seq vs.toArray}) (hi:Me vs ns) (hl:ns.length<=sizeLine) (hr:YH k Ki)
  (F: ∀base:Heap,K.In base->base.Ns mainGlobals mg->bC P w K mg base CX k fa fd [x] sp) (lr: ∀(s:Ah) (u:Value),Mc s fd ⟨[u],[]⟩ [(x,u)])
  (hsp: ∀H:Hp,Only H->WZ K H a (ns.map V.int)->sp [.ref a] H (fun v _=>v= .bl true) fun _ _ _=>False)
  (hCX: ∀H e s',CX [] H s₁ (fun _ _ _=>False) e s'->False):
  Kw (model P w) Ki (.call (.ref fa) ⟨[.ref a],[]⟩) (fun r s'=>r= .ok (.ret (.bool true))/\OldK s₁.heap s'.heap/\s'.os=s₁.os/\Jb s'.gens) s₁:=by
 have rv:=NT hi;have mj:=hi.length;have lu: ∀H:Hp,Only H->WZ K H a (ns.map V.int)->SE P w H s₁.heap->(∀b,H b≠none->b=a)->(H a≠none->K.lookup a=none)→
   Kw (model P w) Ki (.call (.ref fa) ⟨[.ref a],[]⟩) (fun r s'=>r= .ok (.ret (.bool true))/\OldK s₁.heap s'.heap/\s'.os=s₁.os/\Jb s'.gens) s₁:=by
  intro H hO hS hok hA hK;have dc: ∀{b:Addr} {o:Obj},s₁.heap.get? b=some o->H b=none->(LY s₁.heap H).get? b=some o:=fun e n=>AR e n;have noA: ∀{b:Addr} {o:Obj} {es:Array Iz} {ep:Nat},s₁.heap.get? b=some o->o.data= .dict es ep->H b=none:=fun{b o es ep} e d=>by
   cases q:H b with
   |none=>rfl
   |some u=>
    have e':b=a:=hA b (by rw[q];simp);subst e';rw[ha] at e;cases e;have d':Data.seq vs.toArray _=Data.dict es ep:=d;cases d'
  have nsK: ∀{b:Addr} {m:Str->Option Value},s₁.heap.Ns b m->(LY s₁.heap H).Ns b m:=fun{b m} ⟨o,es,ep,e,d,r⟩=>⟨o,es,ep,dc e (noA e d),d,r⟩;have hKb:K.In (LY s₁.heap H):=fun b o e=>dc (KX b o e) (by
   cases q:H b with
   |none=>rfl
   |some u=>
    have e':b=a:=hA b (by rw[q];simp);subst e';rw[hK (by rw[q];simp)] at e;cases e)
  have hM:Mod K mg (LY s₁.heap H):=⟨hKb,nsK hns,⟨mb,nsK hb,hbb⟩,let ⟨mc,h1,h2⟩:=nb;⟨mc,nsK h1,h2⟩⟩;have e0:Env0 P w K mg (LY s₁.heap H) Ki [] s₁ H:=⟨rfl,hM,fun b o e=>zAZ e,Nat.le_of_eq (EF _ _),trivial,fun b hb=>absurd (show b∈([]:List Addr) from hb) (by simp),hok,.of_eq hg⟩;refine Li ((F _ hKb (nsK hns)).run Ki [] s₁ H ⟨[.ref a],[]⟩ [.ref a] [.ref a] _ _ hr e0 (lr s₁ (.ref a)) (.cons rfl .nil) (hsp H hO hS)) fun r s' h=> ?_;cases r with
  |error e=>exact(hCX H e s' h).elim
  |ok fl=>
   cases fl with
   |next=>exact Fi h
   |brk=>exact Fi h
   |cont=>exact Fi h
   |ret u=>
    obtain⟨v,H',os,bare,un,mv,r',q⟩:=h;have q':v= .bl true:=q;subst q';obtain rfl:u=Jt true:=r';refine⟨rfl,OldK.of_keep fun b o e=> ?_,os,bare⟩;cases q:H b with
    |none=>exact un.keep b o e q (by intro z;exact absurd (show b∈([]:List Addr) from z) (by simp)) (by simp)
    |some u=>
     rcases hO b with z|⟨ob,xs,z⟩
     ·rw[q] at z;cases z
     ·have z2:=un.frzs b ob _ z
      obtain⟨e1,_⟩:=hok b _ z;obtain⟨e2,_⟩:=mv b _ z2;rw[e] at e1;cases e1;exact e2
 cases hk:K.lookup a with
 |some o=>
  have e:=KX a o hk;rw[ha] at e;cases e;refine lu (fun _=>none) (fun _=> .inl rfl) (.inr ⟨_,vs.toArray,_,hk,rfl,rfl,rfl,by rw[Au,mj];exact hl,by simpa using rv⟩) (fun b u z=>by have z':(none:Option HO)=some u:=z;cases z') (fun b z=>absurd rfl z) fun z=>absurd rfl z
 |none=>
  refine lu (fun b=>if b=a then some (.frz {cls:= .type "list",data:= .seq vs.toArray} (.lst (ns.map V.int))) else none) (fun b=> ?_) (.inl (.inr ⟨{cls:= .type "list",data:= .seq vs.toArray},if_pos rfl⟩)) (fun b u z=> ?_) (fun b z=> ?_) fun _=>hk
  ·by_cases hb:b=a
   ·exact .inr ⟨_,_,if_pos hb⟩
   ·exact .inl (if_neg hb)
  ·by_cases hb:b=a
   ·have z':=(if_pos hb).symm.trans z
    cases z';subst hb;exact⟨ha,by rw[Bz];exact hl,vs,_,rv,ha⟩
   ·have z':=(if_neg hb).symm.trans z
    cases z'
  ·by_cases hb:b=a
   ·exact hb
   ·exact absurd (if_neg hb) z
theorem zA1{l:Nj}{n k:Nat}{q:Bn}{loose:List Str}{XP:(Str->Option Value)->Heap->Prop}{YP:World->Heap->Prop}{d:DefRec}{K:Lw->An}{CX:World->CXT}{sp:World->Sp}{x:Str}
  (hn:l.most=some n) (hn2:n<=sizeLine) (hdf:d.params.defaults=[]) (hr:YH k Ki)
  (hY: ∀(w:World) (h:Heap),YP w h->(K w.params).In h)
  (F: ∀(w:World) (mg:Str->Option Value) (fa:Addr) (h:Heap),(K w.params).In h->h.Ns mainGlobals mg->mg d.name=some (.ref fa)→
   ∃fd:Ee,(∀(s:Ah) (u:Value),Mc s fd ⟨[u],[]⟩ [(x,u)])∧
    ∀base:Heap,(K w.params).In base->base.Ns mainGlobals mg->bC l.prog w (K w.params) mg base (CX w) k fa fd [x] (sp w))
  (hsp: ∀(w:World) (H:Hp) (a:Addr) (ns:List Int),ns.length<=n->Only H->WZ (K w.params) H a (ns.map V.int)->sp w [.ref a] H (fun v _=>v= .bl true) fun _ _ _=>False)
  (hCX: ∀(w:World) (H:Hp) (s:Ah) (e:Value) (s':Ah),CX w [] H s (fun _ _ _=>False) e s'->False):
  W.WalkO q loose XP YP l.row.toRowW d [] (fun f vs=>Mw f vs):=by
 refine Att.JD hn hdf fun w s₀ s₁ mg mb fa o pm cd doc a vs ns G Y ho hd hcd hmg hobj hints am hg=> ?_;have KX:=hY w _ Y;obtain⟨fd,hb,hF⟩:=F w mg fa _ KX G.T.g hmg;exact AZ KX G.T.g G.T.b G.T.builtins G.T.nolimit hg hobj hints (Eh am hn2) hr hF hb (fun H hO hS=>hsp w H a ns am hO hS) fun H e s'=>hCX w H s₁ e s'
theorem DJ{l:Nj}{n k:Nat}{q:Bn}{loose:List Str}{XP:(Str->Option Value)->Heap->Prop}{YP:World->Heap->Prop}{d:DefRec}{K:Lw->An}{CX:CXT}{sp:An->Sp}{x:Str}
  (hn:l.most=some n) (hn2:n<=sizeLine) (hdf:d.params.defaults=[]) (hr:YH k Ki)
  (hY: ∀(w:World) (h:Heap),YP w h->(K w.params).In h)
  (F: ∀(w:World) (mg:Str->Option Value) (fa:Addr) (h:Heap),(K w.params).In h->h.Ns mainGlobals mg->mg d.name=some (.ref fa)→
   ∃fd:Ee,(∀(s:Ah) (u:Value),Mc s fd ⟨[u],[]⟩ [(x,u)])∧
    ∀base:Heap,(K w.params).In base->base.Ns mainGlobals mg->bC l.prog w (K w.params) mg base CX k fa fd [x] (sp (K w.params)))
  (hsp: ∀(K:An) (H:Hp) (a:Addr) (ns:List Int),ns.length<=n->Only H->WZ K H a (ns.map V.int)->sp K [.ref a] H (fun v _=>v= .bl true) fun _ _ _=>False)
  (hCX: ∀(H:Hp) (s:Ah) (e:Value) (s':Ah),CX [] H s (fun _ _ _=>False) e s'->False):
  W.WalkO q loose XP YP l.row.toRowW d [] (fun f vs=>Mw f vs):=
 zA1 (K:=K) (CX:=fun _=>CX) (sp:=fun w=>sp (K w.params)) hn hn2 hdf hr hY F (fun w H a ns h1 h2 h3=>hsp (K w.params) H a ns h1 h2 h3) fun _ H s e s'=>hCX H s e s'
def ZP(s:Stmt):Arguments:=match s with
 | .FunctionDef _ a _ _ _ _ _ _ _ _=>a
 |_=>{posonlyargs:=[],args:=[],vararg:=none,kwonlyargs:=[],kw_defaults:=[],kwarg:=none,defaults:=[]}
def aQ(s:Stmt):List Stmt:=match s with
 | .FunctionDef _ _ b _ _ _ _ _ _ _=>b
 |_=>[]
def c9(s:Stmt):Scope:=match s with
 | .FunctionDef _ _ _ _ _ _ sc _ _ _=>sc
 |_=>{kind:= .function,names:=[],isGenerator:=false,isCoroutine:=false}
abbrev CX0:CXT:=fun _ _ _ _ _ _=>False
abbrev E0:XK:=fun _ _ _=>False
theorem BI{X:Cx}:G4 CX0 X E0:=fun _ _ _ _ _ _ _ h=>h.elim
structure X4(K:An)(x qual:Str)(st:Stmt)(f:Addr)(fd:Ee):Prop where
 ex: ∃(oc:Value) (od:Option Addr) (kV doc pm:Value) (an:Option Addr) (cdv ct:Value) (osl:Array (Option Value)),
  fd=Hh x qual (ZP st) (aQ st) (c9 st) .none kV doc pm an cdv ct/\K.lookup f=some ⟨oc,od,.func fd,osl⟩/\Hs K cdv qual=true
 kp:Ga K (.ref f)=true
section
variable{P:Bn}{w:World}{K:An}{mg:Str->Option Value}{base:Heap}
theorem X4.ok{x qual:Str}{st:Stmt}{f:Addr}{fd:Ee}{N ps:List Str}{k:Nat}{sp:Sp}(F:X4 K x qual st f fd)(S:cS N ps (c9 st))(len: ∀vs H Q E,sp vs H Q E->vs.length=ps.length)
  (bm: ∀(cdv:Value) (A:De) (outer:List Env) (s:Ah) (H:Hp) (vs:List V) (Q:VK) (E:XK),YH k (A.deeper (Ib qual (c9 st) s.heap.objs.size f cdv))->sp vs H Q E→
   ∃t,PB (LO CX0 P w K mg base N qual (c9 st) f cdv A outer s H E).nox (aQ st) t/\t {nx:=fun _ H'=>Q .non H',rt:=Q} (start N vs) H):bC P w K mg base CX0 (k+1) f fd ps sp:=by
 obtain⟨oc,od,kV,doc,pm,an,cdv,ct,osl,rfl,lk,hcd⟩:=F.ex;refine zCG lk hcd S len fun A outer s H vs Q E hr hsp=> ?_;obtain⟨t,h,q⟩:=bm cdv A outer s H vs Q E hr hsp;exact⟨t,h.nox,q⟩
theorem X4.binds{x qual:Str}{st:Stmt}{f:Addr}{fd:Ee}{ps:List Str}(F:X4 K x qual st f fd)
  (h: ∀(kV doc pm:Value) (an:Option Addr) (cdv ct:Value) (us:List Value),us.length=ps.length->bindArgs (Hh x qual (ZP st) (aQ st) (c9 st) .none kV doc pm an cdv ct) ⟨us,[]⟩=pure (ps.zip us)):RA K fd ps []:=by
 obtain⟨oc,od,kV,doc,pm,an,cdv,ct,osl,rfl,lk,hcd⟩:=F.ex;exact .all (h kV doc pm an cdv ct)
theorem AM{x qual:Str}{st:Stmt}{f:Addr}{oc:Value}{od an:Option Addr}{osl:Array (Option Value)}{kV doc pm cdv ct:Value}(l:K.lookup f=some ⟨oc,od,.func (Hh x qual (ZP st) (aQ st) (c9 st) .none kV doc pm an cdv ct),osl⟩)
  (c:Hs K cdv qual=true) (k:Ga K (.ref f)=true):X4 K x qual st f (Hh x qual (ZP st) (aQ st) (c9 st) .none kV doc pm an cdv ct):=⟨⟨oc,od,kV,doc,pm,an,cdv,ct,osl,rfl,l,c⟩,k⟩
end
theorem zCE{A:De}{k:Nat}(hr:YH k A):A.units+1<cLine:=Nat.lt_of_le_of_lt (Nat.add_le_add_left (by decide:1<=64) _) hr.units
section
variable{X:Cx}
theorem pv(i:Nat){x:Str}{pos:Pos}(hN:X.N[i]? =some x:=by rfl)(hv:Vis X.env.scope x:=by first|exact Ht rfl|exact Jm (Ht rfl)|exact Jm (Jm rfl))(hd:(x==("__debug__":Str))=false:=by decide)
  (hcd:(x==("__classdict__":Str))=false:=by decide):PE X (.Name x pos) (U7 i):=IB hN hv hd hcd
end
theorem JW{A B:Prop}(h:B):if false=true then A else B:=by
 rw[if_neg Ei];exact h
theorem JX{A B:Prop}(h:A):if true=true then A else B:=by
 rw[if_pos rfl];exact h
def aC(H H':Hp):Prop:= ∀b o,H b=some o->H' b=some o
theorem aC.refl(H:Hp):aC H H:=fun _ _ h=>h
theorem aC.trans{H H1 H2:Hp}(a:aC H H1)(b:aC H1 H2):aC H H2:=fun c o h=>b c o (a c o h)
theorem LJ{env:Env}{f:Str×NameKind->List (Str×Addr)->Sem (ForInStep (List (Str×Addr)))}
  (hf: ∀n k r,f (n,k) r=if(k==Bm)=true then(cellOf env n>>=fun c=>pure (Ec ((n,c)::r))) else pure (Ec r)):
  ∀(names:List (Str×NameKind)) (cs:List (Str×Addr)),(∀y∈names,y.2= .free-> ∃c,env.cells.lookup y.1=some c)→
   ∃cl,forIn names cs f=(pure cl:Sem (List (Str×Addr)))/\(∀x c,cl.lookup x=some c->cs.lookup x=some c∨env.cells.lookup x=some c)∧
    (∀x c,cs.lookup x=some c-> ∃c',cl.lookup x=some c')/\ ∀x,(x,Bm)∈names-> ∃c,cl.lookup x=some c
 |[],cs,_=>⟨cs,rfl,fun _ _ e=> .inl e,fun _ c e=>⟨c,e⟩,fun _ h=>nomatch h⟩
 | (n,k) :: r,cs,h => by
  have hr: ∀y∈r,y.2= .free-> ∃c,env.cells.lookup y.1=some c:=fun y hy=>h y (Am _ hy);by_cases hk:k= .free
  ·subst hk
   obtain⟨c,hc⟩:=h (n,.free) Ax rfl;have hc:env.cells.lookup n=some c:=hc;obtain⟨cl,e1,e2,e3,e4⟩:=LJ hf r ((n,c)::cs) hr;refine⟨cl,?_,fun x c' e=> ?_,fun x c' e=> ?_,fun x hx=> ?_⟩
   ·rw [Hi,hf,if_pos (show (Bm == Bm) = true by decide)]
    have ec:cellOf env n=pure c:=by unfold cellOf;rw[hc]
    rw[ec,pure_bind,pure_bind];exact e1
   ·rcases e2 x c' e with q|q
    ·by_cases hx:x=n
     ·subst hx
      rw[Db] at q;cases q;exact .inr hc
     ·rw[Cd,beq_eq_false_iff_ne.mpr hx] at q
      exact .inl q
    ·exact .inr q
   ·by_cases hx:x=n
    ·subst hx
     exact e3 x c (Db ..)
    ·refine e3 x c' ?_
     rw[Cd,beq_eq_false_iff_ne.mpr hx];exact e
   ·rcases Aj.mp hx with q|q
    ·cases q
     exact e3 n c (Db ..)
    ·exact e4 x q
  ·obtain⟨cl,e1,e2,e3,e4⟩:=LJ hf r cs hr
   refine⟨cl,?_,e2,e3,fun x hx=> ?_⟩
   ·have hb : ¬ (k == Bm) = true := by simpa using hk
    rw[Hi,hf,if_neg hb,pure_bind];exact e1
   ·rcases Aj.mp hx with q|q
    ·cases q
     exact absurd rfl hk
    ·exact e4 x q
theorem FT{env:Env}{scope:Scope}(h: ∀y∈scope.names,y.2= .free-> ∃c,env.cells.lookup y.1=some c):
  ∃cl,closureFor scope env=pure cl/\(∀x c,cl.lookup x=some c->env.cells.lookup x=some c)/\ ∀x,(x,Bm)∈scope.names-> ∃c,cl.lookup x=some c:=by
 simp only[closureFor];obtain⟨cl,e1,e2,_,e4⟩:=LJ (env:=env) (f:=fun x r=>match x with
  |(name,kind)=>if(kind==Bm)=true then(cellOf env name>>=fun c=>pure (Ec ((name,c)::r))) else pure (Ec r)) (fun _ _ _=>rfl) scope.names [] h
 refine⟨cl,?_,fun x c e=> ?_,e4⟩
 ·first
   |exact e1
   |(refine Eq.trans (congrArg (fun m=>m>>=pure) e1) ?_;exact pure_bind _ _)
 ·rcases e2 x c e with q|q
  ·cases q
  ·exact q
def YI(ix:List Nat)(σ:St):St:=ix.map fun i=>(σ[i]?).join
def PTs(Y:Cx)(ifs:List Expr)(tt:TT):Prop:=
 ∀(aa:List (Addr×Obj)) (s:Ah) (σ:St) (H:Hp) (Q:Bool->Hp->Prop),cL Y aa σ H s->tt σ H Q→
  wpAny (model Y.prog Y.w) Y.A (forIn ifs true fun c r=>if r=true then do let ok<- isTrue c Y.env (eval c Y.env);pure (Ec ok) else pure (Ec r)) (TP Y aa σ Q) Y.xe s
def tYes:TT:=fun _ H Q=>Q true H
theorem zAI{Y:Cx}:PTs Y [] tYes:=fun _ _ _ H _ I h=>wpAny_tests_nil ⟨H,I,h⟩
theorem zAH{Y:Cx}{c:Expr}{tt:TT}(h:PT Y c tt):PTs Y [c] tt:=fun aa s σ H Q I hw=>wpAny_tests_one (h aa s σ H Q I hw)
structure Blk(Y:Cx)(tg:Expr)(ifs:List Expr)(elt:Expr)(g:TG)(tt:TT)(te:TE):Prop where
 tg:PG Y tg g
 ts:PTs Y ifs tt
 el:PE Y elt te
theorem D7{prog:Bn}{w:World}{A:De}{s:Ah}{elt bo iter:Expr}{ifs:List Expr}{scope:Scope}{pos:Pos}{it acc:Value}{env:Env}{R:Result->Ah->Prop}(I:Nat->Ah->Prop)
  (turn : ∀ n s,I n s -> wpAny (model prog w) A (pyNext it) (fun r s₁ => match r with
   |none=>R (.ok .next) s₁
   | some v => wpAny (model prog w) A (Hg bo it v) (fun _ s₀ => wpAny (model prog w) A (assign bo env v) (fun _ s₂ =>
     wpAny (model prog w) A (forIn ifs true fun c r=>if r=true then do let ok<- isTrue c env (eval c env);pure (Ec ok) else pure (Ec r)) (fun ok s₃=>if ok=true then wpAny (model prog w) A (eval elt env) (fun x s₄=>
      wpAny (model prog w) A (call (.builtin "list.append") [acc,x]) (fun _ s₅=> ∃m,m<n/\I m s₅) (fun _ _=>False) s₄) (fun _ _=>False) s₃
      else∃m,m<n/\I m s₃) (fun _ _=>False) s₂)
     (fun _ _=>False) s₀) (fun _ _=>False) s₁) (fun _ _=>False) s)
  (n:Nat) (h:I n s):Kw (model prog w) A (.compLoop (.ListComp elt [⟨bo,iter,ifs,0⟩] scope pos) 0 it acc env) R s:=by
 refine codeAny_loop rfl I (fun n s hI=> ?_) n h;show wpAny _ A ((compTurn (.ListComp elt [⟨bo,iter,ifs,0⟩] scope pos) 0 it acc env).onRaise (fun x=>do noteFrame x env;theTreesLotGoes x)) _ _ s;refine wpAny_noted ?_;rw[compTurn_list];refine Ac (Ft (Ac (Cm (turn n s hI) (fun r s₁ h₁=> ?_) fun _ _ h'=>h'.elim)));cases r with
 |none=>exact Ao h₁
 |some v=>
  refine Ac (Cm h₁ (fun _ s₀ h₀'=> ?_) fun _ _ h'=>h'.elim);refine Ac (Cm h₀' (fun _ s₂ h₂=> ?_) fun _ _ h'=>h'.elim);refine Ac (Cm h₂ (fun okb s₃ h₃=> ?_) fun _ _ h'=>h'.elim);cases okb with
  |false=>exact Ao ⟨rfl,h₃⟩
  |true=>exact Ac (Ac (Cm h₃ (fun x s₄ h₄=>Ac (Cm h₄ (fun _ s₅ h₅=>Ao (Ao ⟨rfl,h₅⟩)) fun _ _ h'=>h'.elim)) fun _ _ h'=>h'.elim))
section
variable{X:Cx}{aa:List (Addr×Obj)}{σ:St}{H H':Hp}{s s1 s':Ah}{h'':Heap}
theorem cL.offNew{σ':St}{H1:Hp}(I1:cL X aa σ H1 s1)(I':cL X aa σ' H' s')(hn:H' s1.heap.objs.size=none)(sb: ∀b o,b≠s1.heap.objs.size->s'.heap.get? b=some o->h''.get? b=some o):
  cL X aa σ' H' {s' with heap:=h''}:=
 I'.turned (t':=s'.toks) (it:=s1.heap.objs.size) sb hn (Fo I1.lt) (.inr I1.sz)
  (fun x c e z => by
   obtain⟨v,q⟩:=I1.cell x c e;have:=q.lt;rw[z] at this;exact Cp _ this)
  fun p hp z=>by
   have:=Aq (I1.pin p hp).1;rw[z] at this;exact Cp _ this
end
def zCJ(D:Addr)(ix:List Nat)(nl:Nat)(J:It)(g:TG)(tt:TT)(te:TE)(σ:St)(H0:Hp)(Q:Hp->Prop):Prop:=
 ∃W:Nat->Nat->List V->Hp->Prop,(∃m,W 0 m [] (aS H0 D (.lst [])))/\ ∀i m acc H1,W i m acc H1→
  (J.stop i H1/\Q H1)∨
  (J.go i H1/\ ∃N:List V->Hp->Prop,(∀aw H',N aw H'-> ∃m',m'<m/\W (i+1) m' aw H')∧
   ∀x H2,J.yld i H1 x H2->g x (YI ix σ++Bj nl none) H2 fun σ2 H3=>σ2.take ix.length=YI ix σ∧
    tt σ2 H3 fun b H4=>if b=true then te σ2 H4 fun v H5=>H5 D=some (.lst acc)/\acc.length<sizeLine/\N (acc++[v]) (aS H5 D (.lst (acc++[v]))) else N acc H4)
theorem R0{env:Env}{x:Str}: ∀{l:List (Str×NameKind)},l.lookup x=some .free→
  (l.map fun(n,k)=>if(k==Bm && env.scope.kind== .function && env.kindOf n==some .cell) then(n,Cc) else(n,k)).lookup x=some .cell∨
  (l.map fun(n,k)=>if(k==Bm && env.scope.kind== .function && env.kindOf n==some .cell) then(n,Cc) else(n,k)).lookup x=some .free
 |[],h=>by cases h
 | (n,k) :: r,h => by
  show Kj x ((if(k==Bm && env.scope.kind== .function && env.kindOf n==some .cell)=true then(n,Cc) else(n,k))::_)=some .cell∨Kj x ((if(k==Bm && env.scope.kind== .function && env.kindOf n==some .cell)=true then(n,Cc) else(n,k))::_)=some .free;by_cases hx:x=n
  ·subst hx
   rw[Db] at h;cases h;by_cases hc:(Bm==Bm && env.scope.kind== .function && env.kindOf x==some .cell)=true
   ·left
    rw[if_pos hc,Db]
   ·right
    rw[if_neg hc,Db]
  ·have hb:(x==n)=false:=beq_eq_false_iff_ne.mpr hx
   simp only[Cd,hb] at h;have ih:=R0 (env:=env) h;by_cases hc:(k==Bm && env.scope.kind== .function && env.kindOf n==some .cell)=true
   ·rw[if_pos hc]
    simp only[Cd,hb];exact ih
   ·rw[if_neg hc]
    simp only[Cd,hb];exact ih
def CY(ix:List Nat)(nl:Nat)(wi:TI)(g:TG)(tt:TT)(te:TE):TE:=fun σ H Q=>wi σ H fun J H0=> ∀D,H0 D=none->zCJ D ix nl J g tt te σ H0 fun H'=>Q (.ref D) H'
mutual
inductive Dp(K:An)(H:Hp):V->Ka->Prop
 |non:Dp K H .non .none
 |bl (b:Bool):Dp K H (.bl b) (.bool b)
 |int (i:Int):Dp K H (.int i) (.int i)
 |str (x:Str):Dp K H (.str x) (.str x)
 |lst {a:Addr} {xs:List V} {ds:List Ka}:WZ K H a xs->N9 K H xs ds->Dp K H (.ref a) (.list ds)
 |tup {a:Addr} {xs:List V} {ds:List Ka}:VR K H a xs->N9 K H xs ds->Dp K H (.ref a) (.tuple ds)
inductive N9(K:An)(H:Hp):List V->List Ka->Prop
 |nil:N9 K H [] []
 |cons {v:V} {vs:List V} {d:Ka} {ds:List Ka}:Dp K H v d->N9 K H vs ds->N9 K H (v::vs) (d::ds)
end
section
variable{X:Cx}{aa:List (Addr×Obj)}{σ:St}{H:Hp}{s:Ah}
mutual
theorem cL.reads(I:cL X aa σ H s): ∀{v:V} {d:Ka} {u:Value},Dp X.K H v d->b6 v u-> ∃as,Reads s.heap u d as
 |_,_,_,.non,r=>by cases r;exact⟨_,.none⟩
 |_,_,_,.bl b,r=>by cases r;exact⟨_,.bool b⟩
 |_,_,_,.int i,r=>by obtain⟨t,rfl⟩:=r;exact⟨_,.int i t⟩
 |_,_,_,.str x,r=>by obtain⟨t,rfl⟩:=r;exact⟨_,.str x t⟩
 |_,_,_,.lst q all,r=>by
  cases r;obtain⟨its,rv,⟨o,n,e,c,_,d⟩,_⟩:=I.list q;obtain⟨as,h⟩:=cL.readsAll I all rv;exact⟨_,.list e c d (by simpa using h)⟩
 |_,_,_,.tup q all,r=>by
  cases r;obtain⟨its,rv,⟨o,e,c,n,d⟩,_⟩:=I.tuple q;obtain⟨as,h⟩:=cL.readsAll I all rv;exact⟨_,.tuple e c d (by simpa using h)⟩
theorem cL.readsAll(I:cL X aa σ H s): ∀{vs:List V} {ds:List Ka} {us:List Value},N9 X.K H vs ds->bJ vs us-> ∃as,ReadsAll s.heap us ds as
 |_,_,_,.nil,r=>by cases r;exact⟨_,.nil⟩
 | _,_,_,.cons h t,r => by
  cases r with
  |cons r1 r2=>
   obtain⟨as,h1⟩:=cL.reads I h r1;obtain⟨bs,h2⟩:=cL.readsAll I t r2;exact⟨_,.cons h1 h2⟩
end
end
def rEqD(K:An):R2:=fun x y H Q=> ∃d e,Dp K H x d/\Dp K H y e/\Dr d=true/\Dr e=true/\Q (.bl (He d e)) H
def rNeD(K:An):R2:=fun x y H Q=> ∃d e,Dp K H x d/\Dp K H y e/\Dr d=true/\Dr e=true/\Q (.bl (!PyData.eqv d e)) H
section
variable{X:Cx}
theorem zEE(hu:X.A.units+64<cLine):XJ X (Cf .Eq) (rEqD X.K):=by
 intro aa s σ H x y v u Q I rx ry h;obtain⟨d,e,hd,he,sd,se,q⟩:=h;obtain⟨as,h1⟩:=I.reads hd rx;obtain⟨bs,h2⟩:=I.reads he ry;exact eq_dataH h1 h2 sd se hu (LR I q rfl)
theorem zEC(hu:X.A.units+64<cLine):XJ X (Cf .NotEq) (rNeD X.K):=by
 intro aa s σ H x y v u Q I rx ry h;obtain⟨d,e,hd,he,sd,se,q⟩:=h;obtain⟨as,h1⟩:=I.reads hd rx;obtain⟨bs,h2⟩:=I.reads he ry;exact ne_dataH h1 h2 sd se hu (LR I q rfl)
theorem RQ: ∀{ns:List Int} {us:List Value},bJ (ns.map V.int) us->Me us ns
 |[],_,.nil=> .nil
 |i::ns,_,.cons r t=>by
  obtain⟨k,rfl⟩:=r;exact .cons i k (RQ t)
def rngP(p:Addr)(a b c:Int):Heap->Prop:=fun h=> ∃t u v,IsRange h p a b c t u v
inductive MQ:List Iz->List (Str×V)->Prop
 |nil:MQ [] []
 |cons {e:Iz} {es:List Iz} {x:Str} {t:Tok} {v:V} {D:List (Str×V)}:e.key= .str x t->b6 v e.val->MQ es D->MQ (e::es) ((x,v)::D)
def KTab(K:An)(a:Addr)(D:List (Str×V)):Prop:=
 (a==Dx)=false/\ ∃o es ep,K.lookup a=some o/\o.ExactDict/\o.data= .dict es ep/\MQ es.toList D
theorem MQ.rows{es:List Iz}{D:List (Str×V)}(h:MQ es D):KTD.Rows b6 es D:=by
 induction h with
 |nil=>exact .nil
 |cons h1 h2 _ ih=>exact .cons h1 h2 ih
theorem J1{A:De}{E:Value->Ah->Prop}{s:Ah}{K:An}{prog:Bn}{w:World}{a:Addr}{D:List (Str×V)}{k:Str}{tk:Tok}{Q:Option Value->Ah->Prop}(hK:K.In s.heap)(T:KTab K a D)
  (h1: ∀d v,En k D=some d->b6 d v->Q (some v) {s with toks:=s.toks+1}) (h2:En k D=none->Q none {s with toks:=s.toks+1}):
  wpAny (model prog w) A (dictGet a (.str k tk)) Q E s:=by
 obtain⟨_,o,es,ep,ho,hc,hd,hr⟩:=T;have ho:=hK _ _ ho;have hr:=hr.rows;unfold dictGet;try with_reducible refine Cg ?_
 refine Ac (wpAny_pyHash_str (Ac (KTD.kt_dictFind_strs (s:={s with toks:=s.toks+1}) ho hd (by obtain⟨l⟩:=es;simpa using hr.exact) ?_)));have hq:Q (findBy (fun k v=>v.isStr k) es k) {s with toks:=s.toks+1}:=by
  have hf:findBy (fun k v=>v.isStr k) es k=(es.toList.find? fun e=>e.key.isStr k).map (·.val):=by
   obtain⟨l⟩:=es;simp[findBy]
  rw[hf];cases hat:En k D with
  |some d=>obtain⟨v,hv,hfl⟩:=hr.find_some hat;rw[hv];exact h1 d v hat hfl
  |none=>rw[hr.find_none hat];exact h2 hat
 rw[findBy_of_findIdx?] at hq;cases hi:es.findIdx? fun e=>e.key.isStr k with
 |none=>rw[hi] at hq;exact Ao hq
 |some i=>rw[hi] at hq;exact Ac (wpAny_dictEntries (s:={s with toks:=s.toks+1}) ho hd (Ao hq))
theorem zBB:DW X (fun x y H Q=> ∃a k D v,x= .ref a/\y= .str k/\KTab X.K a D/\En k D=some v/\Q v H):=by
 intro value slice aa s σ H x y v u Q I rx ry h hs;obtain⟨a,k,D,d,rfl,rfl,T,hk,q⟩:=h;cases rx;obtain⟨t,rfl⟩:=ry;have hT:s.TypeIs (.ref a) "dict":=by
  obtain⟨_,o,es,ep,ho,hc,_⟩:=T;exact⟨o,I.kIn _ _ ho,hc.1⟩
 have main:wpAny (model X.prog X.w) X.A (Ih (.ref a) (.str k t)) (EP X aa σ Q) X.xe s:=by
  unfold Ih;try with_reducible refine Cg ?_
  refine Ac (Ic hT (by decide) ?_);refine Ac (Cr (name:=Ar "__getitem__") hT Hx
   (Dt Hx hT PySem.F.entry_dict_getitem ?_ (PySem.F.args_dict_getitem_2 _ _)))
  show wpAny _ _ (dictGet a (.str k t)>>=_) _ _ s;exact Ac (J1 I.kIn T (fun d' v' ha hv=>Ao ⟨v',rfl,Ao (by
   rw[hk] at ha;cases ha;exact⟨d,H,I.tok _,hv,q⟩)⟩) fun hn=>by rw[hk] at hn;cases hn)
 exact Nb hT PySem.F.slot_dict_getitem.lookup main hs
end
section
variable{prog:Bn}{w:World}{A:De}{E:Value->Ah->Prop}{s:Ah}
theorem M6{it t:Addr}{items:Array Value}(hne:t≠it): ∀(n i:Nat) (s:Ah) (Q:List Value->Ah->Prop),s.heap.IsListIter it t i->s.heap.IsList t items->i+n<=items.size→
  (∀h',h'.IsListIter it t (i+n)->Ew it s.heap h'->Q ((items.toList.drop i).take n) {s with heap:=h'})->wpAny (model prog w) A (draw (.ref it) n) Q E s
 |0,i,s,Q,hit,_,_,hQ=>by
  show wpAny _ _ (pure []) Q E s;exact Ao (by simpa using hQ s.heap hit (Heap.SameBut.refl ..))
 |n+1,i,s,Q,hit,ht,hle,hQ=>by
  have hlt:i<items.size:=by lia
  show wpAny _ _ (pyNext (.ref it)>>=_) Q E s;refine Ac (Iv hit ht (x:=items[i]) (by simp[hlt]) fun h₁ hit₁ hs₁=> ?_);refine Ac (Cg (M6 hne n (i+1) _ _ hit₁ (ht.extBut hs₁.extBut hne) (by lia) fun h₂ hit₂ hs₂=>Ao ?_));have hd:items.toList.drop i=items[i]::items.toList.drop (i+1):=by simp[Fl,hlt]
  have:=hQ h₂ (by rw[show i+(n+1)=i+1+n by lia];exact hit₂) (hs₁.trans hs₂);rw[hd,List.take_succ_cons] at this;exact this
theorem Q3{t:Addr}{items:Array Value}{Q:List Value->Ah->Prop}(hh:A.handled=none)(ht:s.heap.IsList t items)
  (hQ: ∀h',Hj s.heap.objs.size s.heap h'->Q items.toList {s with heap:=h'}):wpAny (model prog w) A (Ig (.ref t) items.size none) Q E s:=by
 have hlt:t≠s.heap.objs.size:=by obtain⟨o,ho,_⟩:=ht;exact Bq (Aq ho)
 unfold Ig;refine Ac ?_
 ·unfold notIterableAtAll
  refine Ac (wpAny_specialOf ht.typeIs PySem.F.slot_list_iter.lookup ?_);refine Ao ?_;simp only[Ff,if_false];refine Ac (Cg (Gm ht ?_));have htp:(s.heap.push {cls:= .type "list_iterator",data:= .fields #[.ref t,.int 0 0]}).IsList t items:=by
   obtain⟨o,ho,r⟩:=ht;exact⟨o,Ae _ ho,r⟩
  refine Ac (Cg (M6 hlt items.size 0 _ _ ⟨_,Az _ rfl,rfl,rfl⟩ htp (by lia) fun h₁ hit₁ hs₁=> ?_));have i8:List.take items.size (List.drop 0 items.toList)=items.toList:=by rw[Kb];exact Ck (by simp)
  rw[i8];rw[if_neg (by simp)];have ht₁:h₁.IsList t items:=htp.extBut hs₁.extBut hlt;refine Ac (Cg (Je hh hit₁ ht₁ (by simp) fun h₂ he₂=> ?_));simp only[Option.isSome_none,Ff,if_false];refine Ao (hQ h₂ fun b o hb e=>he₂ b o hb (hs₁.extBut b o hb (Ae _ e)))
theorem RH{env:Env}{gm:List Expr}{x1}{pos:Pos}{t:Addr}{items:Array Value}{Q:Unit->Ah->Prop}(hh:A.handled=none)(ht:s.heap.IsList t items)
  (hn:(assignEach gm env).length=items.size) (lg:(assignEach gm env).findIdx? (·.1)=none)
  (h: ∀h',Hj s.heap.objs.size s.heap h'->wpAny (model prog w) A (assignInOrder ((assignEach gm env).map (·.2)) items.toList) Q E {s with heap:=h'}):
  wpAny (model prog w) A (assign (.Tuple gm x1 pos) env (.ref t)) Q E s:=by
 rw[assign_Tuple];refine Ac (Ft ?_);unfold unpack;rw[hn,lg];exact Ac (Cg (Q3 hh ht h))
end
section
variable{X:Cx}{pos:Pos}
def gLst(K:An)(n:Nat)(t:D2):TG:=fun v σ H Q=> ∃a xs,v= .ref a/\WZ K H a xs/\xs.length=n/\t xs σ H Q
theorem zE4{es:List Expr}{k:Nat}{t:D2}{n:Nat}(hc:X.calm=true)(h:FM X es t)
  (hn:(assignEach es X.env).length=n:=by rfl) (hst:(assignEach es X.env).findIdx? (·.1)=none:=by rfl):PG X (.Tuple es k pos) (gLst X.K n t):=by
 intro aa s σ H v u Q I r hw;obtain⟨a,xs,e1,hq,hl,hw⟩:=hw;subst e1;cases r;obtain⟨its,rv,ht,hz⟩:=I.list hq;refine RH (I.ok.hd hc) ht.isList (by simp[hn,<- hl,rv.length]) hst fun h' hx=> ?_;have I1:cL X aa σ H {s with heap:=h'}:=I.kept (t':=s.toks) fun b o e=>hx b o (Bq (Aq e)) e;exact h aa _ σ H xs _ Q I1 (by simpa using rv) hw
def FnAt(X:Cx)(f:Addr)(sp:Sp):Prop:= ∃(k:Nat) (fd:Ee) (ps:List Str),bC X.prog X.w X.K X.mg X.base CX0 k f fd ps sp/\YH k X.A/\Ga X.K (.ref f)=true/\RA X.K fd ps []
def zD1(X:Cx)(tf:TE)(t:TA):TE:=fun σ H Q=>tf σ H fun x H1=> ∃f sp,x= .ref f/\FnAt X f sp/\t σ H1 fun vs H2=>sp vs H2 Q E0
theorem BJ{x:Str}{p pos:Pos}{e:Expr}{es:List Expr}{tf:TE}{t:TA}(hf:PE X (.Name x p) tf)(ha:PA X (e::es) t)
  (he:Ag (e::es) X.env=(false,eval e X.env)::Ag es X.env:=by rfl) (hpl:(Er pos (Ag es X.env)).any (·.1)=false:=by rfl):
  PE X (.Call (.Name x p) (e::es) [] pos) (zD1 X tf t):=by
 intro aa s σ H Q I h;refine Ej (ZA (hf aa s σ H _ I h) fun u s1 ⟨x,H1,I1,rx,f,sp,ex,F,q⟩=> ?_);subst ex;obtain rfl:u=Bp f:=rx;obtain⟨k,fd,ps,F,hr,hk,hb⟩:=F;refine W.callWith_K (h₀:=X.base) I.ok.mod.kin hk (ZA (ha pos aa s1 σ H1 _ I1 q) fun us s2 ⟨vs,H2,I2,r,q2⟩=>⟨I2.kIn,?_⟩) he hpl;refine CB (dvs:=[]) (ds:=[]) F hr hb .nil BI I2 r ?_;rw[Ca];exact q2
end
section
variable{X:Cx}{K:An}
theorem zIC(h:X.K=K):Z6 X (.type "list") (fun xs H Q=> ∃p ys,xs=[.ref p]/\(WZ K H p ys∨VR K H p ys)/\ ∀l,H l=none->Q (.ref l) (aS H l (.lst ys))):=by subst h;exact LI
theorem zFT(h:X.K=K):Z6 X (.type "tuple") (fun xs H Q=> ∃p ys,xs=[.ref p]/\((WZ K H p ys/\ ∀l,H l=none->Q (.ref l) (aS H l (.tup ys)))∨(VR K H p ys/\Q (.ref p) H))):=by subst h;exact N3
theorem kEqD(h:X.K=K)(hu:X.A.units+64<cLine):XJ X (Cf .Eq) (rEqD K):=by subst h;exact zEE hu
theorem L1(h:X.K=K)(hu:X.A.units+64<cLine):XJ X (Cf .NotEq) (rNeD K):=by subst h;exact zEC hu
theorem AX(h:X.K=K){es:List Expr}{k:Nat}{t:D2}{n:Nat}{pos:Pos}(hc:X.calm=true)(hg:FM X es t)(hn:(assignEach es X.env).length=n:=by rfl)(hst:(assignEach es X.env).findIdx? (·.1)=none:=by rfl):PG X (.Tuple es k pos) (gTup K n t):=by subst h;exact zE2 hc hg hn hst
theorem zIA(h:X.K=K){es:List Expr}{k:Nat}{t:D2}{n:Nat}{pos:Pos}(hc:X.calm=true)(hg:FM X es t)(hn:(assignEach es X.env).length=n:=by rfl)(hst:(assignEach es X.env).findIdx? (·.1)=none:=by rfl):PG X (.Tuple es k pos) (gLst K n t):=by subst h;exact zE4 hc hg hn hst
theorem zFN(h:X.K=K){tg l:Expr}{tl:TE}(hl:PE X l tl):PI X tg l (zCD K tl):=by subst h;exact zAP hl
theorem zI9(h:X.K=K){tg l:Expr}{tl:TE}(hl:PE X l tl):PI X tg l (iTup K tl):=by subst h;exact zE1 hl
theorem kBm(h:X.K=K){o e:Expr}{es:List Expr}{to:TE}{t:TA}{name:Str}{ap aj:Pos}{T id:String}{r:V->List V->Hp->VK->Prop}(pa:PlainAttrs T)(slot:Slot T name id)(hty:typeOf (.builtin id)=pure (.type "method_descriptor")) (hm:MtR X id r) (ho:PE X o to) (ha:PA X (e::es) t)
  (cv:Hb o name X.env (eval o X.env)=eval o X.env:=by rfl)
  (ee : ((Er aj (Ag (e :: es) X.env)).all (fun x => !x.1) && (Lv aj (Ii [] X.env)).all (fun x => x.1.isSome)
   && decide ((e::es).length+([]:List Ij).length+(if([]:List Ij).isEmpty then 0 else 1)<30))=true:=by rfl)
  (cu:(ap.endLine==aj.line)=true:=by rfl) (hs:Ag (e::es) X.env=(false,eval e X.env)::Ag es X.env:=by rfl) (br:(Er aj (Ag es X.env)).any (·.1)=false:=by rfl):
  PE X (.Call (.Attribute o name ap) (e::es) [] aj) (tBM K T r to t):=by
 subst h;exact zHN pa slot hty hm ho ha cv ee cu hs br
end
theorem zG8:Bo "len"=some (.builtin "len"):=by decide+kernel
theorem HB:Bo "min"=some (.builtin "min"):=by decide+kernel
theorem HA:Bo "max"=some (.builtin "max"):=by decide+kernel
theorem N0:Bo "isinstance"=some (.builtin "isinstance"):=by decide+kernel
theorem T8:Bo "list"=some (.type "list"):=by decide+kernel
theorem ZD:Bo "tuple"=some (.type "tuple"):=by decide+kernel
theorem AB:Bo "range"=some (.type "range"):=by decide+kernel
theorem zBL:Bo "bool"=some (.type "bool"):=by decide+kernel
theorem zG9:Bo "int"=some (.type "int"):=by decide+kernel
theorem HC:Bo "str"=some (.type "str"):=by decide+kernel
structure Def(P:Bn)(w:World)(K:An)(mg:Str->Option Value)(base:Heap)(x:Str)(k:Nat)(ps:List Str)(sp:Sp)(f:Addr):Prop where
 at_:mg x=some (.ref f)
 ok: ∃fd,bC P w K mg base CX0 k f fd ps sp/\RA K fd ps []
 kp:Ga K (.ref f)=true
section
variable{X:Cx}{x:Str}{k j:Nat}{ps:List Str}{sp:Sp}{f:Addr}{p pos:Pos}{e:Expr}{es:List Expr}{t:TA}
theorem KH(D:Def X.prog X.w X.K X.mg X.base x k ps sp f)(hr:YH j X.A)(hk:k<=j)(hg:Gl X x)(ha:PA X (e::es) t)(hdb:(x==("__debug__":Str))=false:=by decide)
  (he:Ag (e::es) X.env=(false,eval e X.env)::Ag es X.env:=by rfl) (hpl:(Er pos (Ag es X.env)).any (·.1)=false:=by rfl):
  PE X (.Call (.Name x p) (e::es) [] pos) (CW sp [] E0 t):=by
 obtain⟨fd,F,B⟩:=D.ok;exact GD F (hr.mono hk) hg D.at_ D.kp B .nil BI ha hdb he hpl
theorem Def.fnAt(D:Def X.prog X.w X.K X.mg X.base x k ps sp f)(hr:YH j X.A)(hk:k<=j):FnAt X f sp:=by
 obtain⟨fd,F,B⟩:=D.ok;exact⟨k,fd,ps,F,hr.mono hk,D.kp,B⟩
end
theorem dD{H:Hp}{p:Addr}{o:HO}(hp:H p=none):aC H (aS H p o):=fun b o' e=>by
 rw[bN (X7 e hp)];exact e
theorem KZ(ns:List Int):Dr (.list (ns.map Lb))=true:=by
 have h1:Fa (.list (ns.map Lb))=true:=by simp only[Fa,canLayAll_ints]
 have h2:Gy (.list (ns.map Lb))<=64:=by
  simp only[Gy,depthAll_ints];decide
 unfold Dr;rw[h1,decide_eq_true h2];rfl
inductive dL where
 |non|bl (b:Bool)|int (i:Int)|str (x:Str)|ty (n:String)|fn (x:Str)|tup (ds:List dL)|lst (ds:List dL)|dct (ks:List YY) (ds:List dL)|exn (x:Str)|exr (x n:Str) (d:dL)|dcn (ks:List (List Ky)) (ds:List dL)
def FzL(K:An)(H:Hp)(a:Addr)(xs:List V):Prop:=
 (∃o,H a=some (.frz o (.lst xs)))∨
  ∃(o:Obj) (its:Array Value) (n:Nat),K.lookup a=some o/\o.cls= .type "list" /\o.dict=none/\o.data= .seq its n/\its.size<=sizeLine/\bJ xs its.toList
theorem FzL.sq{K:An}{H:Hp}{a:Addr}{xs:List V}(h:FzL K H a xs):WZ K H a xs:=by
 rcases h with⟨o,h⟩|h
 ·exact .inl (.inr ⟨o,h⟩)
 ·exact .inr h
def zIU(h:Heap)(a C:Addr):Prop:= ∃o vs,h.get? a=some o/\o.cls= .ref C/\o.data= .fields vs
def zGD(h:Heap)(a C D:Addr):Prop:= ∃o vs,h.get? a=some o/\o.cls= .ref C/\o.data= .fields vs/\o.dict=some D
mutual
inductive bP(K:An)(N:Addr->Prop)(H:Hp):(Addr->Prop)->V->dL->Prop
 |non {M:Addr->Prop}:bP K N H M .non .non
 |bl {M:Addr->Prop} (b:Bool):bP K N H M (.bl b) (.bl b)
 |int {M:Addr->Prop} (i:Int):bP K N H M (.int i) (.int i)
 |str {M:Addr->Prop} (x:Str):bP K N H M (.str x) (.str x)
 |ty {M:Addr->Prop} (n:String):bP K N H M (.ty n) (.ty n)
 |fn {M:Addr->Prop} {a:Addr} {x:Str}:Iq K mainGlobals x=some (some (.ref a))->bP K N H M (.ref a) (.fn x)
 |tup {M:Addr->Prop} {a:Addr} {xs:List V} {ds:List dL}:VR K H a xs->cH K N H xs ds->bP K N H M (.ref a) (.tup ds)
 |lst {M:Addr->Prop} {a:Addr} {xs:List V} {ds:List dL}:H a=some (.lst xs)-> ¬M a->cH K N H xs ds->bP K N H M (.ref a) (.lst ds)
 |fzl {M:Addr->Prop} {a:Addr} {xs:List V} {ds:List dL}:FzL K H a xs->cH K N H xs ds->bP K N H M (.ref a) (.lst ds)
 |dct {M:Addr->Prop} {a:Addr} {kvs:List (YY×V)} {ds:List dL}:H a=some (.dK kvs)-> ¬M a->cH K N H (kvs.map Ep) ds->bP K N H M (.ref a) (.dct (kvs.map Ds) ds)
 |ktb {M:Addr->Prop} {a:Addr} {D:List (Str×V)} {ds:List dL}:KTab K a D->cH K N H (D.map Ep) ds->bP K N H M (.ref a) (.dct (D.map fun p=> .inr p.1) ds)
 |exn {M:Addr->Prop} {a C:Addr} {x:Str} {φ:Heap->Prop}:Iq K mainGlobals x=some (some (.ref C))->H a=some (.ext φ)->(∀h,φ h->zIU h a C)->bP K N H M (.ref a) (.exn x)
 |exr {M:Addr->Prop} {a C D:Addr} {x n:Str} {φ:Heap->Prop} {v:V} {d:dL}:Iq K mainGlobals x=some (some (.ref C))->H a=some (.ext φ)->(∀h,φ h->zGD h a C D)->H D=some (.xd [(n,v)])->bP K N H N v d->bP K N H M (.ref a) (.exr x n d)
 |dcn {M:Addr->Prop} {a:Addr} {kvs:List (List Ky×V)} {ds:List dL}:H a=some (.dT kvs)-> ¬M a->cH K N H (kvs.map Ep) ds->bP K N H M (.ref a) (.dcn (kvs.map Ds) ds)
inductive cH(K:An)(N:Addr->Prop)(H:Hp):List V->List dL->Prop
 |nil:cH K N H [] []
 |cons {v:V} {vs:List V} {d:dL} {ds:List dL}:bP K N H N v d->cH K N H vs ds->cH K N H (v::vs) (d::ds)
end
def Hard:HO->Prop
 | .tup _=>True
 | .frz _ _=>True
 | .ext _=>True
 | .xd _=>True
 |_=>False
def Fr(P:Addr->Prop)(H H':Hp):Prop:= ∀b o,H b=some o->(P b->Hard o)->H' b=some o
theorem Fr.refl(P:Addr->Prop)(H:Hp):Fr P H H:=fun _ _ h _=>h
theorem Fr.trans{P:Addr->Prop}{H H1 H2:Hp}(a:Fr P H H1)(b:Fr P H1 H2):Fr P H H2:=fun c o h n=>b c o (a c o h n) n
theorem Fr.mono{P P':Addr->Prop}{H H':Hp}(a:Fr P H H')(h: ∀b,P b->P' b):Fr P' H H':=fun c o e n=>a c o e fun z=>n (h c z)
theorem aC.fr{P:Addr->Prop}{H H':Hp}(a:aC H H'):Fr P H H':=fun c o h _=>a c o h
section
variable{K:An}{N N' M M' P:Addr->Prop}{H H':Hp}
theorem Fr.tup(f:Fr P H H'){a:Addr}{xs:List V}(h:VR K H a xs):VR K H' a xs:=by
 rcases h with(h|⟨o,h⟩)|h
 ·exact .inl (.inl (f _ _ h fun _=>trivial))
 ·exact .inl (.inr ⟨o,f _ _ h fun _=>trivial⟩)
 ·exact .inr h
theorem Fr.fzl(f:Fr P H H'){a:Addr}{xs:List V}(h:FzL K H a xs):FzL K H' a xs:=by
 rcases h with⟨o,h⟩|h
 ·exact .inl ⟨o,f _ _ h fun _=>trivial⟩
 ·exact .inr h
theorem bP.fr(f:Fr P H H')(hN: ∀a,P a->N a){M:Addr->Prop}{v:V}{d:dL}(hM: ∀a,P a->M a)(h:bP K N H M v d):bP K N H' M v d:=
 bP.rec (motive_1:=fun M v d _=>(∀a,P a->M a)->bP K N H' M v d) (motive_2:=fun vs ds _=>cH K N H' vs ds) (fun _=> .non) (fun b _=> .bl b) (fun i _=> .int i) (fun x _=> .str x) (fun n _=> .ty n) (fun q _=> .fn q) (fun q _ r _=> .tup (f.tup q) r)
  (fun q n _ r hM=> .lst (f _ _ q fun z=>absurd (hM _ z) n) n r) (fun q _ r _=> .fzl (f.fzl q) r) (fun q n _ r hM=> .dct (f _ _ q fun z=>absurd (hM _ z) n) n r) (fun q _ r _=> .ktb q r) (fun p q r _=> .exn p (f _ _ q fun _=>trivial) r)
  (fun p q r s _ t _=> .exr p (f _ _ q fun _=>trivial) r (f _ _ s fun _=>trivial) (t hN)) (fun q n _ r hM=> .dcn (f _ _ q fun z=>absurd (hM _ z) n) n r) .nil (fun _ _ a b=> .cons (a hN) b) h hM
theorem cH.map{K':An}{N':Addr->Prop}{H':Hp}(g: ∀{v d},bP K N H N v d->bP K' N' H' N' v d): ∀{vs:List V} {ds:List dL},cH K N H vs ds->cH K' N' H' vs ds:=by
 intro vs;induction vs with
 |nil=>intro ds h;cases h;exact .nil
 |cons v vs ih=>intro ds h;cases h with|cons a b=>exact .cons (g a) (ih b)
theorem cH.fr(f:Fr P H H')(hN: ∀a,P a->N a){vs:List V}{ds:List dL}(h:cH K N H vs ds):cH K N H' vs ds:=h.map fun r=>r.fr f hN hN
theorem bP.mono(hN: ∀a,N' a->N a){M M':Addr->Prop}{v:V}{d:dL}(hM: ∀a,M' a->M a)(h:bP K N H M v d):bP K N' H M' v d:=
 bP.rec (motive_1:=fun M v d _=> ∀M',(∀a,M' a->M a)->bP K N' H M' v d) (motive_2:=fun vs ds _=>cH K N' H vs ds) (fun _ _=> .non) (fun b _ _=> .bl b) (fun i _ _=> .int i) (fun x _ _=> .str x) (fun n _ _=> .ty n) (fun q _ _=> .fn q) (fun q _ r _ _=> .tup q r)
  (fun q n _ r _ hM=> .lst q (fun z=>n (hM _ z)) r) (fun q _ r _ _=> .fzl q r) (fun q n _ r _ hM=> .dct q (fun z=>n (hM _ z)) r) (fun q _ r _ _=> .ktb q r) (fun p q r _ _=> .exn p q r) (fun p q r s _ t _ _=> .exr p q r s (t _ hN)) (fun q n _ r _ hM=> .dcn q (fun z=>n (hM _ z)) r) .nil (fun _ _ a b=> .cons (a _ hN) b) h M' hM
theorem cH.mono(hN: ∀a,N' a->N a){vs:List V}{ds:List dL}(h:cH K N H vs ds):cH K N' H vs ds:=h.map fun r=>r.mono hN hN
theorem bP.same(f:aC H H'){v:V}{d:dL}(h:bP K N H M v d):bP K N H' M v d:=h.fr f.fr (fun _ z=>z.elim) (P:=fun _=>False) fun _ z=>z.elim
theorem cH.same(f:aC H H'){vs:List V}{ds:List dL}(h:cH K N H vs ds):cH K N H' vs ds:=h.fr f.fr (P:=fun _=>False) fun _ z=>z.elim
theorem cH.length: ∀{vs:List V} {ds:List dL},cH K N H vs ds->vs.length=ds.length
 |_,_,.nil=>rfl
 |_,_,.cons _ t=>congrArg (· +1) (cH.length t)
theorem cH.append: ∀{vs ws:List V} {ds es:List dL},cH K N H vs ds->cH K N H ws es->cH K N H (vs++ws) (ds++es)
 |_,_,_,_,.nil,s=>s
 |_,_,_,_,.cons h t,s=> .cons h (cH.append t s)
theorem cH.get: ∀{vs:List V} {ds:List dL} {i:Nat} {d:dL},cH K N H vs ds->ds[i]? =some d-> ∃v,vs[i]? =some v/\bP K N H N v d
 |_,_,_,_,.nil,e=>by simp at e
 |_,_,0,_,.cons r _,e=>by simp at e;subst e;exact⟨_,rfl,r⟩
 |_,_,i+1,x,.cons _ t,e=>by
  obtain⟨u,h1,h2⟩:=cH.get (i:=i) (d:=x) t (by simpa using e);exact⟨u,by simpa using h1,h2⟩
theorem cH.take: ∀{vs:List V} {ds:List dL} (n:Nat),cH K N H vs ds->cH K N H (vs.take n) (ds.take n)
 |_,_,0,_=> .nil
 |_,_,_+1,.nil=> .nil
 |_,_,n+1,.cons r t=> .cons r (cH.take n t)
theorem cH.drop: ∀{vs:List V} {ds:List dL} (n:Nat),cH K N H vs ds->cH K N H (vs.drop n) (ds.drop n)
 |_,_,0,r=>r
 |_,_,_+1,.nil=> .nil
 |_,_,n+1,.cons _ t=>cH.drop n t
theorem cH.set{v:V}{d:dL}(h:bP K N H N v d): ∀{vs:List V} {ds:List dL} (i:Nat),cH K N H vs ds->cH K N H (vs.set i v) (ds.set i d)
 |_,_,_,.nil=> .nil
 |_,_,0,.cons _ t=> .cons h t
 |_,_,i+1,.cons q t=> .cons q (cH.set h i t)
theorem cH.snoc{vs:List V}{ds:List dL}{v:V}{d:dL}(r:cH K N H vs ds)(h:bP K N H N v d):cH K N H (vs++[v]) (ds++[d]):=r.append (.cons h .nil)
end
mutual
def dL.isD:dL->Bool
 | .non=>true
 | .bl _=>true
 | .int _=>true
 | .str _=>true
 | .ty _=>false
 | .fn _=>false
 | .tup ds=>JT ds
 | .lst ds=>JT ds
 | .dct _ _=>false
 | .exn _=>false
 | .exr _ _ _=>false
 | .dcn _ _=>false
def JT:List dL->Bool
 |[]=>true
 |d::ds=>d.isD && JT ds
end
mutual
def dL.pd:dL->Ka
 | .non=> .none
 | .bl b=> .bool b
 | .int i=> .int i
 | .str x=> .str x
 | .ty _=> .none
 | .fn _=> .none
 | .tup ds=> .tuple (DT ds)
 | .lst ds=> .list (DT ds)
 | .dct _ _=> .none
 | .exn _=> .none
 | .exr _ _ _=> .none
 | .dcn _ _=> .none
def DT:List dL->List Ka
 |[]=>[]
 |d::ds=>d.pd::DT ds
end
mutual
def dL.hard:dL->Bool
 | .tup ds=>TJ ds
 | .lst _=>false
 | .dct _ _=>false
 | .exr _ _ _=>false
 | .dcn _ _=>false
 |_=>true
def TJ:List dL->Bool
 |[]=>true
 |d::ds=>d.hard && TJ ds
end
section
variable{K:An}{N:Addr->Prop}{H:Hp}
theorem bP.dp{M:Addr->Prop}{v:V}{d:dL}(h:bP K N H M v d)(e:d.isD=true):Dp K H v d.pd:=
 bP.rec (motive_1:=fun M v d _=>d.isD=true->Dp K H v d.pd) (motive_2:=fun vs ds _=>JT ds=true->N9 K H vs (DT ds)) (fun _=> .non) (fun b _=> .bl b) (fun i _=> .int i) (fun x _=> .str x) (fun _ h=>nomatch h) (fun _ h=>nomatch h) (fun q _ r h=> .tup q (r h))
  (fun q _ _ r h=> .lst (WZ.of q) (r h)) (fun q _ r h=> .lst q.sq (r h)) (fun _ _ _ _ h=>nomatch h) (fun _ _ _ h=>nomatch h) (fun _ _ _ h=>nomatch h) (fun _ _ _ _ _ _ h=>nomatch h) (fun _ _ _ _ h=>nomatch h) (fun _=> .nil) (fun _ _ a b e=> .cons (a (Cs.mp e).1) (b (Cs.mp e).2)) h e
theorem bP.hard{N':Addr->Prop}{M M':Addr->Prop}{v:V}{d:dL}(h:bP K N H M v d)(e:d.hard=true):bP K N' H M' v d:=
 bP.rec (motive_1:=fun M v d _=> ∀M',d.hard=true->bP K N' H M' v d) (motive_2:=fun vs ds _=>TJ ds=true->cH K N' H vs ds) (fun _ _=> .non) (fun b _ _=> .bl b) (fun i _ _=> .int i) (fun x _ _=> .str x) (fun n _ _=> .ty n) (fun q _ _=> .fn q) (fun q _ r _ h=> .tup q (r h))
  (fun _ _ _ _ _ h=>nomatch h) (fun _ _ _ _ h=>nomatch h) (fun _ _ _ _ _ h=>nomatch h) (fun _ _ _ _ h=>nomatch h) (fun p q r _ _=> .exn p q r) (fun _ _ _ _ _ _ _ h=>nomatch h) (fun _ _ _ _ _ h=>nomatch h) (fun _=> .nil) (fun _ _ a b e=> .cons (a _ (Cs.mp e).1) (b (Cs.mp e).2)) h M' e
theorem cH.hard{N':Addr->Prop}: ∀{vs:List V} {ds:List dL},cH K N H vs ds->TJ ds=true->cH K N' H vs ds:=by
 intro vs;induction vs with
 |nil=>intro ds h _;cases h;exact .nil
 |cons v vs ih=>intro ds h e;cases h with|cons a b=>exact .cons (a.hard (Cs.mp e).1) (ih b (Cs.mp e).2)
end
inductive Sl where
 |no|va (d:dL)|ow (d:dL)
abbrev Ev:=List Sl
structure Bs where
 Z:Addr->Prop
 P:Addr->Prop
 H0:Hp
 mu:Nat->Option Addr
 kp:List (V×dL)
def Nn(B:Bs)(O:Nat->Option Addr):Addr->Prop:=fun a=>B.Z a∨ ∃i,O i=some a
def OA(O:Nat->Option Addr):Addr->Prop:=fun a=> ∃i,O i=some a
inductive SF(K:An)(N:Addr->Prop)(H:Hp)(a:Addr):dL->Prop
 |lst {xs:List V} {ds:List dL}:H a=some (.lst xs)->cH K N H xs ds->SF K N H a (.lst ds)
 |dct {kvs:List (YY×V)} {ds:List dL}:H a=some (.dK kvs)->cH K N H (kvs.map Ep) ds->SF K N H a (.dct (kvs.map Ds) ds)
 |dcn {kvs:List (List Ky×V)} {ds:List dL}:H a=some (.dT kvs)->cH K N H (kvs.map Ep) ds->SF K N H a (.dcn (kvs.map Ds) ds)
theorem SF.fr{K:An}{N P:Addr->Prop}{H H':Hp}{a:Addr}{d:dL}(f:Fr P H H')(hN: ∀a,P a->N a)(ha: ¬P a):SF K N H a d->SF K N H' a d
 | .lst q r=> .lst (f _ _ q fun z=>absurd z ha) (r.fr f hN)
 | .dct q r=> .dct (f _ _ q fun z=>absurd z ha) (r.fr f hN)
 | .dcn q r=> .dcn (f _ _ q fun z=>absurd z ha) (r.fr f hN)
theorem SF.mono{K:An}{N N':Addr->Prop}{H:Hp}{a:Addr}{d:dL}(h: ∀b,N' b->N b):SF K N H a d->SF K N' H a d
 | .lst q r=> .lst q (r.mono h)
 | .dct q r=> .dct q (r.mono h)
 | .dcn q r=> .dcn q (r.mono h)
theorem SF.soft{K:An}{N:Addr->Prop}{H:Hp}{a:Addr}{d:dL}(h:SF K N H a d): ∃o,H a=some o/\¬Hard o:=by
 cases h with
 |lst q _=>exact⟨_,q,fun z=>z⟩
 |dct q _=>exact⟨_,q,fun z=>z⟩
 |dcn q _=>exact⟨_,q,fun z=>z⟩
theorem SF.rep{K:An}{N M:Addr->Prop}{H:Hp}{a:Addr}{d:dL}(h:SF K N H a d)(hM: ¬M a):bP K N H M (.ref a) d:=by
 cases h with
 |lst q r=>exact .lst q hM r
 |dct q r=>exact .dct q hM r
 |dcn q r=>exact .dcn q hM r
structure aR(K:An)(ml:List Nat)(B:Bs)(O:Nat->Option Addr)(H:Hp)(σ:St)(δ:Ev):Prop where
 len:σ.length=δ.length
 va: ∀(i:Nat) (d:dL),δ[i]? =some (Sl.va d)-> ∃v,σ[i]? =some (some v)/\bP K (Nn B O) H (Nn B O) v d
 ow: ∀(i:Nat) (d:dL),δ[i]? =some (Sl.ow d)-> ∃a,O i=some a/\σ[i]? =some (some (.ref a))/\SF K (Nn B O) H a d
 dom: ∀(i:Nat) a,O i=some a-> ∃d,δ[i]? =some (Sl.ow d)
 inj: ∀i j a,O i=some a->O j=some a->i=j
 old: ∀i a,O i=some a-> ¬B.Z a/\(B.P a∨B.H0 a=none)
 zin: ∀a,B.Z a-> ∃o,H a=some o
 frm:Fr B.P B.H0 H
 par:(∀i a,B.mu i=some a->i∈ml)/\ ∀i∈ml,O i=B.mu i
 pin: ∀a,B.P a-> ∃o,H a=some o
 kep: ∀p∈B.kp,bP K (Nn B O) H (Nn B O) p.1 p.2
section
variable{K:An}{ml:List Nat}{B:Bs}{O:Nat->Option Addr}{H H':Hp}{σ:St}{δ δ':Ev}
theorem aR.nin(S:aR K ml B O H σ δ){a:Addr}(h:Nn B O a): ∃o,H a=some o:=by
 rcases h with h|⟨i,h⟩
 ·exact S.zin a h
 ·obtain⟨d,e⟩:=S.dom i a h
  obtain⟨a',e1,_,w⟩:=S.ow i d e;rw[h] at e1;cases e1;obtain⟨o,q,_⟩:=w.soft;exact⟨o,q⟩
theorem aR.new(S:aR K ml B O H σ δ){a:Addr}(h:H a=none): ¬Nn B O a:=fun z=>by
 obtain⟨o,q⟩:=S.nin z;rw[h] at q;cases q
theorem aR.same(S:aR K ml B O H σ δ)(f:aC H H'):aR K ml B O H' σ δ where
 len:=S.len
 va:=fun i d e=>let ⟨v,a,b⟩:=S.va i d e;⟨v,a,b.same f⟩
 ow:=fun i d e=>let ⟨a,b,c,w⟩:=S.ow i d e;⟨a,b,c,w.fr (P:=fun _=>False) f.fr (fun _ z=>z.elim) fun z=>z⟩
 dom:=S.dom
 inj:=S.inj
 old:=S.old
 zin:=fun a h=>let ⟨o,q⟩:=S.zin a h;⟨o,f _ _ q⟩
 frm:=S.frm.trans f.fr
 par:=S.par
 pin:=fun a h=>let ⟨o,q⟩:=S.pin a h;⟨o,f _ _ q⟩
 kep:=fun p h=>(S.kep p h).same f
theorem aR.fresh(S:aR K ml B O H σ δ){a:Addr}(h:H a=none):B.H0 a=none:=by
 cases q:B.H0 a with
 |none=>rfl
 |some o=>
  by_cases hp:B.P a
  ·obtain⟨o',e⟩:=S.pin a hp
   rw[h] at e;cases e
  ·have := S.frm a o q fun z => absurd z hp
   rw[h] at this;cases this
def Bs.add(B:Bs)(p:Addr):Bs:={B with Z:=fun a=>B.Z a∨a=p}
theorem SW{p:Addr}: ∀a,Nn B O a->Nn (B.add p) O a:=fun a h=>by
 rcases h with h|h
 ·exact .inl (.inl h)
 ·exact .inr h
theorem bP.away{p:Addr}(hp:H p=none)(N N':Addr->Prop)(hN: ∀a,N' a->N a∨a=p){M M':Addr->Prop}{v:V}{d:dL}(hM: ∀a,M' a->M a∨a=p)(h:bP K N H M v d):bP K N' H M' v d:=
 have no: ∀{a:Addr} {o:HO} {M M':Addr->Prop},H a=some o-> ¬M a->(∀a,M' a->M a∨a=p)-> ¬M' a:=fun q n hM z=>(hM _ z).elim n fun e=>by rw[e,hp] at q;cases q
 bP.rec (motive_1:=fun M v d _=> ∀M',(∀a,M' a->M a∨a=p)->bP K N' H M' v d) (motive_2:=fun vs ds _=>cH K N' H vs ds) (fun _ _=> .non) (fun b _ _=> .bl b) (fun i _ _=> .int i) (fun x _ _=> .str x) (fun n _ _=> .ty n) (fun q _ _=> .fn q) (fun q _ r _ _=> .tup q r)
  (fun q n _ r _ hM=> .lst q (no q n hM) r) (fun q _ r _ _=> .fzl q r) (fun q n _ r _ hM=> .dct q (no q n hM) r) (fun q _ r _ _=> .ktb q r) (fun p q r _ _=> .exn p q r) (fun p q r s _ t _ _=> .exr p q r s (t _ hN)) (fun q n _ r _ hM=> .dcn q (no q n hM) r) .nil (fun _ _ a b=> .cons (a _ hN) b) h M' hM
theorem cH.away{p:Addr}(hp:H p=none)(N N':Addr->Prop)(hN: ∀a,N' a->N a∨a=p){vs:List V}{ds:List dL}(h:cH K N H vs ds):cH K N' H vs ds:=h.map fun r=>r.away hp N N' hN hN
theorem WU{p:Addr}: ∀a,Nn (B.add p) O a->Nn B O a∨a=p:=fun a h=>by
 rcases h with(h|h)|h
 ·exact .inl (.inl h)
 ·exact .inr h
 ·exact .inl (.inr h)
theorem aR.laid(S:aR K ml B O H σ δ){p:Addr}{o:HO}(hp:H p=none):aR K ml (B.add p) O (aS H p o) σ δ where
 len:=S.len
 va:=fun i d e=>let ⟨v,a,b⟩:=S.va i d e;⟨v,a,(b.away hp _ _ WU WU).same (dD hp)⟩
 ow:=fun i d e=>by
  obtain⟨a,b,c,w⟩:=S.ow i d e;refine⟨a,b,c,?_⟩;have hne: ∀o,H a=some o->aS H p o=aS H p o:=fun _ _=>rfl;cases w with
  |lst q r=>exact .lst (dD hp _ _ q) ((r.away hp _ _ WU).same (dD hp))
  |dct q r=>exact .dct (dD hp _ _ q) ((r.away hp _ _ WU).same (dD hp))
  |dcn q r=>exact .dcn (dD hp _ _ q) ((r.away hp _ _ WU).same (dD hp))
 dom:=S.dom
 inj:=S.inj
 old:=fun i a h=>by
  refine⟨fun z=> ?_,(S.old i a h).2⟩;rcases z with z|z
  ·exact(S.old i a h).1 z
  ·obtain⟨o,q⟩:=S.nin (.inr ⟨i,h⟩)
   rw[z,hp] at q;cases q
 zin:=fun a h=>by
  rcases h with h|h
  ·obtain⟨o,q⟩:=S.zin a h
   exact⟨o,dD hp _ _ q⟩
  ·exact⟨_,by rw[h];exact cG⟩
 frm:=S.frm.trans (dD hp).fr
 par:=S.par
 pin:=fun a h=>let ⟨o,q⟩:=S.pin a h;⟨o,dD hp _ _ q⟩
 kep:=fun p h=>((S.kep p h).away hp _ _ WU WU).same (dD hp)
theorem QD{i:Nat}{o:Option Addr}: ∀a,Nn B (fun j=>if j=i then none else O j) a->Nn B O a:=fun a h=>by
 rcases h with h|⟨j,h⟩
 ·exact .inl h
 ·refine .inr ⟨j,?_⟩
  by_cases hj:j=i
  ·simp[hj] at h
  ·simpa[hj] using h
theorem UQ{α:Type}{l:List α}{i j:Nat}{x y:α}(h:(l.set i x)[j]? =some y):(j=i/\y=x/\i<l.length)∨(j≠i/\l[j]? =some y):=by
 by_cases hj:j=i
 ·subst hj
  rw[List.getElem?_set_self'] at h;obtain⟨z,q,h⟩:=Al.mp h;cases h;exact .inl ⟨rfl,rfl,(Ai.mp q).1⟩
 ·rw[Bv (Cq hj)] at h
  exact .inr ⟨hj,h⟩
theorem aR.setVa(S:aR K ml B O H σ δ){i:Nat}{v:V}{d:dL}(hm:i∉ml)(h:bP K (Nn B O) H (Nn B O) v d):aR K ml B (fun j=>if j=i then none else O j) H (σ.set i (some v)) (δ.set i (.va d)) where
 len:=by rw[Ce,Ce,S.len]
 va:=fun j e q=>by
  rcases UQ q with⟨rfl,z,hl⟩|⟨hj,q⟩
  ·cases z
   exact⟨v,by rw[Ci (by rw[S.len];exact hl)],h.mono (QD (o:=none)) (QD (o:=none))⟩
  ·obtain⟨u,e1,r⟩:=S.va j e q
   exact⟨u,by rw[Bv (Cq hj)];exact e1,r.mono (QD (o:=none)) (QD (o:=none))⟩
 ow:=fun j e q=>by
  rcases UQ q with⟨rfl,z,hl⟩|⟨hj,q⟩
  ·cases z
  ·obtain⟨a,e1,e2,w⟩:=S.ow j e q
   exact⟨a,by simpa[hj] using e1,by rw[Bv (Cq hj)];exact e2,w.mono (QD (o:=none))⟩
 dom:=fun j a e=>by
  by_cases hj:j=i
  ·simp[hj] at e
  ·obtain ⟨d,q⟩ := S.dom j a (by simpa [hj] using e)
   exact⟨d,by rw[Bv (Cq hj)];exact q⟩
 inj:=fun j k a e1 e2=>by
  by_cases hj:j=i
  ·simp[hj] at e1
  ·by_cases hk:k=i
   ·simp[hk] at e2
   ·exact S.inj j k a (by simpa[hj] using e1) (by simpa[hk] using e2)
 old:=fun j a e=>by
  by_cases hj:j=i
  ·simp[hj] at e
  ·exact S.old j a (by simpa[hj] using e)
 zin:=S.zin
 frm:=S.frm
 par:=⟨S.par.1,fun j hj=>by
  have hne:j≠i:=fun z=>hm (z▸hj);have h2:O j=B.mu j:=S.par.2 j hj;simpa[hne] using h2⟩
 pin:=S.pin
 kep:=fun p hp=>(S.kep p hp).mono (QD (o:=none)) (QD (o:=none))
theorem QZ{i:Nat}{p:Addr}: ∀a,Nn B (fun j=>if j=i then some p else O j) a->Nn (B.add p) O a:=fun a h=>by
 rcases h with h|⟨j,h⟩
 ·exact .inl (.inl h)
 ·by_cases hj:j=i
  ·simp[hj] at h
   exact .inl (.inr h.symm)
  ·exact .inr ⟨j,by simpa[hj] using h⟩
theorem aR.setOw{p:Addr}(S:aR K ml (B.add p) O H σ δ){i:Nat}{d:dL}(hm:i∉ml)(hl:i<δ.length)(hz: ¬B.Z p)(h0:B.H0 p=none)(h:SF K (Nn (B.add p) O) H p d):
  aR K ml B (fun j=>if j=i then some p else O j) H (σ.set i (some (.ref p))) (δ.set i (.ow d)) where
 len:=by rw[Ce,Ce,S.len]
 va:=fun j e q=>by
  rcases UQ q with⟨rfl,z,_⟩|⟨hj,q⟩
  ·cases z
  ·obtain⟨u,e1,r⟩:=S.va j e q
   exact⟨u,by rw[Bv (Cq hj)];exact e1,r.mono QZ QZ⟩
 ow:=fun j e q=>by
  rcases UQ q with⟨rfl,z,hl⟩|⟨hj,q⟩
  ·cases z
   exact⟨p,by simp,by rw[Ci (by rw[S.len];exact hl)],h.mono QZ⟩
  ·obtain⟨a,e1,e2,w⟩:=S.ow j e q
   exact⟨a,by simpa[hj] using e1,by rw[Bv (Cq hj)];exact e2,w.mono QZ⟩
 dom:=fun j a e=>by
  by_cases hj:j=i
  ·subst hj
   exact⟨d,by rw[Ci hl]⟩
  ·obtain ⟨d,q⟩ := S.dom j a (by simpa [hj] using e)
   exact⟨d,by rw[Bv (Cq hj)];exact q⟩
 inj:=fun j k a e1 e2=>by
  by_cases hj:j=i
  ·by_cases hk:k=i
   ·rw[hj,hk]
   ·simp[hj] at e1
    simp[hk] at e2;exact absurd (.inr e1.symm) (S.old k a e2).1
  ·by_cases hk:k=i
   ·simp[hk] at e2
    simp[hj] at e1;exact absurd (.inr e2.symm) (S.old j a e1).1
   ·exact S.inj j k a (by simpa[hj] using e1) (by simpa[hk] using e2)
 old:=fun j a e=>by
  by_cases hj:j=i
  ·simp[hj] at e
   subst e;exact⟨hz,.inr h0⟩
  ·have := S.old j a (by simpa [hj] using e)
   exact⟨fun z=>this.1 (.inl z),this.2⟩
 zin:=fun a h=>S.zin a (.inl h)
 frm:=S.frm
 par:=⟨S.par.1,fun j hj=>by
  have hne:j≠i:=fun z=>hm (z▸hj);have h2:O j=B.mu j:=S.par.2 j hj;simpa[hne] using h2⟩
 pin:=S.pin
 kep:=fun p hp=>(S.kep p hp).mono QZ QZ
theorem aR.wrote(S:aR K ml B O H σ δ){i:Nat}{a:Addr}{d:dL}{o:HO}(e:O i=some a)(ho: ¬Hard o)(h:SF K (Nn B O) (aS H a o) a d):aR K ml B O (aS H a o) σ (δ.set i (.ow d)):=by
 have hf:Fr (fun b=>b=a) H (aS H a o):=fun b u q n=>by
  by_cases hb:b=a
  ·subst hb
   obtain⟨d',q'⟩:=S.dom i b e;obtain⟨a',e1,_,w⟩:=S.ow i d' q';rw[e] at e1;cases e1;obtain⟨u',q1,hh⟩:=w.soft;rw[q] at q1;cases q1;exact absurd (n rfl) hh
  ·rw[bN hb]
   exact q
 have hN: ∀b,b=a->Nn B O b:=fun b z=> .inr ⟨i,z▸e⟩;have hin: ∀b,(∃u,H b=some u)-> ∃u,aS H a o b=some u:=fun b q0=>by
  obtain⟨u,q⟩:=q0;by_cases hb:b=a
  ·exact⟨o,by rw[hb];exact cG⟩
  ·exact⟨u,by rw[bN hb];exact q⟩
 refine⟨by rw[Ce,S.len],fun j d' q=> ?_,fun j d' q=> ?_,fun j b q=> ?_,S.inj,S.old,fun b h=>hin b (S.zin b h),?_,S.par,fun b h=>hin b (S.pin b h),fun p hp=>(S.kep p hp).fr hf hN hN⟩
 ·rcases UQ q with⟨_,z,_⟩|⟨hj,q⟩
  ·cases z
  ·obtain⟨v,e1,r⟩:=S.va j d' q
   exact⟨v,e1,r.fr hf hN hN⟩
 ·rcases UQ q with⟨rfl,z,hl⟩|⟨hj,q⟩
  ·cases z
   obtain⟨d0,q0⟩:=S.dom j a e;obtain⟨a',e1,e2,_⟩:=S.ow j d0 q0;rw[e] at e1;cases e1;exact⟨a,e,e2,h⟩
  ·obtain⟨a',e1,e2,w⟩:=S.ow j d' q
   exact⟨a',e1,e2,w.fr hf hN fun z=>hj (S.inj j i a (z▸e1) e)⟩
 ·by_cases hj:j=i
  ·subst hj
   obtain⟨d0,q0⟩:=S.dom j b q;exact⟨d,by rw[Ci (Ai.mp q0).1]⟩
  ·obtain⟨d0,q0⟩:=S.dom j b q
   exact⟨d0,by rw[Bv (Cq hj)];exact q0⟩
 ·intro b u q n
  have h1:=S.frm b u q n;by_cases hb:b=a
  ·subst hb
   rcases(S.old i b e).2 with z|z
   ·obtain⟨d',q'⟩:=S.dom i b e
    obtain⟨a',e1,_,w⟩:=S.ow i d' q';rw[e] at e1;cases e1;obtain⟨u',q1,hh⟩:=w.soft;rw[h1] at q1;cases q1;exact absurd (n z) hh
   ·rw[q] at z
    cases z
  ·rw[bN hb]
   exact h1
theorem aR.keepV(S:aR K ml B O H σ δ){ps:List (V×dL)}(h: ∀p∈ps,bP K (Nn B O) H (Nn B O) p.1 p.2):aR K ml {B with kp:=ps++B.kp} O H σ δ:=
 ⟨S.len,S.va,S.ow,S.dom,S.inj,S.old,S.zin,S.frm,S.par,S.pin,fun p hp=>(Bi.mp hp).elim (h p) (S.kep p)⟩
theorem aR.unkeep{ps:List (V×dL)}(S:aR K ml {B with kp:=ps++B.kp} O H σ δ):aR K ml B O H σ δ:=
 ⟨S.len,S.va,S.ow,S.dom,S.inj,S.old,S.zin,S.frm,S.par,S.pin,fun p hp=>S.kep p (Bh _ hp)⟩
end
def rz(B:Bs):Addr->Prop:=fun a=>B.Z a∨ ∃i,B.mu i=some a
def av(B:Bs)(O:Nat->Option Addr)(b:Bool):Addr->Prop:=if b then Nn B O else fun a=>Nn B O a/\rz B a
def at_(B:Bs)(O:Nat->Option Addr)(b:Bool):Addr->Prop:=if b then Nn B O else fun _=>False
theorem zCI{B:Bs}{O:Nat->Option Addr}{b:Bool}: ∀a,at_ B O b a->av B O b a:=fun a h=>by
 cases b with
 |true=>exact h
 |false=>exact h.elim
theorem zBN{B:Bs}{O:Nat->Option Addr}{b c:Bool}(h:b=true->c=true): ∀a,at_ B O b a->at_ B O c a:=fun a z=>by
 cases b with
 |true=>rw[h rfl];exact z
 |false=>exact z.elim
theorem aR.rzn{K:An}{ml:List Nat}{B:Bs}{O:Nat->Option Addr}{H:Hp}{σ:St}{δ:Ev}(S:aR K ml B O H σ δ): ∀a,rz B a->Nn B O a:=fun a h=>by
 rcases h with h|⟨i,h⟩
 ·exact .inl h
 ·exact .inr ⟨i,(S.par.2 i (S.par.1 i a h)).trans h⟩
theorem aR.rza{K:An}{ml:List Nat}{B:Bs}{O:Nat->Option Addr}{H:Hp}{σ:St}{δ:Ev}(S:aR K ml B O H σ δ){b:Bool}: ∀a,rz B a->av B O b a:=fun a h=>by
 cases b with
 |true=>exact S.rzn a h
 |false=>exact⟨S.rzn a h,h⟩
theorem RI{B:Bs}{O:Nat->Option Addr}{b c:Bool}(h:b=true->c=true): ∀a,av B O b a->av B O c a:=fun a z=>by
 cases b with
 |true=>rw[h rfl];exact z
 |false=>cases c with
  |true=>exact z.1
  |false=>exact z
structure Res(K:An)(ml:List Nat)(B:Bs)(O:Nat->Option Addr)(H:Hp)(σ:St)(pu bt bi:Bool)(H':Hp)(δ':Ev)(v:V)(d:dL):Prop where
 sta:aR K ml B O H' σ δ'
 frm:Fr (OA O) H H'
 pur:pu=true->aC H H'
 rep:bP K (av B O bi) H' (at_ B O bt) v d
abbrev VF:=Ev->Option (dL×Ev)
def TV(K:An)(ml:List Nat)(pu bt bi:Bool)(f:VF):TE:=fun σ H Q=> ∃B O δ d δ',aR K ml B O H σ δ/\f δ=some (d,δ')/\ ∀v H',Res K ml B O H σ pu bt bi H' δ' v d->Q v H'
theorem PE.imp{X:Cx}{e:Expr}{t u:TE}(h:PE X e t)(k: ∀σ H Q,u σ H Q->t σ H Q):PE X e u:=fun aa s σ H Q I w=>h aa s σ H Q I (k σ H Q w)
theorem PT.imp{X:Cx}{e:Expr}{t u:TT}(h:PT X e t)(k: ∀σ H Q,u σ H Q->t σ H Q):PT X e u:=fun aa s σ H Q I w=>h aa s σ H Q I (k σ H Q w)
theorem PW.imp{X:Cx}{e:Expr}{t u:TT}(h:PW X e t)(k: ∀σ H Q,u σ H Q->t σ H Q):PW X e u:=fun bh aa s σ H Q I w=>h bh aa s σ H Q I (k σ H Q w)
theorem PA.imp{X:Cx}{e:List Expr}{t u:TA}(h:PA X e t)(k: ∀σ H Q,u σ H Q->t σ H Q):PA X e u:=fun pos aa s σ H Q I w=>h pos aa s σ H Q I (k σ H Q w)
theorem PS.imp{X:Cx}{e:Stmt}{t u:TS}(h:PS X e t)(k: ∀D σ H,u D σ H->t D σ H):PS X e u:=fun aa s σ H D I w=>h aa s σ H D I (k D σ H w)
theorem PB.imp{X:Cx}{e:List Stmt}{t u:TS}(h:PB X e t)(k: ∀D σ H,u D σ H->t D σ H):PB X e u:=fun aa s σ H D I w=>h aa s σ H D I (k D σ H w)
section
variable{X:Cx}{K:An}{ml:List Nat}{e a b c:Expr}{pa ta ia pb tb ib pc tc ic:Bool}{fa fb fc:VF}{r:R2}{o:dL->dL->Option dL}{B:Bs}{O:Nat->Option Addr}{H H1 H':Hp}{σ:St}{δ δ':Ev}{v:V}{d:dL}
def fC(d:dL):VF:=fun δ=>some (d,δ)
theorem Res.refl{pu bt bi:Bool}(S:aR K ml B O H σ δ)(h:bP K (av B O bi) H (at_ B O bt) v d):Res K ml B O H σ pu bt bi H δ v d:=⟨S,Fr.refl _ _,fun _=>aC.refl _,h⟩
theorem FJ(h:PE X e (tC v))(hr: ∀N H M,bP K N H M v d):PE X e (TV K ml true true true (fC d)):=h.imp fun σ H Q hq0=>by
 obtain⟨B,O,δ,d',δ',S,q,k⟩:=hq0;cases q;exact k v H (Res.refl S (hr _ _ _))
theorem dI{i j pos}:PE X (.Constant (.int i) j pos) (TV K ml true true true (fC (.int i))):=FJ zE9 fun _ _ _=> .int i
theorem YG{i j pos}:PE X (.Constant (.bool i) j pos) (TV K ml true true true (fC (.bl i))):=FJ zHO fun _ _ _=> .bl i
theorem bK{j pos}:PE X (.Constant .none j pos) (TV K ml true true true (fC .non)):=FJ zE7 fun _ _ _=> .non
theorem c0{i j pos}:PE X (.Constant (.str i) j pos) (TV K ml true true true (fC (.str i))):=FJ zE5 fun _ _ _=> .str i
noncomputable def fV(i:Nat):VF:=fun δ=>match δ[i]? with
 |some (.va d)=>some (d,δ)
 |_=>none
noncomputable def fO(i:Nat):VF:=fun δ=>match δ[i]? with
 |some (.va d)=>some (d,δ)
 |some (.ow d)=>some (d,δ)
 |_=>none
theorem zCO{i:Nat}(h:PE X e (U7 i)):PE X e (TV K ml true true true (fV i)):=h.imp fun σ H Q hq0=>by
 obtain⟨B,O,δ,d',δ',S,q,k⟩:=hq0;unfold fV at q;split at q
 ·rename_i d hd
  cases q;obtain⟨v,e1,r⟩:=S.va i _ hd;exact⟨v,e1,k v H (Res.refl S r)⟩
 ·cases q
theorem zCP{i:Nat}(h:PE X e (U7 i)):PE X e (TV K ml true false true (fO i)):=h.imp fun σ H Q hq0=>by
 obtain⟨B,O,δ,d',δ',S,q,k⟩:=hq0;unfold fO at q;split at q
 ·rename_i d hd
  cases q;obtain⟨v,e1,r⟩:=S.va i _ hd;exact⟨v,e1,k v H (Res.refl S (r.mono (fun _ z=>z) fun a z=>z.elim))⟩
 ·rename_i d hd
  cases q;obtain⟨a,e1,e2,w⟩:=S.ow i _ hd;exact⟨.ref a,e2,k _ H (Res.refl S (w.rep fun z=>z))⟩
 ·cases q
theorem Res.live{H2:Hp}{v2:V}{d2:dL}(R2:Res K ml B O H1 σ pb tb ib H2 δ' v2 d2)(hs:(pb || (ta && ia))=true)(h:bP K (av B O ia) H1 (at_ B O ta) v d):bP K (av B O ia) H2 (at_ B O ta) v d:=by
 cases pb with
 |true=>exact h.same (R2.pur rfl)
 |false=>
  have hs:(ta && ia)=true:=by simpa using hs
  obtain⟨h1,h2⟩:=(Ad _ _).mp hs;subst h1 h2;exact h.fr R2.frm (fun a z=> .inr z) fun a z=> .inr z
noncomputable def f2(o:dL->dL->Option dL)(fa fb:VF):VF:=fun δ=>(fa δ).bind fun p=>(fb p.2).bind fun q=>(o p.1 q.1).map fun c=>(c,q.2)
theorem OD{δ2:Ev}(h:f2 o fa fb δ=some (d,δ2)): ∃x δ1 y,fa δ=some (x,δ1)/\fb δ1=some (y,δ2)/\o x y=some d:=by
 unfold f2 at h;cases h1:fa δ with
 |none=>rw[h1] at h;cases h
 |some p=>
  rw[h1] at h;cases h2:fb p.2 with
  |none=>simp[h2] at h
  |some q=>
   simp only[Ap,h2] at h;obtain⟨c,h3,h⟩:=Al.mp h;cases h;exact⟨p.1,p.2,q.1,rfl,h2,h3⟩
def Q6(K:An)(r:R2)(o:dL->dL->Option dL):Prop:= ∀(H:Hp) (N N' M M':Addr->Prop) (x y:V) (d e c:dL) (Q:VK),bP K N H M x d->bP K N' H M' y e->o d e=some c->(∀v,(∀H' N M,bP K N H' M v c)->Q v H)->r x y H Q
def OpC(K:An)(r:R2)(o:dL->dL->Option dL):Prop:= ∀(H:Hp) (N M M':Addr->Prop) (x y:V) (d e c:dL) (Q:VK),bP K N H M x d->bP K N H M' y e->o d e=some c→
 (∀v H',aC H H'->(∀M,(∀a,M a-> ∃o,H a=some o)->bP K N H' M v c)->Q v H')->r x y H Q
def OpI(K:An)(r:R2)(o:dL->dL->Option dL):Prop:= ∀(H:Hp) (N N' M M':Addr->Prop) (x y:V) (d e c:dL) (Q:VK),bP K N H M x d->bP K N' H M' y e->o d e=some c->(∀v,bP K N H N v c->Q v H)->r x y H Q
theorem IL(ho:Q6 K r o)(hs:(pb || (ta && ia))=true){Q:VK}(h:TV K ml (pa && pb) true true (f2 o fa fb) σ H Q):tOp r (TV K ml pa ta ia fa) (TV K ml pb tb ib fb) σ H Q:=by
 obtain⟨B,O,δ,d,δ2,S,q,k⟩:=h;obtain⟨x,δ1,y,h1,h2,h3⟩:=OD q;refine⟨B,O,δ,x,δ1,S,h1,fun v1 H1 R1=>⟨B,O,δ1,y,δ2,R1.sta,h2,fun v2 H2 R2=> ?_⟩⟩;exact ho H2 _ _ _ _ v1 v2 x y d Q (R2.live hs R1.rep) R2.rep h3 fun v hv=>k v H2 ⟨R2.sta,R1.frm.trans R2.frm,fun z=>by
  obtain⟨z1,z2⟩:=(Ad _ _).mp z;exact(R1.pur z1).trans (R2.pur z2),hv _ _ _⟩
theorem zCT(ho:OpC K r o)(hs:(pb || (ta && ia))=true){Q:VK}(h:TV K ml (pa && pb) true (ia && ib) (f2 o fa fb) σ H Q):tOp r (TV K ml pa ta ia fa) (TV K ml pb tb ib fb) σ H Q:=by
 obtain⟨B,O,δ,d,δ2,S,q,k⟩:=h;obtain⟨x,δ1,y,h1,h2,h3⟩:=OD q;refine⟨B,O,δ,x,δ1,S,h1,fun v1 H1 R1=>⟨B,O,δ1,y,δ2,R1.sta,h2,fun v2 H2 R2=> ?_⟩⟩;have g1: ∀a,av B O (ia && ib) a->av B O ia a:=RI fun z=>((Ad _ _).mp z).1;have g2: ∀a,av B O (ia && ib) a->av B O ib a:=RI fun z=>((Ad _ _).mp z).2;refine ho H2 (av B O (ia && ib)) _ _ v1 v2 x y d Q ((R2.live hs R1.rep).mono g1 fun _ z=>z) (R2.rep.mono g2 fun _ z=>z) h3 fun v H3 s3 hv=>k v H3 ⟨R2.sta.same s3,(R1.frm.trans R2.frm).trans s3.fr,fun z=> ?_,hv _ fun a z=>R2.sta.nin z⟩;obtain⟨z1,z2⟩:=(Ad _ _).mp z;exact((R1.pur z1).trans (R2.pur z2)).trans s3
theorem zCS(ho:OpI K r o)(hs:(pb || (ta && ia))=true){Q:VK}(h:TV K ml (pa && pb) ia ia (f2 o fa fb) σ H Q):tOp r (TV K ml pa ta ia fa) (TV K ml pb tb ib fb) σ H Q:=by
 obtain⟨B,O,δ,d,δ2,S,q,k⟩:=h;obtain⟨x,δ1,y,h1,h2,h3⟩:=OD q;refine⟨B,O,δ,x,δ1,S,h1,fun v1 H1 R1=>⟨B,O,δ1,y,δ2,R1.sta,h2,fun v2 H2 R2=> ?_⟩⟩;exact ho H2 _ _ _ _ v1 v2 x y d Q (R2.live hs R1.rep) R2.rep h3 fun v hv=>k v H2 ⟨R2.sta,R1.frm.trans R2.frm,fun z=>by
  obtain⟨z1,z2⟩:=(Ad _ _).mp z;exact(R1.pur z1).trans (R2.pur z2),hv.mono (fun _ z=>z) zCI⟩
theorem Y3{op:Operator}{pos:Pos}(ho:XJ X (Fd op) r)(hv:Q6 K r o)(ha:PE X a (TV K ml pa ta ia fa))(hb:PE X b (TV K ml pb tb ib fb))(hs:(pb || (ta && ia))=true:=by rfl):PE X (.BinOp a op b pos) (TV K ml (pa && pb) true true (f2 o fa fb)):=
 (zC0 ho ha hb).imp fun _ _ _ h=>IL hv hs h
theorem aY{op:Operator}{pos:Pos}(ho:XJ X (Fd op) r)(hv:OpC K r o)(ha:PE X a (TV K ml pa ta ia fa))(hb:PE X b (TV K ml pb tb ib fb))(hs:(pb || (ta && ia))=true:=by rfl):PE X (.BinOp a op b pos) (TV K ml (pa && pb) true (ia && ib) (f2 o fa fb)):=
 (zC0 ho ha hb).imp fun _ _ _ h=>zCT hv hs h
theorem Q4{op:CmpOp}{pos:Pos}(ho:XJ X (Cf op) r)(hv:Q6 K r o)(ha:PE X a (TV K ml pa ta ia fa))(hb:PE X b (TV K ml pb tb ib fb))(hm:Fz op b=false)(hs:(pb || (ta && ia))=true:=by rfl):PE X (.Compare a [op] [b] pos) (TV K ml (pa && pb) true true (f2 o fa fb)):=
 (zAT ho ha hb hm).imp fun _ _ _ h=>IL hv hs h
theorem zGJ{pos:Pos}(ho:DW X r)(hv:OpI K r o)(ha:PE X a (TV K ml pa ta ia fa))(hb:PE X b (TV K ml pb tb ib fb))(hx:PC b)(hs:(pb || (ta && ia))=true:=by rfl):PE X (.Subscript a b pos) (TV K ml (pa && pb) ia ia (f2 o fa fb)):=
 (zC1 ho ha hb hx).imp fun _ _ _ h=>zCS hv hs h
noncomputable def oI(C:Int->Int->Bool)(g:Int->Int->dL):dL->dL->Option dL
 | .int i,.int j=>if C i j=true then some (g i j) else none
 |_,_=>none
theorem BB{C:Int->Int->Bool}{g:Int->Int->dL}{d e c:dL}(h:oI C g d e=some c): ∃i j,d= .int i/\e= .int j/\C i j=true/\c=g i j:=by
 unfold oI at h;split at h
 ·split at h
  ·rename_i hc
   cases h;exact⟨_,_,rfl,rfl,hc,rfl⟩
  ·cases h
 ·cases h
theorem GC{C:Int->Int->Prop}{C':Int->Int->Bool}{g:Int->Int->V}{g':Int->Int->dL}(hC: ∀i j,C' i j=true->C i j)(hg: ∀i j N H M,bP K N H M (g i j) (g' i j)):Q6 K (rI C g) (oI C' g'):=by
 intro H N N' M M' x y d e c Q hx hy h k;obtain⟨i,j,rfl,rfl,hc,rfl⟩:=BB h;cases hx;cases hy;exact⟨_,_,rfl,rfl,hC _ _ hc,k _ fun _ _ _=>hg ..⟩
theorem OQ{g:Int->Int->V}{g':Int->Int->dL}(hg: ∀i j N H M,bP K N H M (g i j) (g' i j)):Q6 K (ID g) (oI (fun _ _=>true) g'):=by
 intro H N N' M M' x y d e c Q hx hy h k;obtain⟨i,j,rfl,rfl,hc,rfl⟩:=BB h;cases hx;cases hy;exact⟨_,_,rfl,rfl,k _ fun _ _ _=>hg ..⟩
noncomputable def JF(i j:Int):Bool:=(decide (-18446744073709551616<i) && decide (i<18446744073709551616)) || (decide (-18446744073709551616<j) && decide (j<18446744073709551616))
noncomputable def LF(i j:Int):Bool:=decide (0<j) && decide (j<1073741824)
def cPow(i j:Int):Bool:=decide (0<=j) && decide (j<=1000000) && decide (i.natAbs<18446744073709551616)
abbrev N6:=oI (fun _ _=>true) fun i j=> .int (i - j)
abbrev oMul:=oI JF fun i j=> .int (i*j)
abbrev QE:=oI LF fun i j=> .int (i/j)
noncomputable abbrev RX:=oI (fun _ j=>decide (0<j)) fun i j=> .int (i % j)
abbrev oPow:=oI cPow fun i j=> .int (i ^ j.toNat)
abbrev oLt:=oI (fun _ _=>true) fun i j=> .bl (decide (i<j))
abbrev oLe:=oI (fun _ _=>true) fun i j=> .bl (decide (i<=j))
abbrev oGt:=oI (fun _ _=>true) fun i j=> .bl (decide (j<i))
abbrev oGe:=oI (fun _ _=>true) fun i j=> .bl (decide (j<=i))
theorem NP:Q6 K (ID fun i j=> .int (i - j)) N6:=OQ fun i j _ _ _=> .int _
theorem zH1:Q6 K (rI DU fun i j=> .int (i*j)) oMul:=GC (fun i j h=>by
 have p:(2:Int) ^ 64=18446744073709551616:=by decide
 unfold DU;rw[p];simpa[JF] using h) fun i j _ _ _=> .int _
theorem MC:Q6 K (rI CDiv fun i j=> .int (i/j)) QE:=GC (fun i j h=>by show 0<j/\j<1073741824;simpa[LF] using h) fun i j _ _ _=> .int _
theorem U5:Q6 K (rI (fun _ j=>0<j) fun i j=> .int (i % j)) RX:=GC (fun i j h=>by simpa using h) fun i j _ _ _=> .int _
theorem zH0:Q6 K (rI CPow fun i j=> .int (i ^ j.toNat)) oPow:=GC (fun i j h=>by
 have p:(2:Nat) ^ 64=18446744073709551616:=by decide
 unfold CPow;rw[p];simpa[cPow,and_assoc] using h) fun i j _ _ _=> .int _
theorem s_lt:Q6 K (ID fun i j=> .bl (decide (i<j))) oLt:=OQ fun i j _ _ _=> .bl _
theorem s_le:Q6 K (ID fun i j=> .bl (decide (i<=j))) oLe:=OQ fun i j _ _ _=> .bl _
theorem s_gt:Q6 K (ID fun i j=> .bl (decide (j<i))) oGt:=OQ fun i j _ _ _=> .bl _
theorem s_ge:Q6 K (ID fun i j=> .bl (decide (j<=i))) oGe:=OQ fun i j _ _ _=> .bl _
def NI(d:dL):Bool:=d.isD && Dr d.pd
def HK(d e:dL):Bool:=He d.pd e.pd
def Y9(d e:dL):Option dL:=if(NI d && NI e)=true then some (.bl (HK d e)) else none
def L6(d e:dL):Option dL:=if(NI d && NI e)=true then some (.bl (!HK d e)) else none
theorem s_eq:Q6 K (rEqD K) Y9:=by
 intro H N N' M M' x y d e c Q hx hy h k;unfold Y9 at h;split at h
 ·rename_i hh
  cases h;simp only[NI,Ad] at hh;exact⟨d.pd,e.pd,hx.dp hh.1.1,hy.dp hh.2.1,hh.1.2,hh.2.2,k _ fun _ _ _=> .bl _⟩
 ·cases h
theorem MD:Q6 K (rNeD K) L6:=by
 intro H N N' M M' x y d e c Q hx hy h k;unfold L6 at h;split at h
 ·rename_i hh
  cases h;simp only[NI,Ad] at hh;exact⟨d.pd,e.pd,hx.dp hh.1.1,hy.dp hh.2.1,hh.1.2,hh.2.2,k _ fun _ _ _=> .bl _⟩
 ·cases h
noncomputable def isN:dL->Bool
 | .non=>true
 |_=>false
noncomputable def L5:dL->dL->Option dL
 |d,.non=>some (.bl (isN d))
 |_,_=>none
def WD:dL->dL->Option dL
 |d,.non=>some (.bl (!isN d))
 |_,_=>none
theorem GN{N M:Addr->Prop}(h:bP K N H M v d):decide (v=V.non)=isN d:=by
 cases h<;>simp[isN]
theorem CD:Q6 K (fun x y H Q=>y= .non/\Q (.bl (decide (x= .non))) H) L5:=by
  intro H N N' M M' x y d e c Q hx hy h k;cases hy<;>first
    | (cases h
       refine⟨rfl,?_⟩;rw[GN hx];exact k _ fun _ _ _=> .bl _)
    |(simp[L5] at h)
theorem ME:Q6 K (fun x y H Q=>y= .non/\Q (.bl (!decide (x= .non))) H) WD:=by
  intro H N N' M M' x y d e c Q hx hy h k;cases hy<;>first
    | (cases h
       refine⟨rfl,?_⟩;rw[GN hx];exact k _ fun _ _ _=> .bl _)
    |(simp[WD] at h)
noncomputable def XT:dL->Option (List dL)
 | .tup ds=>some ds
 | .lst ds=>some ds
 |_=>none
theorem bP.seq{N M:Addr->Prop}{ds:List dL}(h:bP K N H M v d)(e:XT d=some ds): ∃a xs,v= .ref a/\(WZ K H a xs∨VR K H a xs)/\cH K N H xs ds:=by
 cases h<;>first
  |(cases e;rename_i q r;exact⟨_,_,rfl,.inr q,r⟩)
  |(cases e;rename_i q n r;exact⟨_,_,rfl,.inl (WZ.of q),r⟩)
  |(cases e;rename_i q r;exact⟨_,_,rfl,.inl q.sq,r⟩)
  |cases e
theorem zBO{N:Addr->Prop}{xs:List V}{ds:List dL}{i:Int}(r:cH K N H xs ds)(h:W4 ds i=some d): ∃v,W4 xs i=some v/\bP K N H N v d:=by
 unfold W4 at h⊢;rw[r.length];cases hi:JY ds.length i with
 |none=>rw[hi] at h;cases h
 |some j=>
  rw[hi] at h;exact r.get h
end
section
variable{X:Cx}{K:An}{ml:List Nat}{e a b c:Expr}{es:List Expr}{pa ta ia pb tb ib pc tc ic pu bt bi ps bs:Bool}{fa fb fc:VF}{r r':R2}{o o':dL->dL->Option dL}{B:Bs}{O:Nat->Option Addr}{H H1 H':Hp}{σ:St}{δ δ':Ev}{v:V}{d:dL}{p:Addr}{pos:Pos}
theorem aR.unadd(S:aR K ml (B.add p) O H σ δ):aR K ml B O H σ δ where
 len:=S.len
 va:=fun i d e=>let ⟨v,a,b⟩:=S.va i d e;⟨v,a,b.mono SW SW⟩
 ow:=fun i d e=>let ⟨a,b,c,w⟩:=S.ow i d e;⟨a,b,c,w.mono SW⟩
 dom:=S.dom
 inj:=S.inj
 old:=fun i a h=>⟨fun z=>(S.old i a h).1 (.inl z),(S.old i a h).2⟩
 zin:=fun a h=>S.zin a (.inl h)
 frm:=S.frm
 par:=S.par
 pin:=S.pin
 kep:=fun p h=>(S.kep p h).mono SW SW
structure ResN(K:An)(ml:List Nat)(B:Bs)(O:Nat->Option Addr)(H:Hp)(σ:St)(pu:Bool)(H':Hp)(δ':Ev)(p:Addr)(d:dL):Prop where
 sta:aR K ml (B.add p) O H' σ δ'
 frm:Fr (OA O) H H'
 pur:pu=true->aC H H'
 own:SF K (Nn (B.add p) O) H' p d
 nz: ¬Nn B O p
 h0:B.H0 p=none
def TN(K:An)(ml:List Nat)(pu:Bool)(f:VF):TE:=fun σ H Q=> ∃B O δ d δ',aR K ml B O H σ δ/\f δ=some (d,δ')/\ ∀p H',ResN K ml B O H σ pu H' δ' p d->Q (.ref p) H'
theorem bH{f:VF}(h:PE X e (TN K ml pu f)):PE X e (TV K ml pu true true f):=h.imp fun σ H Q ⟨B,O,δ,d,δ',S,q,k⟩=>
 ⟨B,O,δ,d,δ',S,q,fun p H' R=>k _ H' ⟨R.sta.unadd,R.frm,R.pur,(R.own.mono SW).rep R.nz⟩⟩
theorem mkN{xs:List V}{ds:List dL}(S:aR K ml B O H1 σ δ')(f:Fr (OA O) H H1)(s:pu=true->aC H H1)(hp:H1 p=none)(r:cH K (Nn B O) H1 xs ds):ResN K ml B O H σ pu (aS H1 p (.lst xs)) δ' p (.lst ds):=
 ⟨S.laid hp,f.trans (dD hp).fr,fun z=>(s z).trans (dD hp),.lst cG ((r.away hp _ _ WU).same (dD hp)),S.new hp,S.fresh hp⟩
theorem mkD(S:aR K ml B O H1 σ δ')(f:Fr (OA O) H H1)(s:pu=true->aC H H1)(hp:H1 p=none):ResN K ml B O H σ pu (aS H1 p (.dK [])) δ' p (.dct [] []):=
 ⟨S.laid hp,f.trans (dD hp).fr,fun z=>(s z).trans (dD hp),.dct (kvs:=[]) cG .nil,S.new hp,S.fresh hp⟩
theorem DE:PE X (.Dict [] [] pos) (TN K ml true (fC (.dct [] []))):=KI.imp fun σ H Q hq0=>by
 obtain⟨B,O,δ,d,δ',S,q,k⟩:=hq0;cases q;exact fun p hp=>k p _ (mkD S (Fr.refl _ _) (fun _=>aC.refl _) hp)
abbrev Q8:=Ev->Option (List dL×Ev)
structure ResA(K:An)(ml:List Nat)(B:Bs)(O:Nat->Option Addr)(H:Hp)(σ:St)(pu b:Bool)(H':Hp)(δ':Ev)(vs:List V)(ds:List dL):Prop where
 sta:aR K ml B O H' σ δ'
 frm:Fr (OA O) H H'
 pur:pu=true->aC H H'
 rep:cH K (av B O b) H' vs ds
def DQ(K:An)(ml:List Nat)(pu b:Bool)(f:Q8):TA:=fun σ H Q=> ∃B O δ d δ',aR K ml B O H σ δ/\f δ=some (d,δ')/\ ∀vs H',ResA K ml B O H σ pu b H' δ' vs d->Q vs H'
def cK:Q8:=fun δ=>some ([],δ)
noncomputable def dH(fa:VF)(fs:Q8):Q8:=fun δ=>(fa δ).bind fun p=>(fs p.2).map fun q=>(p.1::q.1,q.2)
theorem M8{fs:Q8}{ds:List dL}(h:dH fa fs δ=some (ds,δ')): ∃x δ1 xs,fa δ=some (x,δ1)/\fs δ1=some (xs,δ')/\ds=x::xs:=by
 unfold dH at h;cases h1:fa δ with
 |none=>rw[h1] at h;cases h
 |some p=>
  rw[h1] at h;cases h2:fs p.2 with
  |none=>simp[h2] at h
  |some q=>
   simp only[Ap,h2] at h;cases h;exact⟨p.1,p.2,q.1,rfl,h2,rfl⟩
theorem c6:PA X [] (DQ K ml true true cK):=YV.imp fun σ H Q hq0=>by
 obtain⟨B,O,δ,d,δ',S,q,k⟩:=hq0;cases q;exact k [] H ⟨S,Fr.refl _ _,fun _=>aC.refl _,.nil⟩
theorem dJ{fs:Q8}(ha:PE X a (TV K ml pa ta ia fa))(hr:PA X es (DQ K ml ps bs fs))(hs:Ag (a::es) X.env=(false,eval a X.env)::Ag es X.env:=by rfl)(hl:(ps || (ta && ia))=true:=by rfl)(ht:ta=true:=by rfl):
  PA X (a::es) (DQ K ml (pa && ps) (ta && ia && bs) (dH fa fs)):=(bR ha hr hs).imp fun σ H Q hq0=>by
 obtain⟨B,O,δ,d,δ2,S,q,k⟩:=hq0;obtain⟨x,δ1,xs,h1,h2,rfl⟩:=M8 q;refine⟨B,O,δ,x,δ1,S,h1,fun v1 H1 R1=>⟨B,O,δ1,xs,δ2,R1.sta,h2,fun vs H2 R2=>k _ H2 ⟨R2.sta,R1.frm.trans R2.frm,fun z=> ?_,?_⟩⟩⟩
 ·obtain⟨z1,z2⟩:=(Ad _ _).mp z
  exact(R1.pur z1).trans (R2.pur z2)
 ·have g : ∀ c,((ta && ia && bs) = true -> c = true) -> ∀ a,av B O (ta && ia && bs) a -> av B O c a := fun c h => RI h
  have g1:=g ta fun z=>by simp only[Ad] at z;exact z.1.1
  have g2:=g ia fun z=>by simp only[Ad] at z;exact z.1.2
  have g3:=g bs fun z=>by simp only[Ad] at z;exact z.2
  refine .cons ?_ (R2.rep.mono g3);have h:bP K (av B O ia) H2 (at_ B O ta) v1 x:=by
   cases ps with
   |true=>exact R1.rep.same (R2.pur rfl)
   |false=>
    have hs:(ta && ia)=true:=by simpa using hl
    obtain⟨h1,h2⟩:=(Ad _ _).mp hs;subst h1 h2;exact R1.rep.fr R2.frm (fun a z=> .inr z) fun a z=> .inr z
  subst ht;exact h.mono g2 g1
theorem aR.lone(S:aR K ml B O H σ δ){i:Nat}{x:dL}(hm:i∉ml)(h:fO i δ=some (x,δ')):δ'=δ/\ ∃v,σ[i]? =some (some v)/\bP K (av B O false) H (av B O false) v x:=by
 unfold fO at h;split at h
 ·rename_i d hd
  cases h;obtain⟨v,e1,r⟩:=S.va i _ hd;exact⟨rfl,v,e1,r.mono (fun a z=>z.1) fun a z=>z.1⟩
 ·rename_i d hd
  cases h;obtain⟨a,e1,e2,w⟩:=S.ow i _ hd;refine⟨rfl,.ref a,e2,(w.mono fun a z=>z.1).rep fun z=> ?_⟩;rcases z.2 with z|⟨j,z⟩
  ·exact(S.old i a e1).1 z
  ·have hj:=S.par.1 j a z
   have:i=j:=S.inj i j a e1 ((S.par.2 j hj).trans z);exact hm (this▸hj)
 ·cases h
theorem U8{i:Nat}{fs:Q8}(ha:PE X a (U7 i))(hr:PA X es (DQ K ml ps bs fs))(hs:Ag (a::es) X.env=(false,eval a X.env)::Ag es X.env:=by rfl)(hl:ps=true:=by rfl)(hm:i∉ml:=by decide):
  PA X (a::es) (DQ K ml ps false (dH (fO i) fs)):=(bR ha hr hs).imp fun σ H Q hq0=>by
 obtain⟨B,O,δ,d,δ2,S,q,k⟩:=hq0;obtain⟨x,δ1,xs,h1,h2,rfl⟩:=M8 q;obtain⟨rfl,v,e1,r⟩:=S.lone hm h1;exact⟨v,e1,B,O,δ1,xs,δ2,S,h2,fun vs H2 R2=>k _ H2 ⟨R2.sta,R2.frm,R2.pur,.cons (r.same (R2.pur hl)) (R2.rep.mono (RI (b:=false) fun z=>nomatch z))⟩⟩
noncomputable def aZ(fs:Q8):VF:=fun δ=>(fs δ).bind fun p=>if p.1.length<=16777216 then some (.tup p.1,p.2) else none
noncomputable def W5(fs:Q8):VF:=fun δ=>(fs δ).bind fun p=>if p.1.length<=16777216 then some (.lst p.1,p.2) else none
theorem JQ{fs:Q8}{g:List dL->dL}(h:((fs δ).bind fun p=>if p.1.length<=16777216 then some (g p.1,p.2) else none)=some (d,δ')): ∃ds,fs δ=some (ds,δ')/\ds.length<=16777216/\d=g ds:=by
 cases h1:fs δ with
 |none=>rw[h1] at h;cases h
 |some p=>
  rw[h1] at h;have h:(if p.1.length<=16777216 then some (g p.1,p.2) else none)=some (d,δ'):=h;split at h
  ·cases h
   exact⟨p.1,rfl,by assumption,rfl⟩
  ·cases h
theorem cB{x1}{fs:Q8}(h:PA X es (DQ K ml pu bs fs)):PE X (.Tuple es x1 pos) (TV K ml pu true bs (aZ fs)):=(OR h).imp fun σ H Q hq0=>by
 obtain⟨B,O,δ,d,δ',S,q,k⟩:=hq0;obtain⟨ds,h1,hl,rfl⟩:=JQ (g:=dL.tup) q;refine⟨B,O,δ,ds,δ',S,h1,fun vs H1 R=>⟨by rw[R.rep.length,Cj];exact hl,fun p hp=>k _ _ ⟨R.sta.same (dD hp),R.frm.trans (dD hp).fr,fun z=>(R.pur z).trans (dD hp),.tup (VR.of cG) (R.rep.same (dD hp))⟩⟩⟩
theorem Z4{fs:Q8}(h:PA X es (DQ K ml pu true fs)):PE X (.List es pos) (TN K ml pu (W5 fs)):=(zE8 h).imp fun σ H Q hq0=>by
 obtain⟨B,O,δ,d,δ',S,q,k⟩:=hq0;obtain⟨ds,h1,hl,rfl⟩:=JQ (g:=dL.lst) q;exact⟨B,O,δ,ds,δ',S,h1,fun vs H1 R=>⟨by rw[R.rep.length,Cj];exact hl,fun p hp=>k p _ (mkN R.sta R.frm R.pur hp R.rep)⟩⟩
abbrev VB:=Ev->Option (Bool×Ev)
structure D1(K:An)(ml:List Nat)(B:Bs)(O:Nat->Option Addr)(H:Hp)(σ:St)(pu:Bool)(H':Hp)(δ':Ev):Prop where
 sta:aR K ml B O H' σ δ'
 frm:Fr (OA O) H H'
 pur:pu=true->aC H H'
def TB(K:An)(ml:List Nat)(pu:Bool)(f:VB):TT:=fun σ H Q=> ∃B O δ k δ',aR K ml B O H σ δ/\f δ=some (k,δ')/\ ∀H',D1 K ml B O H σ pu H' δ'->Q k H'
noncomputable def fB(f:VF):VB:=fun δ=>(f δ).bind fun p=>match p.1 with
 | .bl k=>some (k,p.2)
 |_=>none
theorem zG0{f:VF}{k:Bool}(h:fB f δ=some (k,δ')):f δ=some (.bl k,δ'):=by
 unfold fB at h;cases h1:f δ with
 |none=>rw[h1] at h;cases h
 |some p=>
  obtain⟨x,δ1⟩:=p;rw[h1] at h;cases x<;>first
   |(cases h;rfl)
   |cases h
theorem MK{f:VF}{t:TE}(ht: ∀σ H Q,TV K ml pu bt bi f σ H Q->t σ H Q){Q:Bool->Hp->Prop}(h:TB K ml pu (fB f) σ H Q):t σ H fun x H'=> ∃k,x= .bl k/\Q k H':=by
 obtain⟨B,O,δ,k,δ',S,q,w⟩:=h;refine ht σ H _ ⟨B,O,δ,.bl k,δ',S,zG0 q,fun v H' R=>⟨k,?_,w H' ⟨R.sta,R.frm,R.pur⟩⟩⟩;cases R.rep;rfl
theorem bS{op:CmpOp}(ho:XJ X (Cf op) r)(hv:Q6 K r o)(ha:PE X a (TV K ml pa ta ia fa))(hb:PE X b (TV K ml pb tb ib fb))(hm:Fz op b=false)(hs:(pb || (ta && ia))=true:=by rfl):PT X (.Compare a [op] [b] pos) (TB K ml (pa && pb) (fB (f2 o fa fb))):=
 (zAJ ho ha hb hm).imp fun _ _ _ h=>MK (fun _ _ _=>IL hv hs) h
theorem Z5{f:VF}(h:PE X e (TV K ml pu bt bi f))(he: ∀bh,isTrue e X.env bh=(do let v<- bh;standAt e.pos;Kg [v] (truthy v)):=by intro _;rfl):PT X e (TB K ml pu (fB f)):=
 (zDU h he).imp fun _ _ _ h=>MK (fun _ _ _ z=>z) h
noncomputable def JE(x y:VB):VB:=fun δ=>(x δ).bind fun p=>if p.1=true then y p.2 else some (false,p.2)
noncomputable def LC(x y:VB):VB:=fun δ=>(x δ).bind fun p=>if p.1=true then some (true,p.2) else y p.2
noncomputable def V9(x:VB):VB:=fun δ=>(x δ).map fun p=>(!p.1,p.2)
theorem D1.refl(S:aR K ml B O H σ δ):D1 K ml B O H σ pu H δ:=⟨S,Fr.refl _ _,fun _=>aC.refl _⟩
theorem zCW{x y:VB}{Q:Bool->Hp->Prop}(h:TB K ml (pa && pb) (JE x y) σ H Q):tAnd (TB K ml pa x) (TB K ml pb y) σ H Q:=by
 obtain⟨B,O,δ,k,δ',S,q,w⟩:=h;unfold JE at q;obtain⟨⟨kk,δ1⟩,h1,q⟩:=Aa.mp q;refine⟨B,O,δ,kk,δ1,S,h1,fun H1 R1=> ?_⟩;cases kk with
 |true=>
  have q:y δ1=some (k,δ'):=q;exact JX ⟨B,O,δ1,k,δ',R1.sta,q,fun H2 R2=>w H2 ⟨R2.sta,R1.frm.trans R2.frm,fun z=>by
   obtain⟨z1,z2⟩:=(Ad _ _).mp z;exact(R1.pur z1).trans (R2.pur z2)⟩⟩
 |false=>
  have q:some (false,δ1)=some (k,δ'):=q;cases q;exact JW (w H1 ⟨R1.sta,R1.frm,fun z=>R1.pur ((Ad _ _).mp z).1⟩)
theorem zGL{x y:VB}{Q:Bool->Hp->Prop}(h:TB K ml (pa && pb) (LC x y) σ H Q):tOr (TB K ml pa x) (TB K ml pb y) σ H Q:=by
 obtain⟨B,O,δ,k,δ',S,q,w⟩:=h;unfold LC at q;obtain⟨⟨kk,δ1⟩,h1,q⟩:=Aa.mp q;refine⟨B,O,δ,kk,δ1,S,h1,fun H1 R1=> ?_⟩;cases kk with
 |false=>
  have q:y δ1=some (k,δ'):=q;exact JW ⟨B,O,δ1,k,δ',R1.sta,q,fun H2 R2=>w H2 ⟨R2.sta,R1.frm.trans R2.frm,fun z=>by
   obtain⟨z1,z2⟩:=(Ad _ _).mp z;exact(R1.pur z1).trans (R2.pur z2)⟩⟩
 |true=>
  have q:some (true,δ1)=some (k,δ'):=q;cases q;exact JX (w H1 ⟨R1.sta,R1.frm,fun z=>R1.pur ((Ad _ _).mp z).1⟩)
theorem ZG{x:VB}(h:PT X a (TB K ml pu x)):PT X (.UnaryOp .Not a pos) (TB K ml pu (V9 x)):=(zDV h).imp fun σ H Q hq0=>by
 obtain⟨B,O,δ,k,δ',S,q,w⟩:=hq0;unfold V9 at q;obtain⟨p,h1,q⟩:=Al.mp q;cases q;exact⟨B,O,δ,p.1,p.2,S,h1,w⟩
theorem GZ{x:VB}(h:PT X a (TB K ml pu x)):PW X (.BoolOp .And [a] pos) (TB K ml pu x):=zAG h
theorem X9{x:VB}(h:PT X a (TB K ml pu x)):PW X (.BoolOp .Or [a] pos) (TB K ml pu x):=zDS h
theorem IM{x y:VB}(ha:PT X a (TB K ml pa x))(hb:PW X (.BoolOp .And (b::es) pos) (TB K ml pb y)):PW X (.BoolOp .And (a::b::es) pos) (TB K ml (pa && pb) (JE x y)):=(zDT ha hb).imp fun _ _ _ h=>zCW h
theorem XG{x y:VB}(ha:PT X a (TB K ml pa x))(hb:PW X (.BoolOp .Or (b::es) pos) (TB K ml pb y)):PW X (.BoolOp .Or (a::b::es) pos) (TB K ml (pa && pb) (LC x y)):=(zHK ha hb).imp fun _ _ _ h=>zGL h
theorem S9{x:VB}(h:PW X e (TB K ml pu x)):PT X e (TB K ml pu x):=h.pt
noncomputable def N4(x y:VF):VF:=fun δ=>(x δ).bind fun p=>match p.1 with
 | .bl true=>y p.2
 | .bl false=>some (.bl false,p.2)
 |_=>none
theorem Q5{op}{f:VF}(h:PE X a (TV K ml pu bt bi f)):PE X (.BoolOp op [a] pos) (TV K ml pu bt bi f):=zE6 h
theorem S8(ha:PE X a (TV K ml pa ta ia fa))(hb:PE X (.BoolOp .And (b::es) pos) (TV K ml pb tb ib fb)):PE X (.BoolOp .And (a::b::es) pos) (TV K ml (pa && pb) tb ib (N4 fa fb)):=(zEA ha hb).imp fun σ H Q hq0=>by
 obtain⟨B,O,δ,d,δ',S,q,k⟩:=hq0;unfold N4 at q;obtain⟨⟨x,δ1⟩,h1,q⟩:=Aa.mp q;refine⟨B,O,δ,x,δ1,S,h1,fun v1 H1 R1=> ?_⟩;cases x with
 |bl kk=>
  have e1:v1= .bl kk:=by cases R1.rep;rfl
  refine⟨kk,e1,?_⟩;cases kk with
  |true=>
   exact JX ⟨B,O,δ1,d,δ',R1.sta,q,fun v2 H2 R2=>k v2 H2 ⟨R2.sta,R1.frm.trans R2.frm,fun z=>by
    obtain⟨z1,z2⟩:=(Ad _ _).mp z;exact(R1.pur z1).trans (R2.pur z2),R2.rep⟩⟩
  |false=>
   cases q;exact JW (k _ H1 ⟨R1.sta,R1.frm,fun z=>R1.pur ((Ad _ _).mp z).1,.bl _⟩)
 |_=>cases q
def OF(t:VB)(x y:VF):VF:=fun δ=>(t δ).bind fun p=>if p.1=true then x p.2 else y p.2
theorem XW{t:VB}(ht:PT X c (TB K ml pc t))(ha:PE X a (TV K ml pa ta ia fa))(hb:PE X b (TV K ml pb tb ib fb)):PE X (.IfExp c a b pos) (TV K ml (pc && pa && pb) (ta && tb) (ia && ib) (OF t fa fb)):=(KJ ht ha hb).imp fun σ H Q hq0=>by
 obtain⟨B,O,δ,d,δ',S,q,k⟩:=hq0;unfold OF at q;obtain⟨⟨kk,δ1⟩,h1,q⟩:=Aa.mp q;refine⟨B,O,δ,kk,δ1,S,h1,fun H1 R1=> ?_⟩;have g1: ∀c,((ta && tb)=true->c=true)-> ∀a,at_ B O (ta && tb) a->at_ B O c a:=fun c h=>zBN h;have g2: ∀c,((ia && ib)=true->c=true)-> ∀a,av B O (ia && ib) a->av B O c a:=fun c h=>RI h;cases kk with
 |true=>
  exact JX ⟨B,O,δ1,d,δ',R1.sta,q,fun v2 H2 R2=>k v2 H2 ⟨R2.sta,R1.frm.trans R2.frm,fun z=>by
   simp only[Ad] at z;exact(R1.pur z.1.1).trans (R2.pur z.1.2),R2.rep.mono (g2 _ fun z=>((Ad _ _).mp z).1) (g1 _ fun z=>((Ad _ _).mp z).1)⟩⟩
 |false=>
  exact JW ⟨B,O,δ1,d,δ',R1.sta,q,fun v2 H2 R2=>k v2 H2 ⟨R2.sta,R1.frm.trans R2.frm,fun z=>by
   simp only[Ad] at z;exact(R1.pur z.1.1).trans (R2.pur z.2),R2.rep.mono (g2 _ fun z=>((Ad _ _).mp z).2) (g1 _ fun z=>((Ad _ _).mp z).2)⟩⟩
noncomputable def f3(o o':dL->dL->Option dL)(fa fb fc:VF):VF:=fun δ=>(fa δ).bind fun p=>(fb p.2).bind fun q=>(o p.1 q.1).bind fun z=>match z with
 | .bl true=>(fc q.2).bind fun s=>(o' q.1 s.1).map fun u=>(u,s.2)
 | .bl false=>some (.bl false,q.2)
 |_=>none
theorem K2(ho:Q6 K r o)(ho':Q6 K r' o')(hs:(pb || (ta && ia))=true)(hs':(pc || (tb && ib))=true){Q:VK}(h:TV K ml (pa && pb && pc) true true (f3 o o' fa fb fc) σ H Q):II r r' (TV K ml pa ta ia fa) (TV K ml pb tb ib fb) (TV K ml pc tc ic fc) σ H Q:=by
 obtain⟨B,O,δ,d,δ3,S,q,k⟩:=h;unfold f3 at q;obtain⟨⟨x,δ1⟩,h1,q⟩:=Aa.mp q;cases h2:fb δ1 with
 |none=>simp[h2] at q
 |some p2=>
  obtain⟨y,δ2⟩:=p2;simp only[Ap,h2] at q;refine⟨B,O,δ,x,δ1,S,h1,fun v1 H1 R1=>⟨B,O,δ1,y,δ2,R1.sta,h2,fun v2 H2 R2=> ?_⟩⟩;obtain⟨z,h3,q⟩:=Aa.mp q;refine ho H2 _ _ _ _ v1 v2 x y z _ (R2.live hs R1.rep) R2.rep h3 fun v hv=> ?_;have hv:=hv (fun _=>none) (fun _=>True) fun _=>True;cases z with
  |bl kk=>
   have e1:v= .bl kk:=by cases hv;rfl
   refine⟨kk,e1,?_⟩;cases kk with
   |false=>
    cases q;exact JW (k _ H2 ⟨R2.sta,R1.frm.trans R2.frm,fun z=>by
     simp only[Ad] at z;exact(R1.pur z.1.1).trans (R2.pur z.1.2),.bl _⟩)
   |true=>
    have q:((fc δ2).bind fun s=>(o' y s.1).map fun u=>(u,s.2))=some (d,δ3):=q;obtain⟨⟨z4,δ4⟩,h4,q⟩:=Aa.mp q;have q:((o' y z4).map fun u=>(u,δ4))=some (d,δ3):=q;obtain⟨u,h5,q⟩:=Al.mp q;cases q;refine JX ⟨B,O,δ2,z4,_,R2.sta,h4,fun v4 H4 R4=> ?_⟩;exact ho' H4 _ _ _ _ v2 v4 y z4 d Q (R4.live hs' R2.rep) R4.rep h5 fun v hv=>k v H4 ⟨R4.sta,(R1.frm.trans R2.frm).trans R4.frm,fun z=>by
     simp only[Ad] at z;exact((R1.pur z.1.1).trans (R2.pur z.1.2)).trans (R4.pur z.2),hv _ _ _⟩
  |_=>cases q
theorem DA{op op':CmpOp}(ho:XJ X (Cf op) r)(ho':XJ X (Cf op') r')(hv:Q6 K r o)(hv':Q6 K r' o')(ha:PE X a (TV K ml pa ta ia fa))(hb:PE X b (TV K ml pb tb ib fb))(hc:PE X c (TV K ml pc tc ic fc))
  (hm:Mb [op,op'] [b,c]=false:=by with_unfolding_all rfl) (hs:(pb || (ta && ia))=true:=by rfl) (hs':(pc || (tb && ib))=true:=by rfl):PE X (.Compare a [op,op'] [b,c] pos) (TV K ml (pa && pb && pc) true true (f3 o o' fa fb fc)):=
 (BL ho ho' ha hb hc hm).imp fun _ _ _ h=>K2 hv hv' hs hs' h
theorem DG{op op':CmpOp}(ho:XJ X (Cf op) r)(ho':XJ X (Cf op') r')(hv:Q6 K r o)(hv':Q6 K r' o')(ha:PE X a (TV K ml pa ta ia fa))(hb:PE X b (TV K ml pb tb ib fb))(hc:PE X c (TV K ml pc tc ic fc))
  (hm:Mb [op,op'] [b,c]=false:=by with_unfolding_all rfl) (hs:(pb || (ta && ia))=true:=by rfl) (hs':(pc || (tb && ib))=true:=by rfl):PT X (.Compare a [op,op'] [b,c] pos) (TB K ml (pa && pb && pc) (fB (f3 o o' fa fb fc))):=
 (BU ho ho' ha hb hc hm).imp fun _ _ _ h=>MK (fun _ _ _=>K2 hv hv' hs hs') h
end
section
variable{X:Cx}{K:An}{ml:List Nat}{e a b c:Expr}{es:List Expr}{pa ta ia pb tb ib pc tc ic pu bt bi ps bs:Bool}{fa fb fc:VF}{B:Bs}{O:Nat->Option Addr}{H H1 H':Hp}{σ:St}{δ δ':Ev}{v:V}{d:dL}{p:Addr}{pos:Pos}
noncomputable def f1(o:dL->Option dL)(fa:VF):VF:=fun δ=>(fa δ).bind fun p=>(o p.1).map fun c=>(c,p.2)
theorem LP{o:dL->Option dL}(h:f1 o fa δ=some (d,δ')): ∃x,fa δ=some (x,δ')/\o x=some d:=by
 unfold f1 at h;cases h1:fa δ with
 |none=>rw[h1] at h;cases h
 |some p=>
  rw[h1] at h;have h:((o p.1).map fun c=>(c,p.2))=some (d,δ'):=h;obtain⟨c,h3,h⟩:=Al.mp h;cases h;exact⟨p.1,rfl,h3⟩
abbrev RC:=List V->Hp->VK->Prop
def DV(K:An)(r:RC)(o:dL->Option dL):Prop:= ∀(H:Hp) (N M:Addr->Prop) (x:V) (d c:dL) (Q:VK),bP K N H M x d->o d=some c->(∀v,(∀H' N M,bP K N H' M v c)->Q v H)->r [x] H Q
def CalC(K:An)(r:RC)(o:dL->Option dL):Prop:= ∀(H:Hp) (N M:Addr->Prop) (x:V) (d c:dL) (Q:VK),bP K N H M x d->o d=some c→
 (∀v H',aC H H'->(∀M,(∀a,M a-> ∃o,H a=some o)->bP K N H' M v c)->Q v H')->r [x] H Q
def CalN(K:An)(r:RC)(o:dL->Option dL):Prop:= ∀(H:Hp) (N M:Addr->Prop) (x:V) (d c:dL) (Q:VK),bP K N H M x d->o d=some c→
 (∀p xs ds,H p=none->cH K N H xs ds->c= .lst ds->Q (.ref p) (aS H p (.lst xs)))->r [x] H Q
def MO(K:An)(r:RC)(o:dL->dL->Option dL):Prop:= ∀(H:Hp) (N N' M M':Addr->Prop) (x y:V) (d e c:dL) (Q:VK),bP K N H M x d->bP K N' H M' y e->o d e=some c->(∀v,(∀H' N M,bP K N H' M v c)->Q v H)->r [x,y] H Q
theorem FH{r:RC}{o:dL->Option dL}(ho:DV K r o){Q:VK}(h:TV K ml pa true true (f1 o fa) σ H Q):tCB r (NS (TV K ml pa ta ia fa) CZ) σ H Q:=by
 obtain⟨B,O,δ,d,δ',S,q,k⟩:=h;obtain⟨x,h1,h2⟩:=LP q;exact⟨B,O,δ,x,δ',S,h1,fun v1 H1 R1=>ho H1 _ _ v1 x d Q R1.rep h2 fun v hv=>k v H1 ⟨R1.sta,R1.frm,R1.pur,hv _ _ _⟩⟩
theorem FF{r:RC}{o:dL->Option dL}(ho:CalC K r o){Q:VK}(h:TV K ml pa true ia (f1 o fa) σ H Q):tCB r (NS (TV K ml pa ta ia fa) CZ) σ H Q:=by
 obtain⟨B,O,δ,d,δ',S,q,k⟩:=h;obtain⟨x,h1,h2⟩:=LP q;exact⟨B,O,δ,x,δ',S,h1,fun v1 H1 R1=>ho H1 _ _ v1 x d Q R1.rep h2 fun v H2 s2 hv=>k v H2 ⟨R1.sta.same s2,R1.frm.trans s2.fr,fun z=>(R1.pur z).trans s2,hv _ fun a z=>R1.sta.nin z⟩⟩
theorem FG{r:RC}{o:dL->Option dL}(ho:CalN K r o){Q:VK}(h:TN K ml pa (f1 o fa) σ H Q):tCB r (NS (TV K ml pa ta true fa) CZ) σ H Q:=by
 obtain⟨B,O,δ,d,δ',S,q,k⟩:=h;obtain⟨x,h1,h2⟩:=LP q;refine⟨B,O,δ,x,δ',S,h1,fun v1 H1 R1=>ho H1 _ _ v1 x d Q R1.rep h2 fun p xs ds hp hr he=> ?_⟩;subst he;exact k p _ (mkN R1.sta R1.frm R1.pur hp hr)
theorem FI{r:RC}{o:dL->dL->Option dL}(ho:MO K r o)(hs:(pb || (ta && ia))=true){Q:VK}(h:TV K ml (pa && pb) true true (f2 o fa fb) σ H Q):tCB r (NS (TV K ml pa ta ia fa) (NS (TV K ml pb tb ib fb) CZ)) σ H Q:=by
 obtain⟨B,O,δ,d,δ2,S,q,k⟩:=h;obtain⟨x,δ1,y,h1,h2,h3⟩:=OD q;refine⟨B,O,δ,x,δ1,S,h1,fun v1 H1 R1=>⟨B,O,δ1,y,δ2,R1.sta,h2,fun v2 H2 R2=> ?_⟩⟩;exact ho H2 _ _ _ _ v1 v2 x y d Q (R2.live hs R1.rep) R2.rep h3 fun v hv=>k v H2 ⟨R2.sta,R1.frm.trans R2.frm,fun z=>by
  obtain⟨z1,z2⟩:=(Ad _ _).mp z;exact(R1.pur z1).trans (R2.pur z2),hv _ _ _⟩
section
variable{x:Str}{p':Pos}{id T:String}{r:RC}
theorem O7{o:dL->Option dL}(hc:Z6 X (.builtin id) r)(ho:DV K r o)(hg:Gl X x)(hm:X.mg x=none)(hv:Bo x=some (.builtin id))(ha:PE X a (TV K ml pa ta ia fa))(hn:x≠ "__name__":=by decide) (hdb:(x==("__debug__":Str))=false:=by decide)
  (he:Ag (a::[]) X.env=(false,eval a X.env)::Ag [] X.env:=by rfl):PE X (.Call (.Name x p') [a] [] pos) (TV K ml pa true true (f1 o fa)):=
 (KG hc hg hm hv (bR ha YV he) hn hdb he).imp fun _ _ _ h=>FH ho h
theorem NU{o:dL->dL->Option dL}(hc:Z6 X (.builtin id) r)(ho:MO K r o)(hg:Gl X x)(hm:X.mg x=none)(hv:Bo x=some (.builtin id))(ha:PE X a (TV K ml pa ta ia fa))(hb:PE X b (TV K ml pb tb ib fb))(hn:x≠ "__name__":=by decide) (hdb:(x==("__debug__":Str))=false:=by decide)
  (he:Ag (a::[b]) X.env=(false,eval a X.env)::Ag [b] X.env:=by rfl) (he2:Ag (b::[]) X.env=(false,eval b X.env)::Ag [] X.env:=by rfl) (hpl:(Er pos (Ag [b] X.env)).any (·.1)=false:=by rfl) (hs:(pb || (ta && ia))=true:=by rfl):
  PE X (.Call (.Name x p') [a,b] [] pos) (TV K ml (pa && pb) true true (f2 o fa fb)):=
 (KG hc hg hm hv (bR ha (bR hb YV he2) he) hn hdb he hpl).imp fun _ _ _ h=>FI ho hs h
theorem NV{o:dL->Option dL}(hc:Z6 X (.type T) r)(ho:CalC K r o)(hg:Gl X x)(hm:X.mg x=none)(hv:Bo x=some (.type T))(ha:PE X a (TV K ml pa ta ia fa))(hn:x≠ "__name__":=by decide) (hdb:(x==("__debug__":Str))=false:=by decide)
  (he:Ag (a::[]) X.env=(false,eval a X.env)::Ag [] X.env:=by rfl):PE X (.Call (.Name x p') [a] [] pos) (TV K ml pa true ia (f1 o fa)):=
 (UL hc hg hm hv (bR ha YV he) hn hdb he).imp fun _ _ _ h=>FF ho h
theorem GV{o:dL->Option dL}(hc:Z6 X (.type T) r)(ho:CalN K r o)(hg:Gl X x)(hm:X.mg x=none)(hv:Bo x=some (.type T))(ha:PE X a (TV K ml pa ta true fa))(hn:x≠ "__name__":=by decide) (hdb:(x==("__debug__":Str))=false:=by decide)
  (he:Ag (a::[]) X.env=(false,eval a X.env)::Ag [] X.env:=by rfl):PE X (.Call (.Name x p') [a] [] pos) (TN K ml pa (f1 o fa)):=
 (UL hc hg hm hv (bR ha YV he) hn hdb he).imp fun _ _ _ h=>FG ho h
end
noncomputable def ZH:dL->Option dL
 | .tup ds=>some (.int ds.length)
 | .lst ds=>some (.int ds.length)
 | .str z=>if z.length<=16777216 then some (.int z.length) else none
 |_=>none
def rLen(K:An):RC:=fun xs H Q=>(∃p ys,xs=[.ref p]/\(WZ K H p ys∨VR K H p ys)/\Q (.int ys.length) H)∨ ∃z,xs=[.str z]/\z.length<=sizeLine/\Q (.int z.length) H
theorem zID(h:X.K=K):Z6 X (.builtin "len") (rLen K):=by subst h;exact LG.or LH
theorem zH2:DV K (rLen K) ZH:=by
  intro H N M x d c Q hx h k;cases d<;>first
    | (rename_i ds
       obtain⟨a,xs,rfl,sq,r⟩:=hx.seq rfl;cases h;refine .inl ⟨a,xs,rfl,sq,?_⟩;rw[r.length];exact k _ fun _ _ _=> .int _)
    | (cases hx
       simp only[ZH] at h;split at h
       · cases h
         exact .inr ⟨_,rfl,by rw[Cj];assumption,k _ fun _ _ _=> .int _⟩
       · cases h)
    |cases h
def OP(d:dL):Option dL:=(XT d).map dL.lst
def WR(d:dL):Option dL:=(XT d).map dL.tup
def B5(K:An):RC:=fun xs H Q=> ∃p ys,xs=[.ref p]/\(WZ K H p ys∨VR K H p ys)/\ ∀l,H l=none->Q (.ref l) (aS H l (.lst ys))
def GK(K:An):RC:=fun xs H Q=> ∃p ys,xs=[.ref p]/\((WZ K H p ys/\ ∀l,H l=none->Q (.ref l) (aS H l (.tup ys)))∨(VR K H p ys/\Q (.ref p) H))
theorem L0(h:X.K=K):Z6 X (.type "list") (B5 K):=zIC h
theorem UI(h:X.K=K):Z6 X (.type "tuple") (GK K):=zFT h
theorem KY{d:dL}{g:List dL->dL}{c:dL}(h:(XT d).map g=some c): ∃ds,XT d=some ds/\c=g ds:=by
 cases h1:XT d with
 |none=>rw[h1] at h;cases h
 |some ds=>rw[h1] at h;cases h;exact⟨ds,rfl,rfl⟩
theorem W9:CalN K (B5 K) OP:=by
 intro H N M x d c Q hx h k;obtain⟨ds,h1,rfl⟩:=KY h;obtain⟨a,xs,rfl,sq,r⟩:=hx.seq h1;exact⟨a,xs,rfl,sq,fun l hl=>k l xs ds hl r rfl⟩
theorem T9:CalC K (GK K) WR:=by
 intro H N M x d c Q hx h k;obtain⟨ds,h1,rfl⟩:=KY h;obtain⟨a,xs,rfl,sq,r⟩:=hx.seq h1;rcases sq with sq|sq
 ·exact⟨a,xs,rfl,.inl ⟨sq,fun l hl=>k _ _ (dD hl) fun M hM=> .tup (VR.of cG) (r.same (dD hl))⟩⟩
 ·exact⟨a,xs,rfl,.inr ⟨sq,k _ _ (aC.refl _) fun M hM=> .tup sq r⟩⟩
noncomputable def o2I(g:Int->Int->Int):dL->dL->Option dL
 | .int i,.int j=>some (.int (g i j))
 |_,_=>none
theorem CC{g:Int->Int->Int}:MO K (fun xs H Q=> ∃i j,xs=[.int i,.int j]/\Q (.int (g i j)) H) (o2I g):=by
 intro H N N' M M' x y d e c Q hx hy h k;unfold o2I at h;split at h
 ·cases h
  cases hx;cases hy;exact⟨_,_,rfl,k _ fun _ _ _=> .int _⟩
 ·cases h
abbrev oMax:=o2I fun i j=>if j>i then j else i
abbrev oMin:=o2I fun i j=>if j<i then j else i
theorem zBS:MO K (fun xs H Q=> ∃i j,xs=[.int i,.int j]/\Q (.int (if j>i then j else i)) H) oMax:=CC
theorem CF:MO K (fun xs H Q=> ∃i j,xs=[.int i,.int j]/\Q (.int (if j<i then j else i)) H) oMin:=CC
noncomputable def tyD:dL->Option String
 | .non=>some "NoneType"
 | .bl _=>some "bool"
 | .int _=>some "int"
 | .str _=>some "str"
 | .tup _=>some "tuple"
 | .lst _=>some "list"
 |_=>none
noncomputable def QT(t n:String):Option Bool:=if((Hz t)==(Hz n))=true then some true else if W.kitMeta n=true then(PySem.fastBuiltinMro t).map (·.contains (.type n)) else none
theorem zBC{t n:String}{k:Bool}(h:QT t n=some k):W.kitOne K (.type t) (.type n)=some k:=h
noncomputable def VL:dL->dL->Option dL
 |d,.ty n=>(tyD d).bind fun t=>(QT t n).map dL.bl
 |_,_=>none
def rIsi(K:An):RC:=fun xs H Q=> ∃x n d N M t k,xs=[x,.ty n]/\bP K N H M x d/\tyD d=some t/\QT t n=some k/\Q (.bl k) H
theorem D4:Z6 X (.builtin "isinstance") (rIsi X.K):=by
 intro aa s σ H xs us Q I r h;obtain⟨x,n,d,N,M,t,k,rfl,hx,ht,hk,q⟩:=h;obtain⟨u,c,rfl,rx,rc⟩:=GS r;cases (show c=Hz n from rc);have e:=zBC (K:=X.K) hk;have fin: ∀tk,EP X aa σ Q (.bool k) {s with toks:=tk}:=fun tk=>⟨.bl k,H,I.tok tk,rfl,q⟩;cases hx with
 |non=>cases ht;exact UF I rx (.non) e fin
 |bl y=>cases ht;exact UF I rx (.bl y) e fin
 |int i=>cases ht;exact UF I rx (.int i) e fin
 |str y=>cases ht;exact UF I rx (.str y) e fin
 |ty n=>cases ht
 |fn _=>cases ht
 |dct _ _ _=>cases ht
 |dcn _ _ _=>cases ht
 |ktb _ _=>cases ht
 |exn _ _ _=>cases ht
 |exr _ _ _ _ _=>cases ht
 |tup q _=>
  cases ht;cases rx;obtain⟨its,_,⟨o,h1,h2,_⟩,_⟩:=I.tuple q;exact Es W.kitx_tuple I.kIn ⟨o,h1,h2⟩ e (fun z=>nomatch z) fin
 |lst q _ _=>
  cases ht;cases rx;obtain⟨its,_,⟨o,n,h1,h2,_⟩,_⟩:=I.list (WZ.of q);exact Es Kh I.kIn ⟨o,h1,h2⟩ e (fun z=>nomatch z) fin
 |fzl q _=>
  cases ht;cases rx;obtain⟨its,_,⟨o,n,h1,h2,_⟩,_⟩:=I.list q.sq;exact Es Kh I.kIn ⟨o,h1,h2⟩ e (fun z=>nomatch z) fin
theorem kIsi(h:X.K=K):Z6 X (.builtin "isinstance") (rIsi K):=by subst h;exact D4
theorem zH3:MO K (rIsi K) VL:=by
  intro H N N' M M' x y d e c Q hx hy h k;cases hy<;>first
    | (simp only [VL] at h
       cases h1:tyD d with
       |none=>rw[h1] at h;cases h
       |some t=>
         rw[h1] at h;rename_i n;have h:(QT t n).map dL.bl=some c:=h;obtain⟨kk,h2,h⟩:=Al.mp h;cases h;exact⟨x,n,d,N,M,t,kk,rfl,hx,h1,h2,k _ fun _ _ _=> .bl _⟩)
    |cases h
def N5:dL->Option dL
 | .int i=>some (.int (-i))
 |_=>none
theorem ML(ha:PE X a (TV K ml pa ta ia fa)):PE X (.UnaryOp .USub a pos) (TV K ml pa true true (f1 N5 fa)):=(zHM zCQ ha).imp fun σ H Q hq0=>by
 obtain⟨B,O,δ,d,δ',S,q,k⟩:=hq0;obtain⟨x,h1,h2⟩:=LP q;refine⟨B,O,δ,x,δ',S,h1,fun v1 H1 R1=> ?_⟩;cases x with
 |int i=>
  cases h2;have e1:v1= .int i:=by cases R1.rep;rfl
  exact⟨i,e1,k _ H1 ⟨R1.sta,R1.frm,R1.pur,.int _⟩⟩
 |_=>cases h2
abbrev VP:=Ev->Option (Option Int×Ev)
def TPO(K:An)(ml:List Nat)(pu:Bool)(f:VP):TO:=fun σ H Q=> ∃B O δ k δ',aR K ml B O H σ δ/\f δ=some (k,δ')/\ ∀H',D1 K ml B O H σ pu H' δ'->Q k H'
def IA:VP:=fun δ=>some (none,δ)
noncomputable def KC(f:VF):VP:=fun δ=>(f δ).bind fun p=>match p.1 with
 | .int i=>some (some i,p.2)
 |_=>none
theorem PO.imp{e:Option Expr}{t u:TO}(h:PO X e t)(k: ∀σ H Q,u σ H Q->t σ H Q):PO X e u:=fun aa s σ H Q I w=>h aa s σ H Q I (k σ H Q w)
theorem TU:PO X none (TPO K ml true IA):=zAN.imp fun σ H Q hq0=>by
 obtain⟨B,O,δ,d,δ',S,q,k⟩:=hq0;cases q;exact k H (D1.refl S)
theorem TW(h:PE X a (TV K ml pa ta ia fa)):PO X (some a) (TPO K ml pa (KC fa)):=(zAM h).imp fun σ H Q hq0=>by
 obtain⟨B,O,δ,d,δ',S,q,k⟩:=hq0;unfold KC at q;obtain⟨⟨x,δ1⟩,h1,q⟩:=Aa.mp q;refine⟨B,O,δ,x,δ1,S,h1,fun v1 H1 R1=> ?_⟩;cases x with
 |int i=>
  have e1:v1= .int i:=by cases R1.rep;rfl
  cases q;exact⟨i,e1,k H1 ⟨R1.sta,R1.frm,R1.pur⟩⟩
 |_=>cases q
def SM(ds:List dL)(lo hi:Option Int):List dL:=(ds.drop (HT.sIx ds.length 0 lo)).take (HT.sIx ds.length ds.length hi - HT.sIx ds.length 0 lo)
theorem PH{N:Addr->Prop}{xs:List V}{ds:List dL}(r:cH K N H xs ds)(lo hi:Option Int):cH K N H (JL xs lo hi) (SM ds lo hi):=by
 unfold JL SM;rw[r.length];exact(r.drop _).take _
noncomputable def oSl(d:dL)(lo hi:Option Int):Option dL:=match d with
 | .lst ds=>some (.lst (SM ds lo hi))
 | .tup ds=>some (.tup (SM ds lo hi))
 |_=>none
noncomputable def JP(fa:VF)(fl fh:VP):VF:=fun δ=>(fa δ).bind fun p=>(fl p.2).bind fun l=>(fh l.2).bind fun u=>(oSl p.1 l.1 u.1).map fun c=>(c,u.2)
theorem FC{prog:Bn}{w:World}{A:De}{E:Value->Ah->Prop}{s:Ah}{t sl:Addr}{items:Array Value}{vl vu:Value}{lo hi:Option Int}{Q:Value->Ah->Prop}(ht:IsTup s.heap t items)(hs:s.heap.IsSliceOf sl vl vu .none)(pl:IsPart vl lo)
  (pu:IsPart vu hi) (h1:HT.sIx items.size 0 lo=0) (h2:HT.sIx items.size items.size hi=items.size) (h:Q (.ref t) s):wpAny (model prog w) A (Ih (.ref t) (.ref sl)) Q E s:=by
 obtain⟨os,hos,hcs,hds⟩:=id hs;have hT:s.TypeIs (.ref sl) "slice":=⟨os,hos,hcs⟩;unfold Ih;try with_reducible refine Cg ?_
 first|refine Ac (Ao ?_)|skip
 refine Ac (Ic ht.typeIs (by decide) ?_);refine Ac (Cr (name:=Ar "__getitem__") ht.typeIs Dm
  (Dt Dm ht.typeIs PyProof.Rows.entry_tuple_getitem ?_ (PyProof.Rows.args_tuple_getitem _ _)))
 show wpAny _ _ (Hr (.ref t)>>=_) _ _ s;refine Ac (PyProof.Rows.tupleItemsOf_ ht ?_);refine Ac (Lj hT ?_);rw[if_pos (by decide)];refine Ac (HT.WH hs pl pu ?_);rw[h1,h2];show wpAny _ _ (if((((0:Nat):Int)==0 && (1:Int)==1 && (items.size - 0)==items.size)=true) then _ else _) _ _ s;rw[if_pos (by simp)];refine Ac (m:=Mn _) (Ac (Lj ht.typeIs (Ao ?_)));rw[if_pos (by decide)];exact Ac (Ju (Ao ⟨_,rfl,Ao h⟩))
def rSlW(K:An):V->Option Int->Option Int->Hp->VK->Prop:=fun x lo hi H Q=> ∃a xs,x= .ref a/\VR K H a xs/\(HT.sIx xs.length 0 lo=0/\HT.sIx xs.length xs.length hi=xs.length)/\Q (.ref a) H
theorem zAC:SlR X (rSlW X.K):=by
 intro aa s σ H x v vl vu lo hi sl Q I rx hs pl pu h;obtain⟨a,xs,rfl,hx,hw,q⟩:=h;cases rx;obtain⟨its,r,ht,hz⟩:=I.tuple hx;have am:its.toArray.size=xs.length:=by rw[Au];exact r.length.symm
 refine⟨"tuple",_,PyProof.Rows.slot_tuple_getitem.lookup,ht.typeIs,?_⟩;exact FC ht hs pl pu (by rw[am];exact hw.1) (by rw[am];exact hw.2) ⟨.ref a,H,I,rfl,q⟩
def rSl(K:An):V->Option Int->Option Int->Hp->VK->Prop:=fun x lo hi H Q=>(rSlT K x lo hi H Q∨rSlL K x lo hi H Q)∨rSlW K x lo hi H Q
theorem kSl(h:X.K=K):SlR X (rSl K):=by subst h;exact(zD2.or zAD).or zAC
theorem zBG{fl fh:VP}(h:JP fa fl fh δ=some (d,δ')): ∃x δ1 l δ2 u,fa δ=some (x,δ1)/\fl δ1=some (l,δ2)/\fh δ2=some (u,δ')/\oSl x l u=some d:=by
 unfold JP at h;cases h1:fa δ with
 |none=>rw[h1] at h;cases h
 |some p=>
  rw[h1] at h;cases h2:fl p.2 with
  |none=>simp[h2] at h
  |some q=>
   simp only[Ap,h2] at h;cases h3:fh q.2 with
   |none=>simp[h3] at h
   |some s=>
    simp only[Ap,h3] at h;obtain⟨c,h4,h⟩:=Al.mp h;cases h;exact⟨p.1,p.2,q.1,q.2,s.1,rfl,h2,h3,h4⟩
theorem TR{lo hi:Option Expr}{p2:Pos}{fl fh:VP}(hK:X.K=K)(ha:PE X a (TV K ml pa ta ia fa))(hl:PO X lo (TPO K ml pb fl))(hh:PO X hi (TPO K ml pc fh))(hs:(pb && pc || (ta && ia))=true:=by rfl):
  PE X (.Subscript a (.Slice lo hi none p2) pos) (TV K ml (pa && pb && pc) true ia (JP fa fl fh)):=(BQ (kSl hK) ha hl hh).imp fun σ H Q hq0=>by
 obtain⟨B,O,δ,d,δ3,S,q,k⟩:=hq0;obtain⟨x,δ1,l,δ2,u,h1,h2,h3,h4⟩:=zBG q;refine⟨B,O,δ,x,δ1,S,h1,fun v1 H1 R1=>⟨B,O,δ1,l,δ2,R1.sta,h2,fun H2 R2=>⟨B,O,δ2,u,δ3,R2.sta,h3,fun H3 R3=> ?_⟩⟩⟩;have hx:bP K (av B O ia) H3 (at_ B O ta) v1 x:=by
  rcases(Hk _ _).mp hs with z|z
  ·obtain⟨z1,z2⟩:=(Ad _ _).mp z
   exact(R1.rep.same (R2.pur z1)).same (R3.pur z2)
  ·obtain⟨z1,z2⟩:=(Ad _ _).mp z
   subst z1 z2;exact(R1.rep.fr R2.frm (fun a z=> .inr z) fun a z=> .inr z).fr R3.frm (fun a z=> .inr z) fun a z=> .inr z
 have dw:(pa && pb && pc)=true->aC H H3:=fun z=>by
  simp only[Ad] at z;exact((R1.pur z.1.1).trans (R2.pur z.1.2)).trans (R3.pur z.2)
 have hfr:=(R1.frm.trans R2.frm).trans R3.frm;cases x with
 |lst ds=>
  cases h4;obtain⟨a,xs,rfl,sq,r⟩:=hx.seq rfl;rcases sq with sq|sq
  ·exact .inl (.inr ⟨a,xs,rfl,sq,fun p hp=>k _ _ ⟨R3.sta.same (dD hp),hfr.trans (dD hp).fr,fun z=>(dw z).trans (dD hp),.lst cG (R3.sta.new hp) ((PH r l u).same (dD hp))⟩⟩)
  ·cases hx with
   |lst q n r'=>exact .inl (.inr ⟨a,_,rfl,WZ.of q,fun p hp=>k _ _ ⟨R3.sta.same (dD hp),hfr.trans (dD hp).fr,fun z=>(dw z).trans (dD hp),.lst cG (R3.sta.new hp) ((PH r' l u).same (dD hp))⟩⟩)
   |fzl q r'=>exact .inl (.inr ⟨a,_,rfl,q.sq,fun p hp=>k _ _ ⟨R3.sta.same (dD hp),hfr.trans (dD hp).fr,fun z=>(dw z).trans (dD hp),.lst cG (R3.sta.new hp) ((PH r' l u).same (dD hp))⟩⟩)
 |tup ds=>
  cases h4;cases hx with
  |tup q r'=>
   by_cases hw:HT.sIx ds.length 0 l=0/\HT.sIx ds.length ds.length u=ds.length
   ·refine .inr ⟨_,_,rfl,q,by rw [r'.length];exact hw,k _ _ ⟨R3.sta,hfr,dw,?_⟩⟩
    have e:SM ds l u=ds:=by
     unfold SM;rw[hw.1,hw.2];simp
    rw[e];exact .tup q r'
   ·exact .inl (.inl ⟨_,_,rfl,q,by rw[r'.length];exact hw,fun p hp=>k _ _ ⟨R3.sta.same (dD hp),hfr.trans (dD hp).fr,fun z=>(dw z).trans (dD hp),.tup (VR.of cG) ((PH r' l u).same (dD hp))⟩⟩)
 |_=>cases h4
end
inductive Ou where
 |nx (δ:Ev)|rt (d:dL) (δ:Ev)|bk (δ:Ev)|ct (δ:Ev)
abbrev VS:=Ev->Option Ou
def Post(K:An)(ml:List Nat)(B:Bs)(D:G0):Ou->Prop
 | .nx δ'=> ∀σ' H' O',aR K ml B O' H' σ' δ'->D.nx σ' H'
 | .rt d δ'=> ∀v σ' H' O',aR K ml B O' H' σ' δ'->bP K (rz B) H' (rz B) v d->D.rt v H'
 | .bk δ'=> ∀σ' H' O',aR K ml B O' H' σ' δ'->D.bk σ' H'
 | .ct δ'=> ∀σ' H' O',aR K ml B O' H' σ' δ'->D.ct σ' H'
def RE(K:An)(ml:List Nat)(g:VS):TS:=fun D σ H=> ∃B O δ o,aR K ml B O H σ δ/\g δ=some o/\Post K ml B D o
section
variable{X:Cx}{K:An}{ml:List Nat}{e a b c:Expr}{es:List Expr}{pa ta ia pb tb ib pc tc ic pu bt bi ps bs:Bool}{fa fb fc f:VF}{B B':Bs}{O:Nat->Option Addr}{H H1 H':Hp}{σ:St}{δ δ':Ev}{v:V}{d:dL}{p:Addr}{pos:Pos}{st:Stmt}{rest:List Stmt}{g g':VS}
def a6:VS:=fun δ=>some (.nx δ)
def cR(g g':VS):VS:=fun δ=>(g δ).bind fun o=>match o with
 | .nx δ'=>g' δ'
 |o=>some o
theorem cU:PB X [] (RE K ml a6):=GG.imp fun D σ H hq0=>by
 obtain⟨B,O,δ,o,S,q,k⟩:=hq0;cases q;exact k σ H O S
theorem dG(h1:PS X st (RE K ml g))(h2:PB X rest (RE K ml g')):PB X (st::rest) (RE K ml (cR g g')):=(KM h1 h2).imp fun D σ H hq0=>by
 obtain⟨B,O,δ,o,S,q,k⟩:=hq0;unfold cR at q;obtain⟨z,h1,q⟩:=Aa.mp q;refine⟨B,O,δ,z,S,h1,?_⟩;cases z with
 |nx δ1=>exact fun σ' H' O' S'=>⟨B,O',δ1,o,S',q,k⟩
 |rt d δ1=>cases q;exact k
 |bk δ1=>cases q;exact k
 |ct δ1=>cases q;exact k
theorem dF(h1:PS X st (RE K ml g)):PB X [st] (RE K ml g):=(KM h1 GG).imp fun D σ H ⟨B,O,δ,o,S,q,k⟩=>⟨B,O,δ,o,S,q,by cases o<;>exact k⟩
noncomputable def cE(f:VF):VS:=fun δ=>(f δ).map fun p=> .rt p.1 p.2
theorem c7(h:PE X e (TV K ml pu bt bi f))(ht:bt=true:=by rfl):PS X (.Return (some e) pos) (RE K ml (cE f)):=(zDX h).imp fun D σ H hq0=>by
 obtain⟨B,O,δ,o,S,q,k⟩:=hq0;unfold cE at q;obtain⟨p,h1,q⟩:=Al.mp q;cases q;subst ht;exact⟨B,O,δ,p.1,p.2,S,h1,fun v H' R=>k v σ H' O R.sta (R.rep.mono R.sta.rza R.sta.rzn)⟩
def Y0(t:VB)(g g':VS):VS:=fun δ=>(t δ).bind fun p=>if p.1=true then g p.2 else g' p.2
theorem cA{x y:List Stmt}{t:VB}(ht:PT X c (TB K ml pc t))(ha:PB X x (RE K ml g))(hb:PB X y (RE K ml g')):PS X (.If c x y pos) (RE K ml (Y0 t g g')):=(zHL ht ha hb).imp fun D σ H hq0=>by
 obtain⟨B,O,δ,o,S,q,k⟩:=hq0;unfold Y0 at q;obtain⟨⟨kk,δ1⟩,h1,q⟩:=Aa.mp q;refine⟨B,O,δ,kk,δ1,S,h1,fun H1 R1=> ?_⟩;cases kk with
 |true=>exact JX ⟨B,O,δ1,o,R1.sta,q,k⟩
 |false=>exact JW ⟨B,O,δ1,o,R1.sta,q,k⟩
abbrev VX:=Ev->Option (Sl×Ev)
inductive St1(K:An)(B:Bs)(O:Nat->Option Addr)(H:Hp):Bs->V->Sl->Prop
 |va {v:V} {d:dL}:St1 K B O H {B with kp:=[(v,d)]++B.kp} v (.va d)
 |ol {p:Addr} {xs:List V} {ds:List dL}:H p=some (.lst xs)->xs.length=ds.length-> ¬Nn B O p->B.H0 p=none->St1 K B O H {B.add p with kp:=xs.zip ds++B.kp} (.ref p) (.ow (.lst ds))
 |od {p:Addr} {kvs:List (YY×V)} {ds:List dL}:H p=some (.dK kvs)->kvs.length=ds.length-> ¬Nn B O p->B.H0 p=none->St1 K B O H {B.add p with kp:=(kvs.map Ep).zip ds++B.kp} (.ref p) (.ow (.dct (kvs.map Ds) ds))
 |on {p:Addr} {kvs:List (List Ky×V)} {ds:List dL}:H p=some (.dT kvs)->kvs.length=ds.length-> ¬Nn B O p->B.H0 p=none->St1 K B O H {B.add p with kp:=(kvs.map Ep).zip ds++B.kp} (.ref p) (.ow (.dcn (kvs.map Ds) ds))
theorem St1.fr{s:Sl}(h:St1 K B O H B' v s)(f:Fr (OA O) H H'):St1 K B O H' B' v s:=by
 cases h with
 |va=>exact .va
 |ol q l n z=>exact .ol (f _ _ q fun w=>absurd (.inr w) n) l n z
 |od q l n z=>exact .od (f _ _ q fun w=>absurd (.inr w) n) l n z
 |on q l n z=>exact .on (f _ _ q fun w=>absurd (.inr w) n) l n z
def TX(K:An)(ml:List Nat)(f:VX):TE:=fun σ H Q=> ∃B O δ s δ',aR K ml B O H σ δ/\f δ=some (s,δ')/\ ∀v H' B',aR K ml B' O H' σ δ'->St1 K B O H' B' v s->Fr (OA O) H H'->Q v H'
noncomputable def xV(f:VF):VX:=fun δ=>(f δ).map fun p=>(.va p.1,p.2)
noncomputable def xO(f:VF):VX:=fun δ=>(f δ).map fun p=>(.ow p.1,p.2)
theorem aF(h:PE X e (TV K ml pu true true f)):PE X e (TX K ml (xV f)):=h.imp fun σ H Q hq0=>by
 obtain⟨B,O,δ,o,δ',S,q,k⟩:=hq0;unfold xV at q;obtain⟨p,h1,q⟩:=Al.mp q;cases q;exact⟨B,O,δ,p.1,p.2,S,h1,fun v H' R=>k v H' _ (R.sta.keepV (ps:=[(v,p.1)]) fun z hz=>by
  rw[Ak.mp hz];exact R.rep) .va R.frm⟩
theorem WY{N:Addr->Prop}: ∀{xs:List V} {ds:List dL},cH K N H xs ds-> ∀z∈xs.zip ds,bP K N H N z.1 z.2
 |_,_,.nil,z,hz=>nomatch hz
 |_,_,.cons h t,z,hz=>by
  rcases Aj.mp hz with e|e
  ·rw[e];exact h
  ·exact WY t z e
theorem UO{N:Addr->Prop}: ∀{xs:List V} {ds:List dL},xs.length=ds.length->(∀z∈xs.zip ds,bP K N H N z.1 z.2)->cH K N H xs ds
 |[],[],_,_=> .nil
 |x::xs,d::ds,hl,h=> .cons (h (x,d) (Ax ..)) (UO (by simpa using hl) fun z hz=>h z (Am _ hz))
theorem VO(h:PE X e (TN K ml pu f)):PE X e (TX K ml (xO f)):=h.imp fun σ H Q hq0=>by
 obtain⟨B,O,δ,o,δ',S,q,k⟩:=hq0;unfold xO at q;cases h1:f δ with
 |none=>rw[h1] at q;cases q
 |some p=>
  obtain⟨d,δ1⟩:=p;rw[h1] at q;cases q;refine⟨B,O,δ,d,δ1,S,h1,fun p H' R=> ?_⟩;have w:=R.own;cases w with
  |lst q r=>exact k _ H' _ (R.sta.keepV (WY r)) (.ol q r.length R.nz R.h0) R.frm
  |dct q r=>exact k _ H' _ (R.sta.keepV (WY r)) (.od q (by simpa using r.length) R.nz R.h0) R.frm
  |dcn q r=>exact k _ H' _ (R.sta.keepV (WY r)) (.on q (by simpa using r.length) R.nz R.h0) R.frm
theorem St1.bind{O':Nat->Option Addr}{s:Sl}{i:Nat}(h:St1 K B O H' B' v s)(S:aR K ml B' O' H' σ δ)(hm:i∉ml)(hl:i<δ.length): ∃O'',aR K ml B O'' H' (σ.set i (some v)) (δ.set i s):=by
 cases h with
 |va=>
  refine⟨_,aR.unkeep (ps:=_) (S.setVa hm (S.kep _ (Bu _ (Ak.mpr rfl))))⟩
 |ol q l n z=>
  refine⟨_,aR.setOw (aR.unkeep (B:=B.add _) S) hm hl (fun w=>n (.inl w)) z (.lst q (UO l fun z hz=>S.kep z (Bu _ hz)))⟩
 |od q l n z=>
  refine⟨_,aR.setOw (aR.unkeep (B:=B.add _) S) hm hl (fun w=>n (.inl w)) z (.dct q (UO (by simpa using l) fun z hz=>S.kep z (Bu _ hz)))⟩
 |on q l n z=>
  refine⟨_,aR.setOw (aR.unkeep (B:=B.add _) S) hm hl (fun w=>n (.inl w)) z (.dcn q (UO (by simpa using l) fun z hz=>S.kep z (Bu _ hz)))⟩
noncomputable def Z2(i:Nat)(x:VX):VS:=fun δ=>(x δ).bind fun p=>if i<p.2.length then some (.nx (p.2.set i p.1)) else none
theorem a7{i:Nat}{y:Str}{x:VX}{ar:Pos}(hN:X.N.Nodup)(he:PE X e (TX K ml x))(hi:X.N[i]? =some y:=by rfl)(hx:G3 X.env.scope y:=by first|exact .inl rfl|exact .inr rfl)(hm:i∉ml:=by decide)(hs:Gx e (some (.Name y ar)) pos.line X.env=pure false:=by rfl)
  (hf:X.fn y=true∨X.env.scope.names.lookup y=some .local:=by first|exact .inl rfl|exact .inr rfl|assumption):PS X (.Assign [.Name y ar] e pos) (RE K ml (Z2 i x)):=(zDW hN hi hx he hs hf).imp fun D σ H hq0=>by
 obtain⟨B,O,δ,o,S,q,k⟩:=hq0;unfold Z2 at q;obtain⟨⟨s,δ1⟩,h1,q⟩:=Aa.mp q;have q:(if i<δ1.length then some (Ou.nx (δ1.set i s)) else none)=some o:=q;split at q
 ·rename_i hl
  cases q;refine⟨B,O,δ,s,δ1,S,h1,fun v H' B' S' h' f'=> ?_⟩;obtain⟨O'',S''⟩:=h'.bind S' hm hl;exact k _ _ _ S''
 ·cases q
noncomputable def R9(i j:Nat)(x y:VX):VS:=fun δ=>(x δ).bind fun p=>(y p.2).bind fun q=>if i<q.2.length/\j<q.2.length then some (.nx ((q.2.set j q.1).set i p.1)) else none
theorem MM{i j:Nat}{y z:Str}{fx fy:VX}{px py pt:Pos}{kt k2 pt2}(hc:X.calm=true)(hN:X.N.Nodup)(hi:X.N[i]? =some y)(hj:X.N[j]? =some z)(hij:i≠j)
  (hx:X.env.scope.names.lookup y=some .local) (hy:X.env.scope.names.lookup z=some .local) (ha:PE X a (TX K ml fx)) (hb:PE X b (TX K ml fy))
  (hw:Ey [.Tuple [.Name y px,.Name z py] kt pt] (.Tuple [a,b] k2 pt2) X.env=pure (some [y,z])) (hmi:i∉ml:=by decide) (hmj:j∉ml:=by decide)
  (hs:Ex [.Tuple [.Name y px,.Name z py] kt pt] (.Tuple [a,b] k2 pt2) pos.line X.env=pure false:=by rfl)
  (he:Ag (a::[b]) X.env=(false,eval a X.env)::Ag [b] X.env:=by rfl) (he2:Ag (b::[]) X.env=(false,eval b X.env)::Ag [] X.env:=by rfl):
  PS X (.Assign [.Tuple [.Name y px,.Name z py] kt pt] (.Tuple [a,b] k2 pt2) pos) (RE K ml (R9 i j fx fy)):=(zDY hc hN hi hj hij hx hy (bR ha (bR hb YV he2) he) hw hs).imp fun D σ H hq0=>by
 obtain⟨B,O,δ,o,S,q,k⟩:=hq0;unfold R9 at q;obtain⟨⟨s,δ1⟩,h1,q⟩:=Aa.mp q;cases h2:fy δ1 with
 |none=>simp[h2] at q
 |some p2=>
  obtain⟨s2,δ2⟩:=p2;simp only[Ap,h2] at q;split at q
  ·rename_i hl
   cases q;refine⟨B,O,δ,s,δ1,S,h1,fun v H1 B1 S1 w1 f1=>⟨B1,O,δ1,s2,δ2,S1,h2,fun v2 H2 B2 S2 w2 f2=>⟨v,v2,rfl,?_⟩⟩⟩;obtain⟨O3,S3⟩:=w2.bind S2 hmj hl.2;obtain⟨O4,S4⟩:=(w1.fr f2).bind S3 hmi (by rw[Ce];exact hl.1);rw[Fu _ _ (Cq hij)] at S4;exact k _ _ _ S4
  ·cases q
abbrev VG:=dL->Ev->Option Ev
def TGV(K:An)(ml:List Nat)(h:VG):TG:=fun v σ H Q=> ∃B O δ d δ',aR K ml B O H σ δ/\bP K (Nn B O) H (Nn B O) v d/\h d δ=some δ'/\ ∀σ' O',aR K ml B O' H σ' δ'->(∀i∈ml,σ'[i]? =σ[i]?)->Q σ' H
theorem PG.imp{t u:TG}(h:PG X e t)(k: ∀v σ H Q,u v σ H Q->t v σ H Q):PG X e u:=fun aa s σ H v w Q I r z=>h aa s σ H v w Q I r (k v σ H Q z)
theorem FM.imp{t u:D2}(h:FM X es t)(k: ∀v σ H Q,u v σ H Q->t v σ H Q):FM X es u:=fun aa s σ H v w Q I r z=>h aa s σ H v w Q I r (k v σ H Q z)
theorem PG.or{t u:TG}(h:PG X e t)(h':PG X e u):PG X e (fun v σ H Q=>t v σ H Q∨u v σ H Q):=fun aa s σ H v w Q I r z=>by
 rcases z with z|z
 ·exact h aa s σ H v w Q I r z
 ·exact h' aa s σ H v w Q I r z
def gN(i:Nat):VG:=fun d δ=>some (δ.set i (.va d))
theorem cW{i:Nat}{x:Str}(hN:X.N.Nodup)(hi:X.N[i]? =some x:=by rfl)(hx:G3 X.env.scope x:=by first|exact .inl rfl|exact .inr rfl)(hm:i∉ml:=by decide)(hf:X.fn x=true∨X.env.scope.names.lookup x=some .local:=by first|exact .inl rfl|exact .inr rfl|assumption):PG X (.Name x pos) (TGV K ml (gN i)):=
 (UM hN hi hx hf).imp fun v σ H Q hq0 => by
  obtain⟨B,O,δ,d,δ',S,r,q,k⟩:=hq0;cases q;exact k _ _ (S.setVa hm r) fun j hj=>Bv fun(z:i=j)=>hm (z▸hj)
abbrev DR:=List dL->Ev->Option Ev
def TGVs(K:An)(ml:List Nat)(h:DR):D2:=fun vs σ H Q=> ∃B O δ ds δ',aR K ml B O H σ δ/\cH K (Nn B O) H vs ds/\h ds δ=some δ'/\ ∀σ' O',aR K ml B O' H σ' δ'->(∀i∈ml,σ'[i]? =σ[i]?)->Q σ' H
def YA:DR:=fun ds δ=>match ds with
 |[]=>some δ
 |_=>none
def b4(g:VG)(gs:DR):DR:=fun ds δ=>match ds with
 |d::r=>(g d δ).bind fun δ1=>gs r δ1
 |[]=>none
theorem Y8:FM X [] (TGVs K ml YA):=L8.imp fun vs σ H Q hq0=>by
 obtain⟨B,O,δ,ds,δ',S,r,q,k⟩:=hq0;cases r with
 |nil=>cases q;exact⟨rfl,k _ _ S fun _ _=>rfl⟩
 |cons _ _=>cases q
theorem cC{g:VG}{gs:DR}(h1:PG X e (TGV K ml g))(h2:FM X es (TGVs K ml gs))(hs:(assignEach (e::es) X.env).map (·.2)=assign e X.env::(assignEach es X.env).map (·.2):=by rfl):FM X (e::es) (TGVs K ml (b4 g gs)):=
 (WE h1 h2 hs).imp fun vs σ H Q hq0 => by
  obtain⟨B,O,δ,ds,δ',S,r,q,k⟩:=hq0;cases r with
  |nil=>cases q
  | @cons v vs d ds h t=>
   have q:((g d δ).bind fun δ1=>gs ds δ1)=some δ':=q;obtain⟨δ1,h1,q⟩:=Aa.mp q;have S0:=S.keepV (WY t);exact⟨v,vs,rfl,_,O,δ,d,δ1,S0,h,h1,fun σ1 O1 S1 m1=>⟨B,O1,δ1,ds,δ',S1.unkeep,UO t.length fun z hz=>S1.kep z (Bu _ hz),q,fun σ2 O2 S2 m2=>k σ2 O2 S2 fun i hi=>(m2 i hi).trans (m1 i hi)⟩⟩
def M9(n:Nat)(gs:DR):VG:=fun d δ=>(XT d).bind fun ds=>if ds.length=n then gs ds δ else none
theorem X8{gs:DR}{k n:Nat}(hK:X.K=K)(hc:X.calm=true)(h:FM X es (TGVs K ml gs))(hn:(assignEach es X.env).length=n:=by rfl)(hst:(assignEach es X.env).findIdx? (·.1)=none:=by rfl):PG X (.Tuple es k pos) (TGV K ml (M9 n gs)):=
 ((AX (K := K) hK hc h hn hst).or (zIA (K := K) hK hc h hn hst)).imp fun v σ H Q hq0 => by
  obtain⟨B,O,δ,d,δ',S,r,q,k⟩:=hq0;unfold M9 at q;obtain⟨ds,h1,q⟩:=Aa.mp q;have q:(if ds.length=n then gs ds δ else none)=some δ':=q;split at q
  ·rename_i hl
   obtain⟨a,xs,rfl,sq,ra⟩:=r.seq h1;have fin:TGVs K ml gs xs σ H Q:=⟨B,O,δ,ds,δ',S,ra,q,k⟩;rcases sq with sq|sq
   ·exact .inr ⟨a,xs,rfl,sq,ra.length.trans hl,fin⟩
   ·exact .inl ⟨a,xs,rfl,sq,ra.length.trans hl,fin⟩
  ·cases q
noncomputable def P8(f:VF)(g:VG):VS:=fun δ=>(f δ).bind fun p=>(g p.1 p.2).map Ou.nx
theorem V8{tg:Expr}{gg:VG}(he:PE X e (TV K ml pu true true f))(hg:PG X tg (TGV K ml gg))(hs:Ex [tg] e pos.line X.env=pure false:=by rfl)(hw:Ey [tg] e X.env=pure none:=by rfl)
  (h1:(assignEach [tg] X.env).map (·.2)=[assign tg X.env]:=by rfl):PS X (.Assign [tg] e pos) (RE K ml (P8 f gg)):=(OU he hg hs hw h1).imp fun D σ H hq0=>by
 obtain⟨B,O,δ,o,S,q,k⟩:=hq0;unfold P8 at q;obtain⟨⟨d,δ1⟩,h1,q⟩:=Aa.mp q;have q:(gg d δ1).map Ou.nx=some o:=q;obtain⟨δ2,h2,q⟩:=Al.mp q;cases q;exact⟨B,O,δ,d,δ1,S,h1,fun v H' R=>⟨B,O,δ1,d,δ2,R.sta,R.rep,h2,fun σ' O' S' _=>k σ' H' O' S'⟩⟩
def MuV(K:An)(r:V->List V->Hp->VK->Prop)(m:List dL->List dL->Option (List dL)):Prop:= ∀(H:Hp) (N:Addr->Prop) (l:Addr) (xs vs:List V) (ds es ds':List dL) (Q:VK),
 H l=some (.lst xs)->N l->cH K N H xs ds->cH K N H vs es->m ds es=some ds'->(∀v xs',cH K N H xs' ds'->Q v (aS H l (.lst xs')))->r (.ref l) vs H Q
noncomputable def W1(δ:Ev)(i:Nat):Option (List dL):=match δ[i]? with
 |some (.ow (.lst ds))=>some ds
 |_=>none
noncomputable def WG(i:Nat)(m:List dL->List dL->Option (List dL))(fs:Q8):VS:=fun δ=>(W1 δ i).bind fun _=>(fs δ).bind fun p=>(W1 p.2 i).bind fun ds=>(m ds p.1).map fun ds'=> .nx (p.2.set i (.ow (.lst ds')))
theorem UK{i:Nat}{ds:List dL}(h:W1 δ i=some ds):δ[i]? =some (.ow (.lst ds)):=by
 unfold W1 at h;split at h
 ·cases h;assumption
 ·cases h
theorem QF{N:Addr->Prop}{l:Addr}{o:HO}{xs:List V}{ds ys:List dL}{zs:List V}(ho:H l=some (.lst zs))(hN:N l)(h:cH K N H xs ds):cH K N (aS H l o) xs ds:=
 h.fr (P:=fun b=>b=l) (fun b u q n=>by
  by_cases hb:b=l
  ·subst hb
   rw[ho] at q;cases q;exact absurd (n rfl) fun z=>z
  ·rw[bN hb]
   exact q) fun a z=>z▸hN
theorem YX{i:Nat}{x:Str}{name:Str}{ap aj dj:Pos}{id:String}{r:V->List V->Hp->VK->Prop}{m:List dL->List dL->Option (List dL)}{fs:Q8}(hK:X.K=K)(slot:Slot "list" name id) (hty:typeOf (.builtin id)=pure (.type "method_descriptor")) (hm:MtR X id r) (hmu:MuV K r m)
  (ho:PE X (.Name x dj) (U7 i)) (ha:PA X (e::es) (DQ K ml pu true fs))
  (cv:Hb (.Name x dj) name X.env (eval (.Name x dj) X.env)=eval (.Name x dj) X.env:=by rfl)
  (ee : ((Er aj (Ag (e :: es) X.env)).all (fun x => !x.1) && (Lv aj (Ii [] X.env)).all (fun x => x.1.isSome)
   && decide ((e::es).length+([]:List Ij).length+(if([]:List Ij).isEmpty then 0 else 1)<30))=true:=by rfl)
  (cu:(ap.endLine==aj.line)=true:=by rfl) (hs:Ag (e::es) X.env=(false,eval e X.env)::Ag es X.env:=by rfl) (br:(Er aj (Ag es X.env)).any (·.1)=false:=by rfl)
  (hsw:Gx (.Call (.Attribute (.Name x dj) name ap) (e::es) [] aj) none pos.line X.env=pure false:=by rfl):
  PS X (.Expr (.Call (.Attribute (.Name x dj) name ap) (e::es) [] aj) pos) (RE K ml (WG i m fs)):=
 (zAK (kBm (K := K) hK PySem.F.plainAttrs_list slot hty hm ho ha cv ee cu hs br) hsw).imp fun D σ H hq0 => by
  obtain⟨B,O,δ,o,S,q,k⟩:=hq0;unfold WG at q;obtain⟨ds0,h0,q⟩:=Aa.mp q;have q:((fs δ).bind fun p=>(W1 p.2 i).bind fun ds=>(m ds p.1).map fun ds'=>Ou.nx (p.2.set i (.ow (.lst ds'))))=some o:=q;obtain⟨⟨es',δ1⟩,h1,q⟩:=Aa.mp q;have q:((W1 δ1 i).bind fun ds=>(m ds es').map fun ds'=>Ou.nx (δ1.set i (.ow (.lst ds'))))=some o:=q;obtain⟨ds,h2,q⟩:=Aa.mp q;have q:((m ds es').map fun ds'=>Ou.nx (δ1.set i (.ow (.lst ds'))))=some o:=q;cases h3:m ds es' with
  |none=>rw[h3] at q;cases q
  |some ds'=>
   rw[h3] at q;cases q;obtain⟨l,e1,e2,w⟩:=S.ow i _ (UK h0);cases w with
   |lst hl0 _=>
    refine⟨.ref l,e2,.inl ⟨rfl,_,WZ.of hl0⟩,B,O,δ,es',δ1,S,h1,fun vs H1 R=> ?_⟩;obtain⟨l',e3,_,w1⟩:=R.sta.ow i _ (UK h2);rw[e1] at e3;cases e3;cases w1 with
    |lst hl1 r1=>
     refine hmu H1 (Nn B O) l _ vs ds es' ds' _ hl1 (.inr ⟨i,e1⟩) r1 R.rep h3 fun v xs' r2=> ?_;exact k σ _ O (R.sta.wrote e1 (fun z=>z) (.lst cG (QF (ys:=[]) hl1 (.inr ⟨i,e1⟩) r2)))
noncomputable def WC:List dL->List dL->Option (List dL)
 |ds,[d]=>if ds.length<16777216 then some (ds++[d]) else none
 |_,_=>none
theorem YU:MuV K GJ WC:=by
 intro H N l xs vs ds es ds' Q hl hN rx re h k;cases re with
 |nil=>cases h
 | @cons v vs d es hd t=>
  cases t with
  |cons _ _=>cases h
  |nil=>
   simp only[WC] at h;split at h
   ·rename_i hz
    cases h;exact⟨l,xs,v,rfl,rfl,hl,by rw[rx.length,Cj];exact hz,k _ _ (rx.snoc hd)⟩
   ·cases h
end
section
variable{X:Cx}{K:An}{ml:List Nat}{e a b c:Expr}{es:List Expr}{pa ta ia pb tb ib pc tc ic pu bt bi ps bs:Bool}{fa fb fc f:VF}{B B':Bs}{O:Nat->Option Addr}{H H1 H':Hp}{σ:St}{δ δ':Ev}{v:V}{d:dL}{p:Addr}{pos:Pos}{st:Stmt}{rest:List Stmt}{g g':VS}
def UU(nxt:VS):Ou->Option Ou
 | .nx δ=>nxt δ
 | .ct δ=>nxt δ
 | .bk δ=>some (.nx δ)
 | .rt d δ=>some (.rt d δ)
open Classical in
def Walk(K:An)(J:It)(kps:List (V×dL))(ds:List dL):Prop:= ∀(N:Addr->Prop) (H:Hp),(∀p∈kps,bP K N H N p.1 p.2)→
 (∀(i:Nat) (d:dL),ds[i]? =some d->J.go i H/\ ∀x H',J.yld i H x H'->aC H H'/\bP K N H' N x d)/\J.stop ds.length H
abbrev VI:=Ev->Option (List dL×Ev)
def TIV(K:An)(ml:List Nat)(pu:Bool)(f:VI):TI:=fun σ H R=> ∃B O δ ds δ',aR K ml B O H σ δ/\f δ=some (ds,δ')∧
 ∀J kps H',aR K ml {B with kp:=kps++B.kp} O H' σ δ'->Fr (OA O) H H'->(pu=true->aC H H')->Walk K J kps ds->R J H'
theorem PI.imp{tg:Expr}{t u:TI}(h:PI X tg e t)(k: ∀σ H R,u σ H R->t σ H R):PI X tg e u:=fun aa s σ H R I w=>h aa s σ H R I (k σ H R w)
theorem PI.or{tg:Expr}{t u:TI}(h:PI X tg e t)(h':PI X tg e u):PI X tg e (fun σ H R=>t σ H R∨u σ H R):=fun aa s σ H R I z=>by
 rcases z with z|z
 ·exact h aa s σ H R I z
 ·exact h' aa s σ H R I z
noncomputable def T0(f:VF):VI:=fun δ=>(f δ).bind fun p=>(XT p.1).map fun ds=>(ds,p.2)
theorem DI{a:Addr}{ds:List dL}:Walk K (Itl K a) [(.ref a,.lst ds)] ds:=by
 intro N H h;have r:=h _ (Ak.mpr rfl);have fin: ∀xs,WZ K H a xs->cH K N H xs ds->(∀(i:Nat) (d:dL),ds[i]? =some d->(Itl K a).go i H/\ ∀x H',(Itl K a).yld i H x H'->aC H H'/\bP K N H' N x d)/\(Itl K a).stop ds.length H:=fun xs sq r=>by
  refine⟨fun i d e=> ?_,xs,sq,by rw[r.length];exact Aw _⟩;obtain⟨x,e1,r1⟩:=r.get e;refine⟨⟨xs,x,sq,e1⟩,fun y H' hy=> ?_⟩;obtain⟨e2,e3⟩:=hy;subst e2;have:=e3 xs sq;rw[e1] at this;cases this;exact⟨aC.refl _,r1⟩
 cases r with
 |lst q n r=>exact fin _ (WZ.of q) r
 |fzl q r=>exact fin _ q.sq r
theorem DL{a:Addr}{ds:List dL}:Walk K (Itt K a) [(.ref a,.tup ds)] ds:=by
 intro N H h;have r:=h _ (Ak.mpr rfl);cases r with
 |tup sq r=>
  refine⟨fun i d e=> ?_,_,sq,by rw[r.length];exact Aw _⟩;obtain⟨x,e1,r1⟩:=r.get e;refine⟨⟨_,x,sq,e1⟩,fun y H' hy=> ?_⟩;obtain⟨e2,e3⟩:=hy;subst e2;have:=e3 _ sq;rw[e1] at this;cases this;exact⟨aC.refl _,r1⟩
theorem XU{tg:Expr}(hK:X.K=K)(h:PE X e (TV K ml pu true true f)):PI X tg e (TIV K ml pu (T0 f)):=((zFN (K:=K) hK h).or (zI9 (K:=K) hK h)).imp fun σ H R hq0=>by
 obtain⟨B,O,δ,ds,δ',S,q,k⟩:=hq0;unfold T0 at q;obtain⟨⟨x,δ1⟩,h1,q⟩:=Aa.mp q;cases x with
 |lst ds'=>
  cases q;refine .inl ⟨B,O,δ,_,δ1,S,h1,fun v H1 R1=> ?_⟩;obtain⟨a,xs,rfl,sq,r⟩:=R1.rep.seq rfl;refine⟨a,rfl,?_,k _ [(.ref a,.lst ds)] H1 (R1.sta.keepV fun p hp=>by rw[Ak.mp hp];exact R1.rep) R1.frm R1.pur DI⟩;have r:=R1.rep;cases r with
  |lst q _ _=>exact⟨_,WZ.of q⟩
  |fzl q _=>exact⟨_,q.sq⟩
 |tup ds'=>
  cases q;refine .inr ⟨B,O,δ,_,δ1,S,h1,fun v H1 R1=> ?_⟩;obtain⟨a,xs,rfl,sq,r⟩:=R1.rep.seq rfl;refine⟨a,rfl,?_,k _ [(.ref a,.tup ds)] H1 (R1.sta.keepV fun p hp=>by rw[Ak.mp hp];exact R1.rep) R1.frm R1.pur DL⟩;have r:=R1.rep;cases r with
  |tup q _=>exact⟨_,q⟩
 |_=>cases q
def ZT(lo:Int)(n:Nat):List dL:=(Bt n).map fun k:Nat=> .int (lo+k)
noncomputable def IN(f:VF):VI:=fun δ=>(f δ).bind fun p=>match p.1 with
 | .int j=>if -4611686018427387904<=j/\j<4611686018427387904 then some (ZT 0 j.toNat,p.2) else none
 |_=>none
theorem B8{lo:Int}{n i:Nat}{d:dL}(h:(ZT lo n)[i]? =some d):i<n/\d= .int (lo+i):=by
 unfold ZT at h;rw[Dz] at h;obtain⟨k,h1,h⟩:=Al.mp h;cases h;have:=Ai.mp h1;obtain⟨hl,e⟩:=this;rw[Gq] at hl;rw[List.getElem_range] at e;subst e;exact⟨hl,rfl⟩
theorem DK{lo:Int}{n:Nat}:Walk K (Itr lo n) [] (ZT lo n):=by
 intro N H _;refine⟨fun i d e=> ?_,by simp[Itr,ZT]⟩;obtain⟨hl,rfl⟩:=B8 e;refine⟨hl,fun x H' hy=> ?_⟩;obtain⟨rfl,rfl⟩:=hy;exact⟨aC.refl _,.int _⟩
theorem aB{tg:Expr}{p':Pos}(hg:Gl X "range") (hm:X.mg "range"=none) (h:PE X a (TV K ml pa ta ia fa)) (hs:Ag [a] X.env=[(false,eval a X.env)]:=by rfl) (hs1:Ag (a::[]) X.env=(false,eval a X.env)::Ag [] X.env:=by rfl):
  PI X tg (.Call (.Name "range" p') [a] [] pos) (TIV K ml pa (IN fa)):=(EX hg hm (bR h YV hs1) hs).imp fun σ H R hq0=>by
 obtain⟨B,O,δ,ds,δ',S,q,k⟩:=hq0;unfold IN at q;obtain⟨⟨x,δ1⟩,h1,q⟩:=Aa.mp q;cases x with
 |int j=>
  have q:(if -4611686018427387904<=j/\j<4611686018427387904 then some (ZT 0 j.toNat,δ1) else none)=some (ds,δ'):=q;split at q
  ·rename_i hj
   cases q;have p62:(2:Int) ^ 62=4611686018427387904:=by decide
   refine⟨B,O,δ,_,_,S,h1,fun v H1 R1=>⟨j,?_,by rw[p62];exact hj.1,by rw[p62];exact hj.2,k _ [] H1 (R1.sta.keepV fun _ z=>nomatch z) R1.frm R1.pur DK⟩⟩;have r:=R1.rep;cases r;rfl
  ·cases q
 |_=>cases q
noncomputable def aD(gg:VG)(s:VS):List dL->VS
 |[]=>fun δ=>some (.nx δ)
 |d::r=>fun δ=>(gg d δ).bind fun δ1=>(s δ1).bind (UU (aD gg s r))
def R8(fi:VI)(gg:VG)(s:VS):VS:=fun δ=>(fi δ).bind fun p=>aD gg s p.1 p.2
theorem XF{tg iter:Expr}{body:List Stmt}{fi:VI}{gg:VG}(hp:PassesOwn (model X.prog X.w) X.A X.env X.xe)(hc:X.calm=true)(hi:PI X tg iter (TIV K ml pu fi))(hg:PG X tg (TGV K ml gg))(hb:PB X body (RE K ml g))
  (hs: ∀x,foldedSetIterable iter X.env x=pure x:=by intro _;rfl):PS X (.For tg iter body [] pos) (RE K ml (R8 fi gg g)):=(zDZ hp hc hi hg hb hs).imp fun D σ H hq0=>by
 obtain⟨B,O,δ,o,S,q,k⟩:=hq0;unfold R8 at q;obtain⟨⟨ds,δ1⟩,h1,q⟩:=Aa.mp q;have q:aD gg g ds δ1=some o:=q;refine⟨B,O,δ,ds,δ1,S,h1,fun J kps H1 S1 _ _ wk=> ?_⟩;refine⟨fun i m σ H=>m=ds.length - i/\i<=ds.length/\ ∃O δ,aR K ml {B with kp:=kps++B.kp} O H σ δ/\aD gg g (ds.drop i) δ=some o,⟨ds.length,rfl,Du _,O,δ1,S1,q⟩,?_⟩;rintro i m σ H ⟨rfl,hi,O,δ,S,hf⟩;have w:=wk (Nn B O) H fun p hp=>S.kep p (Bu _ hp);by_cases hlt:i<ds.length
 ·obtain ⟨go,yl⟩ := w.1 i ds[i] (by simp [hlt])
  rw[Fl hlt] at hf;refine .inr ⟨go,fun σ' H'=> ∃O δ,aR K ml {B with kp:=kps++B.kp} O H' σ' δ/\aD gg g (ds.drop (i+1)) δ=some o,fun σ' H' w'=>⟨ds.length - (i+1),by lia,rfl,hlt,w'⟩,fun x H' hy=> ?_⟩;obtain⟨sm,rx⟩:=yl x H' hy;have hf:((gg ds[i] δ).bind fun δ1=>(g δ1).bind (UU (aD gg g (ds.drop (i+1)))))=some o:=hf;obtain⟨δ2,h2,hf⟩:=Aa.mp hf;have hf:(g δ2).bind (UU (aD gg g (ds.drop (i+1))))=some o:=hf;refine⟨_,O,δ,ds[i],δ2,S.same sm,rx,h2,fun σ2 O2 S2 _=> ?_⟩;obtain⟨z,h3,hf⟩:=Aa.mp hf;refine⟨_,O2,δ2,z,S2,h3,?_⟩;cases z with
  |nx δ3=>exact fun σ' H' O' S'=>⟨O',δ3,S',hf⟩
  |ct δ3=>exact fun σ' H' O' S'=>⟨O',δ3,S',hf⟩
  |bk δ3=>cases hf;exact fun σ' H' O' S'=>k σ' H' O' S'.unkeep
  |rt d δ3=>cases hf;exact fun v σ' H' O' S' r=>k v σ' H' O' S'.unkeep r
 ·have e : i = ds.length := by lia
  subst e;rw[Ir] at hf;cases hf;exact .inl ⟨w.2,k σ H O S.unkeep⟩
end
section
variable{X:Cx}{K:An}{ml:List Nat}{e a b c:Expr}{es:List Expr}{pa ta ia pb tb ib pc tc ic pu bt bi ps bs:Bool}{fa fb fc f:VF}{B B':Bs}{O:Nat->Option Addr}{H H1 H':Hp}{σ:St}{δ δ':Ev}{v:V}{d:dL}{p:Addr}{pos:Pos}{st:Stmt}{rest:List Stmt}{g g':VS}
theorem aR.call{P:Addr->Prop}(S:aR K ml B O H σ δ)(hl:δ'.length=δ.length)(h: ∀i:Nat,(δ'[i]? =δ[i]? /\ ∀a,O i=some a-> ¬P a)∨ ∃a d',O i=some a/\δ'[i]? =some (Sl.ow d')/\SF K (Nn B O) H' a d')
  (f:Fr P H H') (hP: ∀a,P a->OA O a):aR K ml B O H' σ δ' where
 len:=by rw[hl,S.len]
 va:=fun i d e=>by
  rcases h i with⟨e1,_⟩|⟨a,d',_,e1,_⟩
  ·rw[e1] at e
   obtain⟨v,e2,r⟩:=S.va i d e;exact⟨v,e2,r.fr f (fun a z=> .inr (hP a z)) fun a z=> .inr (hP a z)⟩
  ·rw[e1] at e
   cases e
 ow:=fun i d e=>by
  rcases h i with⟨e1,n⟩|⟨a,d',e2,e1,w⟩
  ·rw[e1] at e
   obtain⟨a,e2,e3,w⟩:=S.ow i d e;exact⟨a,e2,e3,w.fr f (fun a z=> .inr (hP a z)) (n a e2)⟩
  ·rw[e1] at e
   cases e;obtain⟨d0,q0⟩:=S.dom i a e2;obtain⟨a',e3,e4,_⟩:=S.ow i d0 q0;rw[e2] at e3;cases e3;exact⟨a,e2,e4,w⟩
 dom:=fun i a e=>by
  rcases h i with⟨e1,n⟩|⟨a,d',e2,e1,w⟩
  ·obtain⟨d0,q0⟩:=S.dom i a e
   exact⟨d0,e1.trans q0⟩
  ·exact⟨d',e1⟩
 inj:=S.inj
 old:=S.old
 zin:=fun a h'=>by
  obtain⟨o,q⟩:=S.zin a h';exact⟨o,f a o q fun z=>by
   obtain⟨i,e⟩:=hP a z;exact absurd h' (S.old i a e).1⟩
 frm:=fun b o q n=>by
  have h1:=S.frm b o q n;refine f b o h1 fun z=> ?_;obtain⟨i,e⟩:=hP b z;rcases(S.old i b e).2 with w|w
  ·exact n w
  ·rw[q] at w;cases w
 par:=S.par
 pin:=fun a h'=>by
  obtain⟨o,q⟩:=S.pin a h';by_cases z:P a
  ·obtain⟨i,e⟩:=hP a z
   rcases h i with⟨_,n⟩|⟨a',d',e2,e1,w⟩
   ·exact absurd z (n a e)
   ·rw[e] at e2
    cases e2;obtain⟨o,q,_⟩:=w.soft;exact⟨o,q⟩
  ·exact⟨o,f a o q fun y=>absurd y z⟩
 kep:=fun p hp=>(S.kep p hp).fr f (fun a z=> .inr (hP a z)) fun a z=> .inr (hP a z)
abbrev b7:=List dL->Option (dL×List dL)
def VE(ml:List Nat)(vs:List V):Addr->Prop:=fun a=> ∃i∈ml,vs[i]? =some (.ref a)
def Zp(Z:Addr->Prop)(ml:List Nat)(vs:List V):Addr->Prop:=fun a=>Z a∨VE ml vs a
structure zCK(K:An)(ml:List Nat)(Z:Addr->Prop)(H:Hp)(vs:List V)(ds:List dL):Prop where
 len:vs.length=ds.length
 mem: ∀i∈ml,i<ds.length
 va: ∀(i:Nat) (d:dL),i∉ml->ds[i]? =some d-> ∃v,vs[i]? =some v/\bP K (Zp Z ml vs) H (Zp Z ml vs) v d
 ow: ∀(i:Nat) (d:dL),i∈ml->ds[i]? =some d-> ∃a,vs[i]? =some (.ref a)/\SF K (Zp Z ml vs) H a d/\¬Z a
 inj: ∀(i j:Nat) (a:Addr),i∈ml->j∈ml->vs[i]? =some (.ref a)->vs[j]? =some (.ref a)->i=j
 zin: ∀a,Z a-> ∃o,H a=some o
def spV(K:An)(ml:List Nat)(n:Nat)(F:b7):Sp:=fun vs H Q _=> ∃(Z:Addr->Prop) (ds:List dL) (r:dL) (os:List dL),ds.length=n/\zCK K ml Z H vs ds/\F ds=some (r,os)∧
 ∀v H',Fr (VE ml vs) H H'->(∀(k i:Nat) (a:Addr) (o:dL),ml[k]? =some i->vs[i]? =some (.ref a)->os[k]? =some o->SF K (Zp Z ml vs) H' a o)->bP K (Zp Z ml vs) H' (Zp Z ml vs) v r->Q v H'
def cV(ml:List Nat)(n:Nat)(ds:List dL):Ev:=ds.mapIdx (fun i d=>if i∈ml then Sl.ow d else Sl.va d)++Bj (n - ds.length) Sl.no
noncomputable def U4(ml:List Nat)(δ:Ev):Option (List dL):=ml.mapM fun(i:Nat)=>match(δ[i]? :Option Sl) with
 |some (Sl.ow d)=>some d
 |_=>none
noncomputable def aW(n:Nat)(ml:List Nat)(g:VS):b7:=fun ds=>(g (cV ml n ds)).bind fun o=>match o with
 | .rt d δ=>(U4 ml δ).map fun os=>(d,os)
 | .nx δ=>(U4 ml δ).map fun os=>(.non,os)
 |_=>none
theorem KB: ∀{ml:List Nat} {δ:Ev} {os:List dL},U4 ml δ=some os-> ∀(k i:Nat) (o:dL),ml[k]? =some i->os[k]? =some o->δ[i]? =some (.ow o)
 |[],_,_,h,k,i,o,e1,e2=>by simp at e1
 | j :: ml,δ,os,h,k,i,o,e1,e2 => by
  unfold U4 at h;rw[Mp] at h;split at h
  ·rename_i d hd
   cases h2:(ml.mapM fun(i:Nat)=>match(δ[i]? :Option Sl) with
    |some (Sl.ow d)=>some d
    |_=>none:Option (List dL)) with
   |none=>rw[h2] at h;cases h
   |some os2=>
    rw[h2] at h;cases h;cases k with
    |zero=>
     cases e1;cases e2;exact hd
    |succ k=>exact KB (ml:=ml) h2 k i o (by simpa using e1) (by simpa using e2)
  ·cases h
theorem E6{N:List Str}{Z:Addr->Prop}{vs:List V}{ds:List dL}(A:zCK K ml Z H vs ds)(hn:ds.length<=N.length):
  ∃mu:Nat->Option Addr,(∀i a,mu i=some a↔i∈ml/\vs[i]? =some (.ref a))/\aR K ml ⟨Z,VE ml vs,H,mu,[]⟩ mu H (start N vs) (cV ml N.length ds):=by
 classical
 let mu:Nat->Option Addr:=fun i=>if i∈ml then(match vs[i]? with
  |some (.ref a)=>some a
  |_=>none) else none
 have hmu: ∀i a,mu i=some a↔i∈ml/\vs[i]? =some (.ref a):=fun i a=>by
  show(if i∈ml then(match vs[i]? with
   |some (.ref a)=>some a
   |_=>none) else none)=some a↔_
  by_cases hi:i∈ml
  ·rw[if_pos hi]
   constructor
   ·intro h
    split at h
    ·rename_i b hb
     cases h;exact⟨hi,hb⟩
    ·cases h
   ·rintro ⟨_,h⟩
    rw[h]
  ·rw[if_neg hi]
   exact⟨(fun h=>nomatch h),fun h=>absurd h.1 hi⟩
 have hN: ∀a,Nn ⟨Z,VE ml vs,H,mu,[]⟩ mu a->Zp Z ml vs a:=fun a h=>by
  rcases h with h|⟨i,h⟩
  ·exact .inl h
  ·exact .inr ⟨i,(hmu i a).mp h⟩
 have dk: ∀(i:Nat) (s:Sl),(cV ml N.length ds)[i]? =some s->(∃d,ds[i]? =some d/\s=if i∈ml then .ow d else .va d)∨s= .no:=fun i s h=>by
  unfold cV at h;by_cases hi:i<ds.length
  ·rw [Af (by simpa using hi),Jx] at h
   cases q:ds[i]? with
   |none=>rw[q] at h;cases h
   |some d=>rw[q] at h;cases h;exact .inl ⟨d,rfl,rfl⟩
  ·rw [As (by simpa using hi),Df] at h
   split at h
   ·cases h;exact .inr rfl
   ·cases h
 have hst: ∀(i:Nat) (v:V),vs[i]? =some v->(start N vs)[i]? =some (some v):=fun i v h=>by
  unfold start;have hi:i<vs.length:=(Ai.mp h).1;rw[Af (by simpa using hi),Dz,h];rfl
 refine⟨mu,hmu,?_,fun i d q=> ?_,fun i d q=> ?_,fun i a q=> ?_,fun i j a q1 q2=> ?_,fun i a q=> ?_,A.zin,Fr.refl _ _,⟨fun i a q=>((hmu i a).mp q).1,fun i _=>rfl⟩,fun a q=> ?_,fun p hp=>nomatch hp⟩
 ·unfold start cV
  have:=A.len;simp;lia
 ·rcases dk i _ q with⟨e,h1,h2⟩|h
  ·by_cases hi:i∈ml
   ·rw[if_pos hi] at h2;cases h2
   ·rw[if_neg hi] at h2
    cases h2;obtain⟨v,e1,r⟩:=A.va i d hi h1;exact⟨v,hst i v e1,r.mono hN hN⟩
  ·cases h
 ·rcases dk i _ q with⟨e,h1,h2⟩|h
  ·by_cases hi:i∈ml
   ·rw[if_pos hi] at h2
    cases h2;obtain⟨a,e1,w,_⟩:=A.ow i d hi h1;exact⟨a,(hmu i a).mpr ⟨hi,e1⟩,hst i _ e1,w.mono hN⟩
   ·rw[if_neg hi] at h2;cases h2
  ·cases h
 ·obtain⟨hi,e1⟩:=(hmu i a).mp q
  have hl:=A.mem i hi;refine⟨ds[i],?_⟩;unfold cV;rw[Af (by simpa using hl),Jx];simp[hl,hi]
 ·exact A.inj i j a ((hmu i a).mp q1).1 ((hmu j a).mp q2).1 ((hmu i a).mp q1).2 ((hmu j a).mp q2).2
 ·obtain⟨hi,e1⟩:=(hmu i a).mp q
  refine⟨fun z=> ?_,.inl ⟨i,hi,e1⟩⟩;obtain⟨a',e2,_,n⟩:=A.ow i (ds[i]'(A.mem i hi)) hi (by simp[A.mem i hi]);rw[e1] at e2;cases e2;exact n z
 ·obtain⟨i,hi,e1⟩:=q
  obtain⟨a',e2,w,n⟩:=A.ow i (ds[i]'(A.mem i hi)) hi (by simp[A.mem i hi]);rw[e1] at e2;cases e2;obtain⟨o,q,_⟩:=w.soft;exact⟨o,q⟩
theorem zCH{N ps:List Str}{vs:List V}{Q:VK}{E:XK}(hps:ps.length<=N.length)(h:spV K ml ps.length (aW N.length ml g) vs H Q E):RE K ml g {nx:=fun _ H'=>Q .non H',rt:=Q} (start N vs) H:=by
 obtain⟨Z,ds,r,os,hn,AV,hF,k⟩:=h;obtain⟨mu,hmu,S0⟩:=E6 (N:=N) AV (by rw[hn];exact hps);unfold aW at hF;obtain⟨o,h1,hF⟩:=Aa.mp hF;refine⟨_,mu,_,o,S0,h1,?_⟩;have fin: ∀(δ':Ev) (v:V) (σ':St) (H':Hp) (O':Nat->Option Addr),U4 ml δ'=some os->aR K ml ⟨Z,VE ml vs,H,mu,[]⟩ O' H' σ' δ'->bP K (rz ⟨Z,VE ml vs,H,mu,[]⟩) H' (rz ⟨Z,VE ml vs,H,mu,[]⟩) v r->Q v H':=fun δ' v σ' H' O' ho S' hr'=>by
  have hz: ∀a,Zp Z ml vs a->rz ⟨Z,VE ml vs,H,mu,[]⟩ a:=fun a h=>by
   rcases h with h|⟨i,hi,e⟩
   ·exact .inl h
   ·exact .inr ⟨i,(hmu i a).mpr ⟨hi,e⟩⟩
  refine k v H' S'.frm (fun kk i a o e1 e2 e3=> ?_) (hr'.mono hz hz);have hd:=KB ho kk i o e1 e3;obtain⟨a',e4,_,w⟩:=S'.ow i o hd;have hi:i∈ml:=Di e1;have:=(S'.par.2 i hi).trans ((hmu i a).mpr ⟨hi,e2⟩);rw[this] at e4;cases e4;refine w.mono fun b hb=> ?_;rcases hb with hb|⟨j,hj,e5⟩
  ·exact .inl hb
  ·exact .inr ⟨j,(S'.par.2 j hj).trans ((hmu j b).mpr ⟨hj,e5⟩)⟩
 cases o with
 |rt d δ'=>
  have hF:(U4 ml δ').map (fun os=>(d,os))=some (r,os):=hF;cases h2:U4 ml δ' with
  |none=>rw[h2] at hF;cases hF
  |some os'=>
   rw[h2] at hF;cases hF;exact fun v σ' H' O' S' hr'=>fin δ' v σ' H' O' h2 S' hr'
 |nx δ'=>
  have hF:(U4 ml δ').map (fun os=>(dL.non,os))=some (r,os):=hF;cases h2:U4 ml δ' with
  |none=>rw[h2] at hF;cases hF
  |some os'=>
   rw[h2] at hF;cases hF;exact fun σ' H' O' S'=>fin δ' .non σ' H' O' h2 S' .non
 |bk δ'=>cases hF
 |ct δ'=>cases hF
theorem X4.okV{P:Bn}{w:World}{mg:Str->Option Value}{base:Heap}{x qual:Str}{st:Stmt}{f:Addr}{fd:Ee}{N ps:List Str}{k:Nat}(F:X4 K x qual st f fd)(S:cS N ps (c9 st))(hps:ps.length<=N.length)
  (bm: ∀(cdv:Value) (A:De) (outer:List Env) (s:Ah) (H:Hp) (E:XK),YH k (A.deeper (Ib qual (c9 st) s.heap.objs.size f cdv))→
   PB (LO CX0 P w K mg base N qual (c9 st) f cdv A outer s H E).nox (aQ st) (RE K ml g)):bC P w K mg base CX0 (k+1) f fd ps (spV K ml ps.length (aW N.length ml g)):=by
 refine F.ok S (fun vs H Q E h=> ?_) (fun cdv A outer s H vs Q E hr h=>⟨_,bm cdv A outer s H E hr,zCH hps h⟩);obtain⟨Z,ds,r,os,hn,AV,_⟩:=h;rw[AV.len,hn]
inductive AV where
 |d (d:dL)|o (j:Nat)
inductive VD(K:An)(N:Addr->Prop)(H:Hp)(σ:St):List V->List AV->Prop
 |nil:VD K N H σ [] []
 |d {v:V} {vs:List V} {d:dL} {as:List AV}:bP K N H N v d->VD K N H σ vs as->VD K N H σ (v::vs) (.d d::as)
 |o {v:V} {vs:List V} {j:Nat} {as:List AV}:σ[j]? =some (some v)->VD K N H σ vs as->VD K N H σ (v::vs) (.o j::as)
abbrev Q7:=Ev->Option (List AV×Ev)
structure ResG(K:An)(ml:List Nat)(B:Bs)(O:Nat->Option Addr)(H:Hp)(σ:St)(pu:Bool)(H':Hp)(δ':Ev)(vs:List V)(as:List AV):Prop where
 sta:aR K ml B O H' σ δ'
 frm:Fr (OA O) H H'
 pur:pu=true->aC H H'
 rep:VD K (Nn B O) H' σ vs as
def TAG(K:An)(ml:List Nat)(pu:Bool)(f:Q7):TA:=fun σ H Q=> ∃B O δ as δ',aR K ml B O H σ δ/\f δ=some (as,δ')/\ ∀vs H',ResG K ml B O H σ pu H' δ' vs as->Q vs H'
def cI:Q7:=fun δ=>some ([],δ)
noncomputable def aE(f:VF)(fs:Q7):Q7:=fun δ=>(f δ).bind fun p=>(fs p.2).map fun q=>(.d p.1::q.1,q.2)
noncomputable def slot(δ:Ev)(j:Nat):Option dL:=match δ[j]? with
 |some (.va d)=>some d
 |some (.ow d)=>some d
 |_=>none
noncomputable def aO(j:Nat)(fs:Q7):Q7:=fun δ=>(slot δ j).bind fun _=>(fs δ).map fun q=>(.o j::q.1,q.2)
theorem c8:PA X [] (TAG K ml true cI):=YV.imp fun σ H Q hq0=>by
 obtain⟨B,O,δ,d,δ',S,q,k⟩:=hq0;cases q;exact k [] H ⟨S,Fr.refl _ _,fun _=>aC.refl _,.nil⟩
theorem dE{fs:Q7}(ha:PE X a (TV K ml pa true true fa))(hr:PA X es (TAG K ml ps fs))(hs:Ag (a::es) X.env=(false,eval a X.env)::Ag es X.env:=by rfl):PA X (a::es) (TAG K ml (pa && ps) (aE fa fs)):=(bR ha hr hs).imp fun σ H Q hq0=>by
 obtain⟨B,O,δ,as,δ2,S,q,k⟩:=hq0;unfold aE at q;obtain⟨⟨x,δ1⟩,h1,q⟩:=Aa.mp q;have q:((fs δ1).map fun q=>(AV.d x::q.1,q.2))=some (as,δ2):=q;obtain⟨p2,h2,q⟩:=Al.mp q;cases q;refine⟨B,O,δ,x,δ1,S,h1,fun v1 H1 R1=>⟨B,O,δ1,_,_,R1.sta,h2,fun vs H2 R2=>k _ H2 ⟨R2.sta,R1.frm.trans R2.frm,fun z=> ?_,.d (R1.rep.fr R2.frm (fun a z=> .inr z) fun a z=> .inr z) R2.rep⟩⟩⟩;obtain⟨z1,z2⟩:=(Ad _ _).mp z;exact(R1.pur z1).trans (R2.pur z2)
theorem NQ{j:Nat}{d:dL}(h:slot δ j=some d):δ[j]? =some (.va d)∨δ[j]? =some (.ow d):=by
 unfold slot at h;split at h
 ·cases h;exact .inl (by assumption)
 ·cases h;exact .inr (by assumption)
 ·cases h
theorem aR.slot(S:aR K ml B O H σ δ){j:Nat}{d:dL}(h:slot δ j=some d): ∃v,σ[j]? =some (some v):=by
 rcases NQ h with h|h
 ·obtain⟨v,e,_⟩:=S.va j d h
  exact⟨v,e⟩
 ·obtain⟨a,_,e,_⟩:=S.ow j d h
  exact⟨_,e⟩
theorem bY{fs:Q7}{j:Nat}(ha:PE X a (U7 j))(hr:PA X es (TAG K ml ps fs))(hs:Ag (a::es) X.env=(false,eval a X.env)::Ag es X.env:=by rfl):PA X (a::es) (TAG K ml ps (aO j fs)):=(bR ha hr hs).imp fun σ H Q hq0=>by
 obtain⟨B,O,δ,as,δ2,S,q,k⟩:=hq0;unfold aO at q;obtain⟨d,h1,q⟩:=Aa.mp q;have q:((fs δ).map fun q=>(AV.o j::q.1,q.2))=some (as,δ2):=q;obtain⟨p2,h2,q⟩:=Al.mp q;cases q;obtain⟨v,e⟩:=S.slot h1;exact⟨v,e,B,O,δ,_,_,S,h2,fun vs H2 R2=>k _ H2 ⟨R2.sta,R2.frm,R2.pur,.o e R2.rep⟩⟩
theorem VD.length: ∀{N:Addr->Prop} {vs:List V} {as:List AV},VD K N H σ vs as->vs.length=as.length
 |_,_,_,.nil=>rfl
 |_,_,_,.d _ t=>congrArg (· +1) (VD.length t)
 |_,_,_,.o _ t=>congrArg (· +1) (VD.length t)
theorem VD.getD: ∀{N:Addr->Prop} {vs:List V} {as:List AV} {i:Nat} {d:dL},VD K N H σ vs as->as[i]? =some (.d d)-> ∃v,vs[i]? =some v/\bP K N H N v d
 |_,_,_,_,_,.nil,e=>by simp at e
 |_,_,_,0,_,.d h _,e=>by simp at e;subst e;exact⟨_,rfl,h⟩
 |_,_,_,0,_,.o h _,e=>by simp at e
 |_,_,_,i+1,_,.d _ t,e=>by
  obtain⟨u,h1,h2⟩:=VD.getD (i:=i) t (by simpa using e);exact⟨u,by simpa using h1,h2⟩
 |_,_,_,i+1,_,.o _ t,e=>by
  obtain⟨u,h1,h2⟩:=VD.getD (i:=i) t (by simpa using e);exact⟨u,by simpa using h1,h2⟩
theorem VD.getO: ∀{N:Addr->Prop} {vs:List V} {as:List AV} {i j:Nat},VD K N H σ vs as->as[i]? =some (.o j)-> ∃v,vs[i]? =some v/\σ[j]? =some (some v)
 |_,_,_,_,_,.nil,e=>by simp at e
 |_,_,_,0,_,.d h _,e=>by simp at e
 |_,_,_,0,_,.o h _,e=>by simp at e;subst e;exact⟨_,rfl,h⟩
 |_,_,_,i+1,_,.d _ t,e=>by
  obtain⟨u,h1,h2⟩:=VD.getO (i:=i) t (by simpa using e);exact⟨u,by simpa using h1,h2⟩
 |_,_,_,i+1,_,.o _ t,e=>by
  obtain⟨u,h1,h2⟩:=VD.getO (i:=i) t (by simpa using e);exact⟨u,by simpa using h1,h2⟩
def argD(δ:Ev):AV->Option dL
 | .d d=>some d
 | .o j=>slot δ j
noncomputable def WS(δ:Ev):List AV->Option (List dL)
 |[]=>some []
 |a::as=>(argD δ a).bind fun d=>(WS δ as).map fun ds=>d::ds
theorem MT: ∀{as:List AV} {ds:List dL},WS δ as=some ds->as.length=ds.length/\ ∀(i:Nat) (d:dL),ds[i]? =some d-> ∃a,as[i]? =some a/\argD δ a=some d
 |[],ds,h=>by cases h;exact⟨rfl,fun i d e=>by simp at e⟩
 | a :: as,ds,h => by
  unfold WS at h;obtain⟨d,h1,h⟩:=Aa.mp h;cases h2:WS δ as with
  |none=>simp[h2] at h
  |some ds'=>
   simp only[Ap,h2] at h;cases h;obtain⟨l,g⟩:=MT h2;refine⟨by simp[l],fun i e he=> ?_⟩;cases i with
   |zero=>cases he;exact⟨a,rfl,h1⟩
   |succ i=>
    obtain⟨b,e1,e2⟩:=g i e (by simpa using he);exact⟨b,by simpa using e1,e2⟩
noncomputable def VH:List AV->List Nat
 |[]=>[]
 | .d _::as=>VH as
 | .o j::as=>j::VH as
theorem QU: ∀{as:List AV} {i j:Nat},as[i]? =some (.o j)->j∈VH as
 |[],_,_,e=>by simp at e
 | .d _::as,0,j,e=>by simp at e
 | .o k::as,0,j,e=>by simp at e;subst e;exact Ax
 | .d _::as,i+1,j,e=>QU (as:=as) (i:=i) (by simpa using e)
 | .o k::as,i+1,j,e=>Am _ (QU (as:=as) (i:=i) (by simpa using e))
theorem FZ: ∀{as:List AV} {j:Nat},j∈VH as-> ∃i:Nat,as[i]? =some (AV.o j)
 |[],_,h=>nomatch h
 | .d _::as,j,h=>by
  obtain⟨i,e⟩:=FZ (as:=as) h;exact⟨i+1,by simpa using e⟩
 | .o k :: as,j,h => by
  rcases Aj.mp h with e|e
  ·exact⟨0,by rw[e];rfl⟩
  ·obtain⟨i,e⟩:=FZ (as:=as) e
   exact⟨i+1,by simpa using e⟩
theorem LZ: ∀{as:List AV} {i k j:Nat},(VH as).Nodup->as[i]? =some (.o j)->as[k]? =some (.o j)->i=k
 |[],_,_,_,_,e,_=>by simp at e
 | .d _::as,0,_,j,_,e,_=>by simp at e
 | .d _::as,_+1,0,j,_,_,e=>by simp at e
 | .d _::as,i+1,k+1,j,n,e1,e2=>congrArg (· +1) (LZ (as:=as) n (by simpa using e1) (by simpa using e2))
 | .o x::as,0,0,j,_,_,_=>rfl
 | .o x::as,0,k+1,j,n,e1,e2=>by
  simp at e1;subst e1;have h:as[k]? =some (.o x):=by simpa using e2
  exact absurd (QU h) (Cb.mp n).1
 | .o x::as,i+1,0,j,n,e1,e2=>by
  simp at e2;subst e2;have h:as[i]? =some (.o x):=by simpa using e1
  exact absurd (QU h) (Cb.mp n).1
 | .o x::as,i+1,k+1,j,n,e1,e2=>congrArg (· +1) (LZ (as:=as) (Cb.mp n).2 (by simpa using e1) (by simpa using e2))
noncomputable def F6(δ:Ev)(as:List AV)(i:Nat):Bool:=match as[i]? with
 |some (.o j)=>match δ[j]? with
  |some (.ow _)=>true
  |_=>false
 |_=>false
noncomputable def W3(mF:List Nat):List AV->Nat->Bool
 |[],_=>true
 | .d _::as,i=>W3 mF as (i+1)
 | .o _::as,i=>decide (i∈mF) && W3 mF as (i+1)
theorem T5{mF:List Nat}: ∀{as:List AV} {k i j:Nat},W3 mF as k=true->as[i]? =some (.o j)->k+i∈mF
 |[],_,_,_,_,e=>by simp at e
 | .d _::as,k,0,j,h,e=>by simp at e
 | .o _::as,k,0,j,h,e=>by
  simp only[W3,Ad,decide_eq_true_eq] at h;exact h.1
 | .d _::as,k,i+1,j,h,e=>by
  have:=T5 (as:=as) (k:=k+1) (i:=i) (j:=j) h (by simpa using e);rwa[show k+(i+1)=k+1+i by lia]
 | .o _::as,k,i+1,j,h,e=>by
  simp only[W3,Ad] at h;have:=T5 (as:=as) (k:=k+1) (i:=i) (j:=j) h.2 (by simpa using e);rwa[show k+(i+1)=k+1+i by lia]
def RT:dL->Bool
 | .lst ds=>TJ ds
 | .dct _ ds=>TJ ds
 | .dcn _ ds=>TJ ds
 |_=>false
theorem SF.kids{N N':Addr->Prop}{a:Addr}(w:SF K N H a d)(h:RT d=true):SF K N' H a d:=by
 cases w with
 |lst q r=>exact .lst q (r.hard h)
 |dct q r=>exact .dct q (r.hard h)
 |dcn q r=>exact .dcn q (r.hard h)
noncomputable def WF(as:List AV):List Nat->List dL->Ev->Ev
 |i::is,o::os,δ=>match as[i]? with
  |some (.o j)=>WF as is os (δ.set j (.ow o))
  |_=>WF as is os δ
 |_,_,δ=>δ
theorem RZ{as:List AV}: ∀{is:List Nat} {os:List dL} {δ:Ev},(WF as is os δ).length=δ.length
 |[],_,_=>rfl
 |_::_,[],_=>rfl
 |i::is,o::os,δ=>by
  unfold WF;split
  ·rw[RZ,Ce]
  ·rw[RZ]
theorem OV{as:List AV}: ∀{is:List Nat} {os:List dL} {δ:Ev} (j:Nat),is.length=os.length->j<δ.length→
  (∃(k i:Nat) (o:dL),is[k]? =some i/\os[k]? =some o/\as[i]? =some (AV.o j)/\(WF as is os δ)[j]? =some (Sl.ow o))∨((∀i∈is,as[i]? ≠some (AV.o j))/\(WF as is os δ)[j]? =δ[j]?)
 |[],[],δ,j,_,_=> .inr ⟨(fun i h=>nomatch h),rfl⟩
 | i :: is,o :: os,δ,j,hl,hj => by
  unfold WF;split
  ·rename_i j0 e0
   rcases OV (is:=is) (os:=os) (δ:=δ.set j0 (.ow o)) j (by simpa using hl) (by rw[Ce];exact hj) with⟨k,i',o',h1,h2,h3,h4⟩|⟨h1,h2⟩
   ·exact .inl ⟨k+1,i',o',by simpa using h1,by simpa using h2,h3,h4⟩
   ·by_cases hjj:j=j0
    ·subst hjj
     rw[Ci hj] at h2;exact .inl ⟨0,i,o,rfl,rfl,e0,h2⟩
    ·rw[Bv (Cq hjj)] at h2
     refine .inr ⟨fun i' hi'=> ?_,h2⟩;rcases Aj.mp hi' with z|z
     ·rw[z,e0]
      intro w;cases w;exact hjj rfl
     ·exact h1 i' z
  ·rename_i hn
   rcases OV (is:=is) (os:=os) (δ:=δ) j (by simpa using hl) hj with⟨k,i',o',h1,h2,h3,h4⟩|⟨h1,h2⟩
   ·exact .inl ⟨k+1,i',o',by simpa using h1,by simpa using h2,h3,h4⟩
   ·refine .inr ⟨fun i' hi' => ?_,h2⟩
    rcases Aj.mp hi' with z|z
    ·rw[z]
     exact fun w=>hn j w
    ·exact h1 i' z
def VV(mF:List Nat)(as:List AV)(δ:Ev):Bool:=mF.all (F6 δ as) && decide (VH as).Nodup
noncomputable def WK(mF:List Nat)(as:List AV)(r:dL)(os:List dL):Bool:=(W3 mF as 0 || r.hard) && (W3 mF as 0 || os.all RT) && decide (mF.length=os.length)
noncomputable def cZ(n:Nat)(mF:List Nat)(F:b7)(fs:Q7):VF:=fun δ=>(fs δ).bind fun p=>(WS p.2 p.1).bind fun ds=>if ds.length=n/\VV mF p.1 p.2=true then(F ds).bind fun q=>if WK mF p.1 q.1 q.2=true then some (q.1,WF p.1 mF q.2 p.2) else none else none
theorem PX{n:Nat}{mF:List Nat}{F:b7}{fs:Q7}{Q:VK}(h:TV K ml (ps && mF.isEmpty) true true (cZ n mF F fs) σ H Q):CW (spV K mF n F) [] E0 (TAG K ml ps fs) σ H Q:=by
 obtain⟨B,O,δ,d,δ2,S,q,k⟩:=h;unfold cZ at q;obtain⟨⟨as,δ1⟩,h1,q⟩:=Aa.mp q;have q:((WS δ1 as).bind fun ds=>if ds.length=n/\VV mF as δ1=true then(F ds).bind fun q=>if WK mF as q.1 q.2=true then some (q.1,WF as mF q.2 δ1) else none else none)=some (d,δ2):=q;obtain⟨ds,h2,q⟩:=Aa.mp q;have q:(if ds.length=n/\VV mF as δ1=true then(F ds).bind fun q=>if WK mF as q.1 q.2=true then some (q.1,WF as mF q.2 δ1) else none else none)=some (d,δ2):=q;split at q
 ·rename_i hc
  obtain⟨⟨r,os⟩,h3,q⟩:=Aa.mp q;have q:(if WK mF as r os=true then some (r,WF as mF os δ1) else none)=some (d,δ2):=q;split at q
  ·rename_i hb
   cases q;obtain⟨hn,hc⟩:=hc;simp only[VV,Ad,decide_eq_true_eq,Gz] at hc;simp only[WK,Ad,decide_eq_true_eq] at hb;obtain⟨hmu,hnd⟩:=hc;obtain⟨⟨mr,ng⟩,am⟩:=hb;refine⟨B,O,δ,as,δ1,S,h1,fun vs H1 R=> ?_⟩;show spV K mF n F (vs++[]) H1 Q E0;rw[Ca];obtain⟨hal,hag⟩:=MT h2;have hm: ∀i∈mF,∃j a x,as[i]? =some (.o j)/\δ1[j]? =some (.ow x)/\O j=some a/\vs[i]? =some (.ref a)/\SF K (Nn B O) H1 a x:=fun i hi=>by
    have:=hmu i hi;unfold F6 at this;split at this
    ·rename_i j ej
     split at this
     ·rename_i x ex
      obtain⟨a,e1,e2,w⟩:=R.sta.ow j x ex;obtain⟨v,e3,e4⟩:=R.rep.getO ej;rw[e2] at e4;cases e4;exact⟨j,a,x,ej,ex,e1,e3,w⟩
     ·cases this
    ·cases this
   have hP: ∀a,VE mF vs a-> ∃i j,i∈mF/\as[i]? =some (.o j)/\O j=some a:=fun a q0=>by
    obtain⟨i,hi,e⟩:=q0;obtain⟨j,a',x,e1,_,e2,e3,_⟩:=hm i hi;rw[e] at e3;cases e3;exact⟨i,j,hi,e1,e2⟩
   have hPO: ∀a,VE mF vs a->OA O a:=fun a h=>by
    obtain⟨i,j,_,_,e⟩:=hP a h;exact⟨j,e⟩
   have hZp: ∀a,Zp (fun a=>Nn B O a/\ ∀j∈VH as,O j≠some a) mF vs a->Nn B O a:=fun a h=>by
    rcases h with h|h
    ·exact h.1
    ·exact .inr (hPO a h)
   refine⟨fun a=>Nn B O a/\ ∀j∈VH as,O j≠some a,ds,_,os,hn,⟨by rw[<- hal,R.rep.length],fun i hi=> ?_,fun i x hi e=> ?_,fun i x hi e=> ?_,fun i j a hi hj e1 e2=> ?_,fun a h=>R.sta.nin h.1⟩,h3,fun v H2 f2 w2 r2=> ?_⟩
   ·obtain⟨j,a,x,e1,_⟩:=hm i hi
    rw[<- hal];exact(Ai.mp e1).1
   ·obtain⟨a,e1,e2⟩:=hag i x e
    cases a with
    |d y=>
     cases e2;obtain⟨v,e3,r⟩:=R.rep.getD e1;exact⟨v,e3,r.mono hZp hZp⟩
    |o j=>
     obtain⟨v,e3,e4⟩:=R.rep.getO e1;refine⟨v,e3,?_⟩;rcases NQ e2 with e5|e5
     ·obtain⟨v',e6,r⟩:=R.sta.va j x e5
      rw[e4] at e6;cases e6;exact r.mono hZp hZp
     ·obtain⟨a,e7,e6,w⟩:=R.sta.ow j x e5
      rw[e4] at e6;cases e6;refine(w.mono hZp).rep fun z=> ?_;rcases z with z|z
      ·exact z.2 j (QU e1) e7
      ·obtain⟨i',j',hi',e8,e9⟩:=hP a z
       have:j=j':=R.sta.inj j j' a e7 e9;subst this;have:=LZ hnd e1 e8;subst this;exact hi hi'
   ·obtain⟨a,e1,e2⟩:=hag i x e
    obtain⟨j,b,y,e3,e4,e5,e6,w⟩:=hm i hi;rw[e3] at e1;cases e1;have e7:slot δ1 j=some y:=by unfold slot;rw[e4]
    have e2:slot δ1 j=some x:=e2;rw[e7] at e2;cases e2;exact⟨b,e6,w.mono hZp,fun z=>z.2 j (QU e3) e5⟩
   ·obtain⟨j1,b1,_,e3,_,e4,e5,_⟩:=hm i hi
    obtain⟨j2,b2,_,e6,_,e7,e8,_⟩:=hm j hj;rw[e1] at e5;cases e5;rw[e2] at e8;cases e8;have:j1=j2:=R.sta.inj j1 j2 a e4 e7;subst this;exact LZ hnd e3 e6
   ·have S2:aR K ml B O H2 σ (WF as mF os δ1):=by
     refine R.sta.call RZ (fun j=> ?_) f2 hPO;by_cases hj:j<δ1.length
     ·rcases OV (as:=as) (is:=mF) (os:=os) (δ:=δ1) j am hj with⟨kk,i,o,e1,e2,e3,e4⟩|⟨e1,e2⟩
      ·obtain⟨j',a,x,e5,_,e6,e7,_⟩:=hm i (Di e1)
       rw[e3] at e5;cases e5;have w:=w2 kk i a o e1 e7 e2;refine .inr ⟨a,o,e6,e4,?_⟩;rcases(Hk _ _).mp ng with z|z
       ·refine w.mono fun b hb => ?_
        by_cases hjs: ∃j'∈VH as,O j'=some b
        ·obtain⟨j',hj',e8⟩:=hjs
         obtain⟨i',e9⟩:=FZ hj';have hi':=T5 z e9;rw[Ll] at hi';obtain⟨j'',a'',_,e10,_,e11,e12,_⟩:=hm i' hi';rw[e9] at e10;cases e10;rw[e8] at e11;cases e11;exact .inr ⟨i',hi',e12⟩
        ·exact .inl ⟨hb,fun j' hj' e=>hjs ⟨j',hj',e⟩⟩
       ·exact w.kids (Gz.mp z o (Di e2))
      ·refine .inl ⟨e2,fun a ea hPa => ?_⟩
       obtain⟨i,j',hi,e3,e4⟩:=hP a hPa;have:j=j':=R.sta.inj j j' a ea e4;subst this;exact e1 i hi e3
     ·refine .inl ⟨?_,fun a ea => ?_⟩
      ·rw[Dc (by rw[RZ];lia),Dc (by lia)]
      ·obtain⟨x,ex⟩:=R.sta.dom j a ea
       exact absurd (Ai.mp ex).1 hj
    refine k v H2 ⟨S2,R.frm.trans (f2.mono hPO),fun z=> ?_,?_⟩
    ·obtain⟨z1,z2⟩:=(Ad _ _).mp z
     refine(R.pur z1).trans fun b o e=>f2 b o e fun w=> ?_;obtain⟨i,hi,_⟩:=w;rw[List.isEmpty_iff.mp z2] at hi;cases hi
    ·rcases(Hk _ _).mp mr with z|z
     ·have hN : ∀ a,Nn B O a -> Zp (fun a => Nn B O a /\ ∀ j ∈ VH as,O j ≠ some a) mF vs a := fun b hb => by
       by_cases hjs: ∃j'∈VH as,O j'=some b
       ·obtain⟨j',hj',e8⟩:=hjs
        obtain⟨i',e9⟩:=FZ hj';have hi':=T5 z e9;rw[Ll] at hi';obtain⟨j'',a'',_,e10,_,e11,e12,_⟩:=hm i' hi';rw[e9] at e10;cases e10;rw[e8] at e11;cases e11;exact .inr ⟨i',hi',e12⟩
       ·exact .inl ⟨hb,fun j' hj' e=>hjs ⟨j',hj',e⟩⟩
      exact r2.mono hN hN
     ·exact r2.hard z
  ·cases q
 ·cases q
theorem zA5{x:Str}{kk j n:Nat}{qs:List Str}{mF:List Nat}{F:b7}{ff:Addr}{p':Pos}{fs:Q7}(hK:X.K=K)(D:Def X.prog X.w K X.mg X.base x kk qs (spV K mF n F) ff)(hr:YH j X.A)(hk:kk<=j)(hg:Gl X x)(ha:PA X (e::es) (TAG K ml ps fs))(hdb:(x==("__debug__":Str))=false:=by decide)
  (he:Ag (e::es) X.env=(false,eval e X.env)::Ag es X.env:=by rfl) (hpl:(Er pos (Ag es X.env)).any (·.1)=false:=by rfl):
  PE X (.Call (.Name x p') (e::es) [] pos) (TV K ml (ps && mF.isEmpty) true true (cZ n mF F fs)):=by
 subst hK;exact(KH D hr hk hg ha hdb he hpl).imp fun _ _ _ h=>PX h
end
section
variable{X:Cx}{K:An}{ml:List Nat}{e a b c:Expr}{es:List Expr}{pi pt pe pu bt bi ps bs:Bool}{f:VF}{B B':Bs}{O:Nat->Option Addr}{H H0 H1 H':Hp}{σ:St}{δ δ':Ev}{v:V}{d:dL}{p:Addr}{pos:Pos}{ix:List Nat}{nl:Nat}
def bM(ix:List Nat)(δ:Ev):Ev:=ix.map fun i=>(δ[i]?).getD .no
def IQ(nl:Nat):Ev:=Bj nl Sl.no
noncomputable def ZZ(n nl:Nat)(gg:VG)(tb:VB)(fe:VF):List dL->List dL->Ev->Option (List dL×Ev)
 |[],acc,δ=>some (acc,δ)
 |d::r,acc,δ=>(gg d (δ++IQ nl)).bind fun δ1=>(tb δ1).bind fun p=>if p.1=true then(fe p.2).bind fun q=>if acc.length<16777216 then ZZ n nl gg tb fe r (acc++[q.1]) (q.2.take n) else none else ZZ n nl gg tb fe r acc (p.2.take n)
noncomputable def YZ:List Nat->Ev->Ev->Ev
 |i::is,s::ss,δ=>match s with
  | .ow d=>YZ is ss (δ.set i (.ow d))
  |_=>YZ is ss δ
 |_,_,δ=>δ
noncomputable def ZI(ix:List Nat)(nl:Nat)(fi:VI)(gg:VG)(tb:VB)(fe:VF):VF:=fun δ=>(fi δ).bind fun p=>(ZZ ix.length nl gg tb fe p.1 [] (bM ix p.2)).map fun q=>(.lst q.1,YZ ix q.2 p.2)
def X5:VB:=fun δ=>some (true,δ)
theorem QN: ∀{ix:List Nat} {ss δ:Ev},(YZ ix ss δ).length=δ.length
 |[],_,_=>rfl
 |_::_,[],_=>rfl
 |i::is,s::ss,δ=>by
  cases s<;>simp only[YZ]<;>rw[QN]<;>try rw[Ce]
theorem T7: ∀{ix:List Nat} {ss δ:Ev} (i:Nat),i<δ.length->ix.length=ss.length→
  (∃(j:Nat) (d:dL),ix[j]? =some i/\ss[j]? =some (Sl.ow d)/\(YZ ix ss δ)[i]? =some (Sl.ow d))∨((∀(j:Nat) (d:dL),ix[j]? =some i->ss[j]? ≠some (Sl.ow d))/\(YZ ix ss δ)[i]? =δ[i]?)
 |[],ss,δ,i,hi,hl=> .inr ⟨(fun j d h=>by simp at h),rfl⟩
 |k::is,[],δ,i,hi,hl=>by cases hl
 | k :: is,s :: ss,δ,i,hi,hl => by
  have hl2:is.length=ss.length:=by simpa using hl
  cases s with
  |ow d=>
   simp only[YZ];rcases T7 (ix:=is) (ss:=ss) (δ:=δ.set k (.ow d)) i (by rw[Ce];exact hi) hl2 with⟨j,d',h1,h2,h3⟩|⟨h1,h2⟩
   ·exact .inl ⟨j+1,d',by simpa using h1,by simpa using h2,h3⟩
   ·by_cases hk:i=k
    ·subst hk
     rw[Ci hi] at h2;exact .inl ⟨0,d,rfl,rfl,h2⟩
    ·rw[Bv (Cq hk)] at h2
     refine .inr ⟨fun j d' e=> ?_,h2⟩;cases j with
     |zero=>cases e;exact absurd rfl hk
     |succ j=>simpa using h1 j d' (by simpa using e)
  |va d=>
   simp only[YZ];rcases T7 (ix:=is) (ss:=ss) (δ:=δ) i hi hl2 with⟨j,d',h1,h2,h3⟩|⟨h1,h2⟩
   ·exact .inl ⟨j+1,d',by simpa using h1,by simpa using h2,h3⟩
   ·refine .inr ⟨fun j d' e => ?_,h2⟩
    cases j with
    |zero=>simp
    |succ j=>simpa using h1 j d' (by simpa using e)
  |no=>
   simp only[YZ];rcases T7 (ix:=is) (ss:=ss) (δ:=δ) i hi hl2 with⟨j,d',h1,h2,h3⟩|⟨h1,h2⟩
   ·exact .inl ⟨j+1,d',by simpa using h1,by simpa using h2,h3⟩
   ·refine .inr ⟨fun j d' e => ?_,h2⟩
    cases j with
    |zero=>simp
    |succ j=>simpa using h1 j d' (by simpa using e)
def Oc(ix:List Nat)(O:Nat->Option Addr):Nat->Option Addr:=fun j=>(ix[j]?).bind O
def Bc(ix:List Nat)(B:Bs)(O:Nat->Option Addr)(H0:Hp)(D:Addr)(kp:List (V×dL)):Bs:=
 ⟨fun a=>(B.Z a∨a=D)∨ ∃i,O i=some a/\i∉ix,OA (Oc ix O),H0,Oc ix O,kp⟩
theorem OO{D:Addr}{kp:List (V×dL)}: ∀a,Nn (Bc ix B O H0 D kp) (Oc ix O) a->Nn B O a∨a=D:=fun a h=>by
 rcases h with((h|h)|⟨i,h,_⟩)|⟨j,h⟩
 ·exact .inl (.inl h)
 ·exact .inr h
 ·exact .inl (.inr ⟨i,h⟩)
 ·unfold Oc at h
  cases q:ix[j]? with
  |none=>rw[q] at h;cases h
  |some i=>rw[q] at h;exact .inl (.inr ⟨i,h⟩)
theorem HW{D:Addr}{kp:List (V×dL)}: ∀a,Nn (B.add D) O a->Nn (Bc ix B O H0 D kp) (Oc ix O) a:=fun a h=>by
 rcases h with h|⟨i,h⟩
 ·exact .inl (.inl h)
 ·by_cases hi:i∈ix
  ·obtain⟨j,hj⟩:=Jn.mp hi
   exact .inr ⟨j,by unfold Oc;rw[hj];exact h⟩
  ·exact .inl (.inr ⟨i,h,hi⟩)
theorem aR.withKp{kp:List (V×dL)}(S:aR K ml B O H σ δ)(h: ∀p∈kp,bP K (Nn B O) H (Nn B O) p.1 p.2):aR K ml {B with kp:=kp} O H σ δ:=
 ⟨S.len,S.va,S.ow,S.dom,S.inj,S.old,S.zin,S.frm,S.par,S.pin,h⟩
theorem aR.writeZ{D:Addr}{o:HO}{acc:List V}(S:aR K ml B O H σ δ)(hD:B.Z D)(hl:H D=some (.lst acc))(h0:B.H0 D=none):aR K ml B O (aS H D o) σ δ:=by
 have hf:Fr (fun b=>b=D) H (aS H D o):=fun b u q n=>by
  by_cases hb:b=D
  ·subst hb
   rw[hl] at q;cases q;exact absurd (n rfl) fun z=>z
  ·rw[bN hb]
   exact q
 have hN: ∀b,b=D->Nn B O b:=fun b z=> .inl (z▸hD);have hin: ∀b,(∃u,H b=some u)-> ∃u,aS H D o b=some u:=fun b q0=>by
  obtain⟨u,q⟩:=q0;by_cases hb:b=D
  ·exact⟨o,by rw[hb];exact cG⟩
  ·exact⟨u,by rw[bN hb];exact q⟩
 refine⟨S.len,fun i d q=> ?_,fun i d q=> ?_,S.dom,S.inj,S.old,fun b h=>hin b (S.zin b h),fun b u q n=> ?_,S.par,fun b h=>hin b (S.pin b h),fun p hp=>(S.kep p hp).fr hf hN hN⟩
 ·obtain⟨v,e,r⟩:=S.va i d q
  exact⟨v,e,r.fr hf hN hN⟩
 ·obtain⟨a,e,e2,w⟩:=S.ow i d q
  exact⟨a,e,e2,w.fr hf hN fun z=>(S.old i a e).1 (z▸hD)⟩
 ·have hb : b ≠ D := fun z => by rw [z,h0] at q;cases q
  rw[bN hb];exact S.frm b u q n
theorem MZ{j:Nat}{s:Sl}(h:(bM ix δ++IQ nl)[j]? =some s):(∃i,ix[j]? =some i/\s=(δ[i]?).getD .no)∨s= .no:=by
 unfold bM IQ at h;by_cases hj:j<ix.length
 ·rw [Af (by simpa using hj),Dz] at h
  cases q:ix[j]? with
  |none=>rw[q] at h;cases h
  |some i=>rw[q] at h;cases h;exact .inl ⟨i,rfl,rfl⟩
 ·rw [As (by simpa using hj),Df] at h
  split at h
  ·cases h;exact .inr rfl
  ·cases h
theorem JH{i j:Nat}{v:V}(hi:ix[j]? =some i)(h:σ[i]? =some (some v)):(YI ix σ++Bj nl none)[j]? =some (some v):=by
 have hj:j<ix.length:=(Ai.mp hi).1;unfold YI;rw[Af (by simpa using hj),Dz,hi];show some ((σ[i]?).join)=_;rw[h];rfl
theorem aR.inner{D:Addr}(S:aR K ml B O H0 σ δ)(hD:H0 D=none)(hnd:ix.Nodup){kps:List (V×dL)}(hk: ∀p∈kps,bP K (Nn B O) H0 (Nn B O) p.1 p.2):
  aR K (Bt ix.length) (Bc ix B O H0 D kps) (Oc ix O) (aS H0 D (.lst [])) (YI ix σ++Bj nl none) (bM ix δ++IQ nl) where
 len:=by simp[YI,bM,IQ]
 va := fun j d e => by
  rcases MZ e with⟨i,hi,q⟩|q
  ·have q:δ[i]? =some (.va d):=by
    cases w:δ[i]? with
    |none=>rw[w] at q;cases q
    |some s=>rw[w] at q;rw[show s= .va d from q.symm]
   obtain⟨v,e1,r⟩:=S.va i d q;exact⟨v,JH hi e1,(r.away hD _ _ OO OO).same (dD hD)⟩
  ·cases q
 ow := fun j d e => by
  rcases MZ e with⟨i,hi,q⟩|q
  ·have q:δ[i]? =some (.ow d):=by
    cases w:δ[i]? with
    |none=>rw[w] at q;cases q
    |some s=>rw[w] at q;rw[show s= .ow d from q.symm]
   obtain⟨a,e1,e2,w⟩:=S.ow i d q;refine⟨a,by unfold Oc;rw[hi];exact e1,JH hi e2,?_⟩;cases w with
   |lst q' r=>exact .lst (dD hD _ _ q') ((r.away hD _ _ OO).same (dD hD))
   |dct q' r=>exact .dct (dD hD _ _ q') ((r.away hD _ _ OO).same (dD hD))
   |dcn q' r=>exact .dcn (dD hD _ _ q') ((r.away hD _ _ OO).same (dD hD))
  ·cases q
 dom:=fun j a e=>by
  unfold Oc at e;obtain⟨i,hi,e⟩:=Aa.mp e;obtain⟨d,q⟩:=S.dom i a e;refine⟨d,?_⟩;have hj:j<ix.length:=(Ai.mp hi).1;unfold bM;rw[Af (by simpa using hj),Dz,hi];show some ((δ[i]?).getD .no)=_;rw[q];rfl
 inj:=fun j k a e1 e2=>by
  unfold Oc at e1 e2;cases hi:ix[j]? with
  |none=>rw[hi] at e1;cases e1
  |some i=>
   cases hk:ix[k]? with
   |none=>rw[hk] at e2;cases e2
   |some i'=>
    rw[hi] at e1;rw[hk] at e2;have:i=i':=S.inj i i' a e1 e2;subst this;obtain⟨l1,q1⟩:=Ai.mp hi;obtain⟨l2,q2⟩:=Ai.mp hk;exact(Lm hnd).mp (q1.trans q2.symm)
 old:=fun j a e=>by
  have e':=e;unfold Oc at e';cases hi:ix[j]? with
  |none=>rw[hi] at e';cases e'
  |some i=>
   rw[hi] at e';refine⟨fun z=> ?_,.inl ⟨j,e⟩⟩;rcases z with(z|z)|⟨i',z,n⟩
   ·exact(S.old i a e').1 z
   ·obtain⟨o,q⟩:=S.nin (.inr ⟨i,e'⟩)
    rw[z,hD] at q;cases q
   ·have:i=i':=S.inj i i' a e' z
    subst this;exact n (Di hi)
 zin:=fun a h=>by
  rcases h with(h|h)|⟨i,h,_⟩
  ·obtain⟨o,q⟩:=S.zin a h
   exact⟨o,dD hD _ _ q⟩
  ·exact⟨_,by rw[h];exact cG⟩
  ·obtain⟨o,q⟩:=S.nin (.inr ⟨i,h⟩)
   exact⟨o,dD hD _ _ q⟩
 frm:=(dD hD).fr
 par:=⟨fun j a e=>by
  have e:(ix[j]?).bind O=some a:=e;cases hi:ix[j]? with
  |none=>rw[hi] at e;cases e
  |some i=>exact Ct.mpr (Ai.mp hi).1,fun j _=>rfl⟩
 pin:=fun a q0=>by
  obtain⟨j,e⟩:=q0;unfold Oc at e;obtain⟨i,hi,e⟩:=Aa.mp e;obtain⟨o,q⟩:=S.nin (.inr ⟨i,e⟩);exact⟨o,dD hD _ _ q⟩
 kep:=fun p hp=>((hk p hp).away hD _ _ OO OO).same (dD hD)
theorem aR.turn{O':Nat->Option Addr}{σ':St}{n:Nat}{m:St}(S:aR K (Bt n) B O' H σ' δ)(hmu: ∀j,n<=j->B.mu j=none)(hm:m.length=n)(hσ:σ'.take n=m)(hn:n<=δ.length):aR K (Bt n) B B.mu H (m++Bj nl none) (δ.take n++IQ nl):=by
 have hO: ∀j,j<n->O' j=B.mu j:=fun j hj=>S.par.2 j (Ct.mpr hj);have hle: ∀j a,B.mu j=some a->O' j=some a:=fun j a e=>by rw[hO j (Ct.mp (S.par.1 j a e))];exact e
 have hN: ∀a,Nn B B.mu a->Nn B O' a:=fun a h=>by
  rcases h with h|⟨j,h⟩
  ·exact .inl h
  ·exact .inr ⟨j,hle j a h⟩
 have hg: ∀(j:Nat) (s:Sl),(δ.take n++IQ nl)[j]? =some s->(j<n/\δ[j]? =some s)∨s= .no:=fun j s h=>by
  have hl:(δ.take n).length=n:=by rw[Dj];lia
  by_cases hj:j<n
  ·rw [Af (by rw [hl];exact hj),Cn hj] at h
   exact .inl ⟨hj,h⟩
  ·unfold IQ at h
   rw[As (by rw[hl];lia),Df] at h;split at h
   ·cases h;exact .inr rfl
   ·cases h
 have hs: ∀(j:Nat) (v:V),j<n->σ'[j]? =some (some v)->(m++Bj nl none)[j]? =some (some v):=fun j v hj e=>by
  rw[Af (by rw[hm];exact hj),<- hσ,Cn hj];exact e
 refine⟨?_,fun j d e=> ?_,fun j d e=> ?_,fun j a e=> ?_,fun j k a e1 e2=>S.inj j k a (hle j a e1) (hle k a e2),fun j a e=>S.old j a (hle j a e),S.zin,S.frm,⟨S.par.1,fun j _=>rfl⟩,S.pin,fun p hp=>(S.kep p hp).mono hN hN⟩
 ·simp[hm,IQ,Dj]
  lia
 ·rcases hg j _ e with⟨hj,e⟩|e
  ·obtain⟨v,e1,r⟩:=S.va j d e
   exact⟨v,hs j v hj e1,r.mono hN hN⟩
  ·cases e
 ·rcases hg j _ e with⟨hj,e⟩|e
  ·obtain⟨a,e1,e2,w⟩:=S.ow j d e
   exact⟨a,(hO j hj)▸e1,hs j _ hj e2,w.mono hN⟩
  ·cases e
 ·have hj:=Ct.mp (S.par.1 j a e)
  obtain⟨d,q⟩:=S.dom j a (hle j a e);refine⟨d,?_⟩;rw[Af (by rw[Dj];lia),Cn hj];exact q
theorem UW(ix:List Nat)(σ:St):(YI ix σ).length=ix.length:=by simp[YI]
theorem FA{σ':St}(hl:ix.length<=σ'.length)(h: ∀i∈Bt ix.length,σ'[i]? =(YI ix σ++Bj nl none)[i]?):σ'.take ix.length=YI ix σ:=by
 refine List.ext_getElem? fun j=> ?_;by_cases hj:j<ix.length
 ·rw[Cn hj,h j (Ct.mpr hj),Af (by rw[UW];exact hj)]
 ·rw[Dc (by rw[Dj];lia),Dc (by rw[UW];lia)]
theorem zBK{σ3:St}(m3: ∀i∈Bt ix.length,σ3[i]? =(YI ix σ++Bj nl none)[i]?):ix.length<=σ3.length:=by
 by_cases hz:ix.length=0
 ·lia
 ·have hj : ix.length - 1 < ix.length := by lia
  have:=m3 (ix.length - 1) (Ct.mpr hj);have hs:(YI ix σ++Bj nl none)[ix.length - 1]? ≠none:=by
   rw[Af (by rw[UW];exact hj)];simp[YI,hj]
  rw[<- this] at hs;have o6:ix.length - 1<σ3.length:=Nat.lt_of_not_le fun z=>hs (List.getElem?_eq_none_iff.mpr z);lia
theorem GR{fi:VI}{gg:VG}{tb:VB}{fe:VF}(hnd:ix.Nodup){Q:VK}(h:TN K ml (pi && pt && pe) (ZI ix nl fi gg tb fe) σ H Q):
  CY ix nl (TIV K ml pi fi) (TGV K (Bt ix.length) gg) (TB K (Bt ix.length) pt tb) (TV K (Bt ix.length) pe true true fe) σ H Q:=by
 obtain⟨B,O,δ,d,δ2,S,q,k⟩:=h;unfold ZI at q;obtain⟨⟨ds,δ1⟩,h1,q⟩:=Aa.mp q;have q:((ZZ ix.length nl gg tb fe ds [] (bM ix δ1)).map fun q=>(dL.lst q.1,YZ ix q.2 δ1))=some (d,δ2):=q;obtain⟨⟨res,δf⟩,h2,q⟩:=Al.mp q;cases q;refine⟨B,O,δ,ds,δ1,S,h1,fun J kps H0 S0 f0 p0 wk D hD=> ?_⟩;have hDO: ∀j,Oc ix O j≠some D:=fun j e=>by
  unfold Oc at e;obtain⟨i,hi,e⟩:=Aa.mp e;obtain⟨o,q⟩:=S0.nin (.inr ⟨i,e⟩);rw[hD] at q;cases q
 have lh: ∀kp j,ix.length<=j->(Bc ix B O H0 D kp).mu j=none:=fun kp j hj=>by
  show(ix[j]?).bind O=none;rw[Dc hj];rfl
 refine⟨fun i m acc H1=>m=ds.length - i/\i<=ds.length/\ ∃(az:List dL) (δc:Ev),δc.length=ix.length/\acc.length=az.length∧
   aR K (Bt ix.length) (Bc ix B O H0 D (kps++acc.zip az)) (Oc ix O) H1 (YI ix σ++Bj nl none) (δc++IQ nl)/\H1 D=some (.lst acc)/\((pt && pe)=true->aC H0 H1)∧
   ZZ ix.length nl gg tb fe (ds.drop i) az δc=some (res,δf),
  ⟨ds.length,rfl,Du _,[],bM ix δ1,by simp [bM],rfl,by
   rw[List.zip_nil_left,Ca];exact S0.unkeep.inner hD hnd fun p hp=>S0.kep p (Bu _ hp),cG,fun _=>dD hD,h2⟩,?_⟩
 rintro i m acc H1 ⟨rfl,hi,az,δc,hlc,ax,S1,hD1,h9,hc⟩;have w:=wk (Nn (Bc ix B O H0 D (kps++acc.zip az)) (Oc ix O)) H1 fun p hp=>S1.kep p (Bu _ hp);by_cases hlt:i<ds.length
 ·obtain ⟨go,yl⟩ := w.1 i ds[i] (by simp [hlt])
  rw[Fl hlt] at hc;simp only[ZZ] at hc;obtain⟨δ3,g1,hc⟩:=Aa.mp hc;obtain⟨⟨kk,δ4⟩,g2,hc⟩:=Aa.mp hc;refine .inr ⟨go,fun aw H'=> ∃(az:List dL) (δc:Ev),δc.length=ix.length/\aw.length=az.length∧
   aR K (Bt ix.length) (Bc ix B O H0 D (kps++aw.zip az)) (Oc ix O) H' (YI ix σ++Bj nl none) (δc++IQ nl)/\H' D=some (.lst aw)/\((pt && pe)=true->aC H0 H')∧
   ZZ ix.length nl gg tb fe (ds.drop (i+1)) az δc=some (res,δf),fun aw H' w'=>⟨ds.length - (i+1),by lia,rfl,hlt,w'⟩,fun x H2 hy=> ?_⟩
  obtain⟨sm,rx⟩:=yl x H2 hy;refine⟨_,_,_,ds[i],δ3,S1.same sm,rx,g1,fun σ3 O3 S3 m3=> ?_⟩;have ln3:=zBK m3;have hσ3:=FA ln3 m3;refine⟨hσ3,_,_,δ3,kk,δ4,S3,g2,fun H4 R4=> ?_⟩;have hD4:H4 D=some (.lst acc):=R4.frm _ _ (sm _ _ hD1) fun z=>by
   obtain⟨j,e⟩:=z;have:=(R4.sta.old j D e).1;exact absurd (.inl (.inr rfl)) this
  have ln4:ix.length<=δ4.length:=by rw[<- R4.sta.len];exact ln3
  cases kk with
  |false=>
   rw[if_neg Ei] at hc;refine JW ⟨az,δ4.take ix.length,by rw[Dj];lia,ax,R4.sta.turn (lh _) (UW ix σ) hσ3 ln4,hD4,fun z=> ?_,hc⟩;exact((h9 z).trans sm).trans (R4.pur ((Ad _ _).mp z).1)
  |true=>
   rw[if_pos rfl] at hc;obtain⟨⟨dv,δ5⟩,g3,hc⟩:=Aa.mp hc;split at hc
   ·rename_i hz
    refine JX ⟨_,_,δ4,dv,δ5,R4.sta,g3,fun v H5 R5=> ?_⟩;have hD5:H5 D=some (.lst acc):=R5.frm _ _ hD4 fun z=>by
     obtain⟨j,e⟩:=z;have:=(R5.sta.old j D e).1;exact absurd (.inl (.inr rfl)) this
    have ln5:ix.length<=δ5.length:=by rw[<- R5.sta.len];exact ln3
    have S6:=R5.sta.turn (nl:=nl) (lh _) (UW ix σ) hσ3 ln5;have hv:bP K (Nn (Bc ix B O H0 D (kps++acc.zip az)) (Oc ix O)) H5 (Nn (Bc ix B O H0 D (kps++acc.zip az)) (Oc ix O)) v dv:=by
     have hN: ∀a,Nn (Bc ix B O H0 D (kps++acc.zip az)) (Oc ix O) a->av (Bc ix B O H0 D (kps++acc.zip az)) O3 true a:=fun a h=>by
      rcases h with h|⟨j,h⟩
      ·exact .inl h
      ·refine .inr ⟨j,?_⟩
       have hj:j∈Bt ix.length:=R5.sta.par.1 j a h;rw[R5.sta.par.2 j hj];exact h
     exact R5.rep.mono hN hN
    have S7:=S6.withKp (kp:=kps++(acc++[v]).zip (az++[dv])) fun p hp=>by
     rw[List.zip_append ax,<- Bl] at hp;rcases Bi.mp hp with z|z
     ·exact S6.kep p z
     ·rw[Ak.mp (show p∈[(v,dv)] from z)]
      exact hv
    refine⟨hD5,by rw[ax,Cj];exact hz,az++[dv],δ5.take ix.length,by rw[Dj];lia,by simp[ax],?_,cG,fun z=> ?_,hc⟩
    ·exact S7.writeZ (.inl (.inr rfl)) hD5 hD
    ·intro b o e
     have hb:b≠D:=fun z=>by rw[z,hD] at e;cases e
     rw[bN hb];obtain⟨z1,z2⟩:=(Ad _ _).mp z;exact(((h9 z).trans sm).trans ((R4.pur z1).trans (R5.pur z2))) b o e
   ·cases hc
 ·have e : i = ds.length := by lia
  subst e;rw[Ir] at hc;cases hc;refine .inl ⟨w.2,k D H1 ?_⟩;have fP:Fr (OA (Oc ix O)) H0 H1:=S1.frm;have hPO: ∀a,OA (Oc ix O) a->OA O a:=fun a q0=>by
   obtain⟨j,e⟩:=q0;unfold Oc at e;cases hi:ix[j]? with
   |none=>rw[hi] at e;cases e
   |some i=>rw[hi] at e;exact⟨i,e⟩
  have SL:=S0.unkeep.laid (o:= .lst acc) hD;have fL:Fr (OA (Oc ix O)) (aS H0 D (.lst acc)) H1:=fun b o e n=>by
   by_cases hb:b=D
   ·subst hb
    rw[cG] at e;cases e;exact hD1
   ·rw[bN hb] at e
    exact fP b o e n
  refine⟨SL.call (QN) (fun i=> ?_) fL hPO,f0.trans (fP.mono hPO),fun z=> ?_,.lst hD1 (UO ax fun p hp=>(S1.kep p (Bh _ hp)).mono HW HW),S0.unkeep.new hD,S0.fresh hD⟩
  ·by_cases lj:i<δ1.length
   ·rcases T7 (ix:=ix) (ss:=δf) (δ:=δ1) i lj hlc.symm with⟨j,x,e1,e2,e3⟩|⟨e1,e2⟩
    ·have e4:(δf++IQ nl)[j]? =some (.ow x):=by
      rw[Af (Ai.mp e2).1];exact e2
     obtain⟨a,e5,_,w⟩:=S1.ow j x e4;refine .inr ⟨a,x,?_,e3,w.mono HW⟩;unfold Oc at e5;rw[e1] at e5;exact e5
    ·refine .inl ⟨e2,fun a ea ⟨j,ej⟩ => ?_⟩
     obtain⟨x,ex⟩:=S1.dom j a ej;unfold Oc at ej;cases hi:ix[j]? with
     |none=>rw[hi] at ej;cases ej
     |some i'=>
      rw[hi] at ej;have:i=i':=S0.inj i i' a ea ej;subst this;have hj:j<δf.length:=by rw[hlc];exact(Ai.mp hi).1
      rw[Af hj] at ex;exact e1 j x hi ex
   ·refine .inl ⟨?_,fun a ea => ?_⟩
    ·rw[Dc (by rw[QN];lia),Dc (by lia)]
    ·obtain⟨x,ex⟩:=S0.dom i a ea
     exact absurd (Ai.mp ex).1 lj
  ·simp only[Ad] at z
   exact(p0 z.1.1).trans (h9 (by simp[z.1.2,z.2]))
theorem zCV{Q:Bool->Hp->Prop}(h:TB K ml true X5 σ H Q):tYes σ H Q:=by
 obtain⟨B,O,δ,k,δ',S,q,w⟩:=h;cases q;exact w H (D1.refl S)
theorem C6{Y:Cx}{t:VB}(h:PT Y c (TB K ml pt t)):PTs Y [c] (TB K ml pt t):=zAH h
theorem YW{Y:Cx}:PTs Y [] (TB K ml true X5):=fun aa s σ H Q I hw=>zAI aa s σ H Q I (zCV hw)
theorem zGK{Q:VK}{o:Bool}(h:TX K ml (if o then xO f else xV f) σ H Q):TN K ml pu f σ H Q:=by
 obtain⟨B,O,δ,s,δ',S,q,k⟩:=h;have e: ∃d,f δ=some (d,δ')/\s=if o then .ow d else .va d:=by
  cases o with
  |true=>
   have q:(f δ).map (fun p=>(Sl.ow p.1,p.2))=some (s,δ'):=q;cases h1:f δ with
   |none=>rw[h1] at q;cases q
   |some p=>rw[h1] at q;cases q;exact⟨p.1,rfl,rfl⟩
  |false=>
   have q:(f δ).map (fun p=>(Sl.va p.1,p.2))=some (s,δ'):=q;cases h1:f δ with
   |none=>rw[h1] at q;cases q
   |some p=>rw[h1] at q;cases q;exact⟨p.1,rfl,rfl⟩
 obtain⟨d,h1,hs⟩:=e;refine⟨B,O,δ,d,δ',S,h1,fun p H' R=> ?_⟩;cases o with
 |true=>
  cases hs;have w:=R.own;cases w with
  |lst q1 r=>exact k _ H' _ (R.sta.keepV (WY r)) (.ol q1 r.length R.nz R.h0) R.frm
  |dct q1 r=>exact k _ H' _ (R.sta.keepV (WY r)) (.od q1 (by simpa using r.length) R.nz R.h0) R.frm
  |dcn q1 r=>exact k _ H' _ (R.sta.keepV (WY r)) (.on q1 (by simpa using r.length) R.nz R.h0) R.frm
 |false=>
  cases hs;exact k _ H' _ (R.sta.unadd.keepV (ps:=[(.ref p,d)]) fun z hz=>by
   rw[Ak.mp hz];exact(R.own.mono SW).rep R.nz) .va R.frm
theorem zCU{i:Nat}{x:VX}{te:TE}(hte: ∀σ H Q,TX K ml x σ H Q->te σ H Q)(hm:i∉ml){D:G0}(h:RE K ml (Z2 i x) D σ H):tAsg te (FW i) D σ H:=by
 obtain⟨B,O,δ,o,S,q,k⟩:=h;unfold Z2 at q;obtain⟨⟨s,δ1⟩,h1,q⟩:=Aa.mp q;have q:(if i<δ1.length then some (Ou.nx (δ1.set i s)) else none)=some o:=q;split at q
 ·rename_i hl
  cases q;refine hte _ _ _ ⟨B,O,δ,s,δ1,S,h1,fun v H' B' S' h' f'=> ?_⟩;obtain⟨O'',S''⟩:=h'.bind S' hm hl;exact k _ _ _ S''
 ·cases q
end
abbrev cM(P:Bn)(w:World)(K:An)(mg:Str->Option Value)(base:Heap)(x:Str)(k:Nat)(ps:List Str)(mF:List Nat)(F:b7)(f:Addr):Prop:=Def P w K mg base x k ps (spV K mF ps.length F) f
section
variable{X:Cx}{K:An}{ml:List Nat}{e a b c:Expr}{es:List Expr}{pa ta ia pb tb ib pc tc ic pu bt bi ps bs:Bool}{fa fb fc f:VF}{B B':Bs}{O:Nat->Option Addr}{H H0 H1 H':Hp}{σ:St}{δ δ':Ev}{v:V}{d:dL}{p:Addr}{pos:Pos}
theorem bG{x:Str}(hg:Gl X x)(h: ∃u v,X.mg x=some u/\b6 v u/\ ∀N H M,bP K N H M v d)(hd:(x==("__debug__":Str))=false:=by decide):PE X (.Name x pos) (TV K ml true true true (fC d)):=by
 obtain⟨u,v,h1,h2,h3⟩:=h;exact FJ (zAS hg h1 h2 hd) h3
def zBX(K:An):R2:=fun x y H Q=> ∃a b xs ys,x= .ref a/\y= .ref b/\VR K H a xs/\VR K H b ys/\xs.length+ys.length<=sizeLine∧
 (xs=[]->Q (.ref b) H)/\(xs≠[]->ys=[]->Q (.ref a) H)/\(xs≠[]->ys≠[]-> ∀p,H p=none->Q (.ref p) (aS H p (.tup (xs++ys))))
theorem zAX:XJ X (Fd .Add) (zBX X.K):=by
 intro aa s σ H x y v u Q I rx ry h;obtain⟨a,b,xs,ys,rfl,rfl,ha,hb,hz,q0,q1,q2⟩:=h;cases rx;cases ry;obtain⟨its,r1,p1,_⟩:=I.tuple ha;obtain⟨du,r2,p2,_⟩:=I.tuple hb;by_cases hx:xs=[]
 ·subst hx
  have e0:its=[]:=r1.nil_iff.mpr rfl;subst e0;obtain⟨⟨cls,dd,data,sl⟩,ho,hc,n,hd⟩:=id p1;obtain⟨⟨lv,dd2,data2,sl2⟩,ho2,hc2,n2,hd2⟩:=id p2;simp only at hc hd hc2 hd2;subst hc hd hc2 hd2;exact Jh ⟨_,ho,rfl⟩ ⟨_,ho2,rfl⟩ Ip Kp Gh Gb (Fp _ _)
   (tuple_addW0 a b _ du.toArray n n2 dd dd2 sl sl2 (by simp)) ⟨ho,ho2,⟨.ref b,H,I,rfl,q0 rfl⟩⟩
 ·refine HT.zBJ p1 p2 (fun z => hx (r1.nil_iff.mp z)) (fun z => ⟨.ref a,H,I,rfl,q1 hx (r2.nil_iff.mp z)⟩) (fun z => ?_) (by rw [<- r1.length,<- r2.length];exact hz)
  refine⟨.ref s.heap.objs.size,_,I.laid (t':=s.toks) (o:= .tup (xs++ys)) (fun b ob q=>Ae _ q) (Aw _) ?_,rfl,q2 hx (fun w=>z (r2.nil_iff.mpr w)) _ (I.hok.fresh (Aw _))⟩;exact⟨by rw[Br];exact hz,_,r1.append r2,Jd _ _⟩
def zBW(K:An):R2:=fun x y H Q=> ∃l b xs zs,x= .ref l/\y= .ref b/\WZ K H l xs/\WZ K H b zs/\xs.length+zs.length<=sizeLine/\ ∀p,H p=none->Q (.ref p) (aS H p (.lst (xs++zs)))
theorem zAW:XJ X (Fd .Add) (zBW X.K):=by
 intro aa s σ H x y v u Q I rx ry h;obtain⟨l,b,xs,zs,rfl,rfl,hH,hB,hz,q⟩:=h;cases rx;cases ry;obtain⟨its,r,p1,_⟩:=I.list hH;obtain⟨du,r2,p2,_⟩:=I.list hB;obtain⟨⟨cls,dd,data,sl⟩,n,ho,hc,_,hd⟩:=id p1;obtain⟨⟨lv,dd2,data2,sl2⟩,n2,ho2,hc2,_,hd2⟩:=id p2;simp only at hc hd hc2 hd2;subst hc hd hc2 hd2;have ea:its.toArray++du.toArray=(its++du).toArray:=by simp
 have hl:=r.length;have hl2:=r2.length;refine Jh ⟨_,ho,rfl⟩ ⟨_,ho2,rfl⟩ noFill_list_add seq_list_add PySem.F.slot_list_add PySem.F.entry_list_add (PySem.F.args_list_add_2 _ _) (list_addW l b its.toArray du.toArray n n2 dd dd2 sl sl2 (by rw[Au,Au,<- hl,<- hl2];exact hz)) ⟨ho,ho2,?_⟩;rw[ea];exact⟨.ref _,_,I.lnew (t':=s.toks) (r.append r2) (by rw[Br];lia),rfl,q _ I.fresh⟩
def zBV(K:An):R2:=fun x y H Q=>((ID (fun i j=> .int (i+j)) x y H Q∨zBX K x y H Q)∨zBW K x y H Q)∨ ∃i j,x= .str i/\y= .str j/\i.length+j.length<=sizeLine/\Q (.str (i++j)) H
theorem YQ(h:X.K=K):XJ X (Fd .Add) (zBV K):=by subst h;exact((zEF.or zAX).or zAW).or HY
noncomputable def Z9:dL->dL->Option dL
 | .int i,.int j=>some (.int (i+j))
 | .tup ds,.tup es=>if ds.length+es.length<=16777216 then some (.tup (ds++es)) else none
 | .lst ds,.lst es=>if ds.length+es.length<=16777216 then some (.lst (ds++es)) else none
 | .str x,.str y=>if x.length+y.length<=16777216 then some (.str (x++y)) else none
 |_,_=>none
theorem bP.tupE{N M:Addr->Prop}{ds:List dL}(h:bP K N H M v (.tup ds)): ∃a xs,v= .ref a/\VR K H a xs/\cH K N H xs ds:=by
 cases h with
 |tup q r=>exact⟨_,_,rfl,q,r⟩
theorem bP.lstE{N M:Addr->Prop}{ds:List dL}(h:bP K N H M v (.lst ds)): ∃a xs,v= .ref a/\WZ K H a xs/\cH K N H xs ds:=by
 cases h with
 |lst q n r=>exact⟨_,_,rfl,WZ.of q,r⟩
 |fzl q r=>exact⟨_,_,rfl,q.sq,r⟩
theorem ZY:OpC K (zBV K) Z9:=by
 intro H N M M' x y d e c Q hx hy h k;cases d with
 |int i=>
  cases e with
  |int j=>
   cases h;cases hx;cases hy;exact .inl (.inl (.inl ⟨_,_,rfl,rfl,k _ _ (aC.refl _) fun _ _=> .int _⟩))
  |_=>cases h
 |str i=>
  cases e with
  |str j=>
   simp only[Z9] at h;split at h
   ·cases h
    cases hx;cases hy;exact .inr ⟨_,_,rfl,rfl,by rw[Cj];assumption,k _ _ (aC.refl _) fun _ _=> .str _⟩
   ·cases h
  |_=>cases h
 |tup ds=>
  cases e with
  |tup es=>
   simp only[Z9] at h;split at h
   ·rename_i hz
    cases h;obtain⟨a,xs,rfl,q1,r1⟩:=hx.tupE;obtain⟨b,ys,rfl,q2,r2⟩:=hy.tupE;refine .inl (.inl (.inr ⟨a,b,xs,ys,rfl,rfl,q1,q2,by rw[r1.length,r2.length,Cj];exact hz,fun z=> ?_,fun z1 z2=> ?_,fun z1 z2 p hp=> ?_⟩))
    ·subst z
     have:ds=[]:=Gf.mp r1.length.symm;subst this;exact k _ _ (aC.refl _) fun M hM=> .tup q2 r2
    ·subst z2
     have:es=[]:=Gf.mp r2.length.symm;subst this;rw[Ca] at k;exact k _ _ (aC.refl _) fun M hM=> .tup q1 r1
    ·exact k _ _ (dD hp) fun M hM=> .tup (VR.of cG) ((r1.append r2).same (dD hp))
   ·cases h
  |_=>cases h
 |lst ds=>
  cases e with
  |lst es=>
   simp only[Z9] at h;split at h
   ·rename_i hz
    cases h;obtain⟨a,xs,rfl,q1,r1⟩:=hx.lstE;obtain⟨b,ys,rfl,q2,r2⟩:=hy.lstE;exact .inl (.inr ⟨a,b,xs,ys,rfl,rfl,q1,q2,by rw[r1.length,r2.length,Cj];exact hz,fun p hp=>k _ _ (dD hp) fun M hM=> .lst cG (fun z=>by
     obtain⟨o,q⟩:=hM _ z;rw[hp] at q;cases q) ((r1.append r2).same (dD hp))⟩)
   ·cases h
  |_=>cases h
 |_=>cases h
def B6:An->R2:=fun _=>rI DU fun i j=> .int (i*j)
theorem SU(h:X.K=K):XJ X (Fd .Mult) (B6 K):=zED
abbrev WQ:=oMul
theorem VU:OpC K (B6 K) WQ:=by
 intro H N M M' x y d e c Q hx hy h k;exact zH1 H N N M M' x y d e c Q hx hy h fun v hv=>k v H (aC.refl _) fun M _=>hv _ _ _
noncomputable def V2:dL->Option YY
 | .int i=>some (.inl i)
 | .str x=>some (.inr x)
 |_=>none
theorem bP.key{N M:Addr->Prop}{k:YY}(h:bP K N H M v d)(e:V2 d=some k):v=kV k:=by
 cases h<;>first
  |(cases e;rfl)
  |cases e
noncomputable def bO(ks:List YY)(ds:List dL)(k:YY):Option dL:=match ks,ds with
 |k'::ks,d::ds=>if k'=k then some d else bO ks ds k
 |_,_=>none
theorem RV{N:Addr->Prop}{k:YY}: ∀{kvs:List (YY×V)} {ds:List dL},cH K N H (kvs.map Ep) ds→
  (∃v d,SZ kvs k=some v/\bO (kvs.map Ds) ds k=some d/\bP K N H N v d)∨(SZ kvs k=none/\bO (kvs.map Ds) ds k=none)
 |[],_,.nil=> .inr ⟨rfl,rfl⟩
 | (k',v) :: kvs,_,.cons h t => by
  by_cases hk:k'=k
  ·refine .inl ⟨v,_,U9 (p:=(k',v)) hk,?_,h⟩
   simp[bO,hk]
  ·rcases RV (k:=k) t with⟨v',d',h1,h2,h3⟩|⟨h1,h2⟩
   ·exact .inl ⟨v',d',(WJ (p:=(k',v)) hk).trans h1,by simpa[bO,hk] using h2,h3⟩
   ·exact .inr ⟨(WJ (p:=(k',v)) hk).trans h1,by simpa[bO,hk] using h2⟩
theorem zCB(hu:X.A.units+1<cLine):DW X (fun x y H Q=> ∃a v,x= .ref a/\TY H a y (some v)/\Q v H):=by
 intro value slice aa s σ H x y v u Q I rx ry h hs;obtain⟨a,w,rfl,g,q⟩:=h;cases rx;exact Nb (JM I g) PySem.F.slot_dict_getitem.lookup (D9 hu I g ry fun w' s3 I3 rw'=>⟨w,H,I3,rw',q⟩) hs
def rIxA(K:An):R2:=fun x y H Q=>(rIx K x y H Q∨ ∃a v,x= .ref a/\TY H a y (some v)/\Q v H)∨ ∃a k D v,x= .ref a/\y= .str k/\KTab K a D/\En k D=some v/\Q v H
theorem kIxA(h:X.K=K)(hu:X.A.units+1<cLine):DW X (rIxA K):=by subst h;exact(zFW.or (zCB hu)).or zBB
noncomputable def cT:dL->dL->Option dL
 | .tup ds,.int i=>W4 ds i
 | .lst ds,.int i=>W4 ds i
 | .dct ks ds,e=>(V2 e).bind (bO ks ds)
 | .str z,.int i=>if z.length<=16777216 then(W4 z.cps.toList i).map fun c=> .str ⟨#[c]⟩ else none
 |_,_=>none
theorem QP{N:Addr->Prop}{k:Str}: ∀{D:List (Str×V)} {ds:List dL},cH K N H (D.map Ep) ds→
  (∃v d,En k D=some v/\bO (D.map fun p=> .inr p.1) ds (.inr k)=some d/\bP K N H N v d)∨(En k D=none/\bO (D.map fun p=> .inr p.1) ds (.inr k)=none)
 |[],_,.nil=> .inr ⟨rfl,rfl⟩
 | (k',v) :: D,_,.cons h t => by
  by_cases hk:k'=k
  ·subst hk
   exact .inl ⟨v,_,by simp[En],by simp[bO],h⟩
  ·have hk2 : ¬ k = k' := fun z => hk z.symm
   rcases QP (k:=k) t with⟨v',d',h1,h2,h3⟩|⟨h1,h2⟩
   ·exact .inl ⟨v',d',by simpa[En,hk,hk2] using h1,by simpa[bO,hk] using h2,h3⟩
   ·exact .inr ⟨by simpa[En,hk,hk2] using h1,by simpa[bO,hk] using h2⟩
theorem J3{i:Int}: ∀{D:List (Str×V)} {ds:List dL},bO (D.map fun p=> .inr p.1) ds (.inl i)=none
 |[],_=>by simp[bO]
 |_::_,[]=>by simp[bO]
 |p::D,d::ds=>by simpa[bO] using J3 (D:=D) (ds:=ds)
theorem zIG:OpI K (rIxA K) cT:=by
 intro H N N' M M' x y d e c Q hx hy h k;have seq: ∀ds i,XT d=some ds->e= .int i->W4 ds i=some c->rIxA K x y H Q:=fun ds i h1 h2 h3=>by
  subst h2;cases hy;obtain⟨a,xs,rfl,sq,r⟩:=hx.seq h1;obtain⟨v,hv,rv⟩:=zBO r h3;rcases sq with sq|sq
  ·exact .inl (.inl (.inl ⟨a,xs,i,v,rfl,rfl,sq,hv,k v rv⟩))
  ·exact .inl (.inl (.inr (.inl ⟨a,xs,i,v,rfl,rfl,sq,hv,k v rv⟩)))
 cases d with
 |tup ds=>
  cases e with
  |int i=>exact seq ds i rfl rfl h
  |_=>cases h
 |lst ds=>
  cases e with
  |int i=>exact seq ds i rfl rfl h
  |_=>cases h
 |str z=>
  cases e with
  |int i=>
   simp only[cT] at h;split at h
   ·obtain⟨ch,hc,h⟩:=Al.mp h
    cases h;cases hx;cases hy;exact .inl (.inl (.inr (.inr ⟨z,i,ch,rfl,rfl,by rw[Cj];assumption,hc,k _ (.str _)⟩)))
   ·cases h
  |_=>cases h
 |dct ks ds=>
  simp only[cT] at h;obtain⟨kk,hk,h⟩:=Aa.mp h;have h:bO ks ds kk=some c:=h;have ey:=hy.key hk;subst ey;cases hx with
  |dct q n r=>
   rcases RV (k:=kk) r with⟨v,d',h1,h2,h3⟩|⟨h1,h2⟩
   ·rw[h] at h2
    cases h2;exact .inl (.inr ⟨_,v,rfl,h1▸TY.k q,k v h3⟩)
   ·rw[h] at h2;cases h2
  |ktb T r=>
   cases kk with
   |inl i=>rw[J3] at h;cases h
   |inr x=>
    rcases QP (k:=x) r with⟨v,d',h1,h2,h3⟩|⟨h1,h2⟩
    ·rw[h] at h2
     cases h2;exact .inr ⟨_,x,_,v,rfl,rfl,T,h1,k v h3⟩
    ·rw[h] at h2;cases h2
 |_=>cases h
noncomputable def YF(δ:Ev)(i:Nat):Option (List YY×List dL):=match δ[i]? with
 |some (.ow (.dct ks ds))=>some (ks,ds)
 |_=>none
theorem UJ{i:Nat}{ks:List YY}{ds:List dL}(h:YF δ i=some (ks,ds)):δ[i]? =some (.ow (.dct ks ds)):=by
 unfold YF at h;split at h
 ·cases h;assumption
 ·cases h
noncomputable def LQ(i:Nat)(fk fx:VF):VF:=fun δ=>(YF δ i).bind fun _=>(fk δ).bind fun p=>(fx p.2).bind fun q=>(V2 p.1).bind fun k=>(YF q.2 i).map fun z=>((bO z.1 z.2 k).getD q.1,q.2)
theorem DB{i:Nat}{fk fx:VF}{ap aj:Pos}(hu:X.A.units+1<cLine)(ho:PE X a (U7 i))(hk:PE X b (TV K ml pa ta ia fk))(hx:PE X c (TV K ml pb true true fx))(m:M2 X a "get" ap b c aj):
  PE X (.Call (.Attribute a "get" ap) [b,c] [] aj) (TV K ml (pa && pb) true true (LQ i fk fx)):=(BN hu ho hk hx m).imp fun σ H Q hq0=>by
 obtain⟨B,O,δ,d,δ3,S,q,k⟩:=hq0;unfold LQ at q;cases h0:YF δ i with
 |none=>rw[h0] at q;cases q
 |some z0=>
  obtain⟨ks0,ds0⟩:=z0;rw[h0] at q;cases h1:fk δ with
  |none=>simp[h1] at q
  |some p1=>
   obtain⟨y,δ1⟩:=p1;simp only[Ap,h1] at q;cases h2:fx δ1 with
   |none=>simp[h2] at q
   |some p2=>
    obtain⟨z,δ2⟩:=p2;simp only[Ap,h2] at q;cases h3:V2 y with
    |none=>simp[h3] at q
    |some kk=>
     simp only[Ap,h3] at q;cases h4:YF δ2 i with
     |none=>simp[h4] at q
     |some zz=>
      obtain⟨ks,ds⟩:=zz;simp only[h4] at q;cases q;obtain⟨l,e1,e2,w⟩:=S.ow i _ (UJ h0);refine⟨.ref l,e2,l,rfl,?_,B,O,δ,y,δ1,S,h1,fun v1 H1 R1=>⟨B,O,δ1,z,_,R1.sta,h2,fun v2 H2 R2=> ?_⟩⟩
      ·generalize hw:dL.dct ks0 ds0=dd at w
       cases w with
       |lst _ _=>cases hw
       |dct q _=>exact .inl ⟨_,.inl q⟩
       |dcn _ _=>cases hw
      ·have ey:=R1.rep.key h3
       subst ey;obtain⟨l',e3,_,w2⟩:=R2.sta.ow i _ (UJ h4);rw[e1] at e3;cases e3;have fin: ∀o,bP K (Nn B O) H2 (Nn B O) (o:V) ((bO ks ds kk).getD z)->Q o H2:=fun o ho=>k o H2 ⟨R2.sta,R1.frm.trans R2.frm,fun z=>by
        obtain⟨z1,z2⟩:=(Ad _ _).mp z;exact(R1.pur z1).trans (R2.pur z2),ho⟩
       generalize hw:dL.dct ks ds=dd at w2;cases w2 with
       |lst _ _=>cases hw
       |dcn _ _=>cases hw
       |dct q r=>
        cases hw;refine⟨_,TY.k q,fin _ ?_⟩;rcases RV (k:=kk) r with⟨v,d',g1,g2,g3⟩|⟨g1,g2⟩
        ·rw[g1,g2];exact g3
        ·rw[g1,g2];exact R2.rep
noncomputable def Y2:List YY->List dL->YY->dL->List YY×List dL
 |k'::ks,d::ds,k,v=>if k'=k then(k'::ks,v::ds) else let r:=Y2 ks ds k v;(k'::r.1,d::r.2)
 |_,_,k,v=>([k],[v])
noncomputable def OY(i:Nat)(fk fv:VF):VS:=fun δ=>(fv δ).bind fun p=>(YF p.2 i).bind fun _=>(fk p.2).bind fun q=>(V2 q.1).bind fun k=>(YF q.2 i).bind fun z=>if z.1.length<16777216/\z.1.Nodup then some (.nx (q.2.set i (.ow (let r:=Y2 z.1 z.2 k p.1;.dct r.1 r.2)))) else none
theorem NK{N:Addr->Prop}{k:YY}{v:V}(h:bP K N H N v d): ∀{kvs:List (YY×V)} {ds:List dL},(kvs.map Ds).Nodup->cH K N H (kvs.map Ep) ds→
  (YJ kvs k v).map Ds=(Y2 (kvs.map Ds) ds k d).1/\cH K N H ((YJ kvs k v).map Ep) (Y2 (kvs.map Ds) ds k d).2
 |[],_,_,.nil=>⟨rfl,.cons h .nil⟩
 | (k',u) :: kvs,_,nd,.cons hu t => by
  obtain⟨n1,n2⟩:=Cb.mp nd;by_cases hk:k'=k
  ·subst hk
   have e:YJ ((k',u)::kvs) k' v=(k',v)::kvs:=by
    unfold YJ;rw[if_pos (by simp)];simp only[Be,if_true];congr 1;refine(Dq fun p hp=> ?_).trans (List.map_id _);have:p.1≠k':=fun z=>n1 (Ay.mpr ⟨p,hp,z⟩);simp[this]
   rw[e];exact⟨by simp[Y2],by simpa[Y2] using cH.cons h t⟩
  ·obtain⟨h1,h2⟩:=NK (k:=k) h n2 t
   have e:YJ ((k',u)::kvs) k v=(k',u)::YJ kvs k v:=by
    unfold YJ;simp only[Hc,hk,decide_false,Kr];split
    ·simp[hk]
    ·rfl
   rw[e];exact⟨by simpa[Y2,hk] using h1,by simpa[Y2,hk] using cH.cons hu h2⟩
theorem L9{N:Addr->Prop}{l:Addr}{o:HO}{xs:List V}{ds:List dL}{kvs:List (YY×V)}(ho:H l=some (.dK kvs))(hN:N l)(h:cH K N H xs ds):cH K N (aS H l o) xs ds:=
 h.fr (P:=fun b=>b=l) (fun b u q n=>by
  by_cases hb:b=l
  ·subst hb
   rw[ho] at q;cases q;exact absurd (n rfl) fun z=>z
  ·rw[bN hb]
   exact q) fun a z=>z▸hN
theorem GW{i:Nat}{fk fv:VF}{ar:Pos}(hu:X.A.units+1<cLine)(ho:PE X a (U7 i))(hk:PE X b (TV K ml pa ta ia fk))(hv:PE X c (TV K ml pb true true fv))(hs:Gx c (some (.Subscript a b ar)) pos.line X.env=pure false):
  PS X (.Assign [.Subscript a b ar] c pos) (RE K ml (OY i fk fv)):=(GF hu ho hk hv hs).imp fun D σ H hq0=>by
 obtain⟨B,O,δ,o,S,q,k⟩:=hq0;unfold OY at q;obtain⟨⟨z,δ1⟩,h1,q⟩:=Aa.mp q;have q:((YF δ1 i).bind fun _=>(fk δ1).bind fun q=>(V2 q.1).bind fun k=>(YF q.2 i).bind fun z_1=>if z_1.1.length<16777216/\z_1.1.Nodup then some (Ou.nx (q.2.set i (.ow (let r:=Y2 z_1.1 z_1.2 k z;.dct r.1 r.2)))) else none)=some o:=q;cases h0:YF δ1 i with
 |none=>rw[h0] at q;cases q
 |some z0=>
 obtain⟨ks0,ds0⟩:=z0;rw[h0] at q;cases h2:fk δ1 with
 |none=>simp[h2] at q
 |some p2=>
  obtain⟨y,δ2⟩:=p2;simp only[Ap,h2] at q;cases h3:V2 y with
  |none=>simp[h3] at q
  |some kk=>
   simp only[Ap,h3] at q;cases h4:YF δ2 i with
   |none=>simp[h4] at q
   |some zz=>
    obtain⟨ks,ds⟩:=zz;simp only[h4,Ap] at q;split at q
    ·rename_i hz
     cases q;refine⟨B,O,δ,z,δ1,S,h1,fun v1 H1 R1=> ?_⟩;obtain⟨l,e1,e2,_⟩:=R1.sta.ow i _ (UJ h0);refine⟨.ref l,e2,B,O,δ1,y,δ2,R1.sta,h2,fun v2 H2 R2=> ?_⟩;have ey:=R2.rep.key h3;subst ey;obtain⟨l',e3,_,w2⟩:=R2.sta.ow i _ (UJ h4);rw[e1] at e3;cases e3;generalize hw:dL.dct ks ds=dd at w2;cases w2 with
     |lst _ _=>cases hw
     |dcn _ _=>cases hw
     |dct qd r=>
      cases hw;have rv:=R1.rep.fr R2.frm (fun a z=> .inr z) fun a z=> .inr z;obtain⟨g1,g2⟩:=NK (k:=kk) rv hz.2 r;refine⟨l,_,rfl,IT.k qd (by rw[Cj];simpa using hz.1),k σ _ O (R2.sta.wrote e1 (fun z=>z) ?_)⟩;have w:SF K (Nn B O) (aS H2 l (.dK (YJ _ kk v1))) l (.dct ((YJ _ kk v1).map Ds) _):= .dct cG (L9 qd (.inr ⟨i,e1⟩) g2);rw[g1] at w;exact w
    ·cases q
end
section
variable{X:Cx}{K:An}{ml:List Nat}{e a b c:Expr}{es:List Expr}{pa ta ia pb tb ib pc tc ic pu bt bi ps bs:Bool}{fa fb fc f:VF}{B B':Bs}{O:Nat->Option Addr}{H H0 H1 H':Hp}{σ:St}{δ δ':Ev}{v:V}{d:dL}{p:Addr}{pos:Pos}
noncomputable def NN(i j k:Nat)(x y z:VX):VS:=fun δ=>(x δ).bind fun p=>(y p.2).bind fun q=>(z q.2).bind fun r=>if i<r.2.length/\j<r.2.length/\k<r.2.length then some (.nx (((r.2.set k r.1).set j q.1).set i p.1)) else none
theorem E4{i j k:Nat}{x y z:VX}{o:Ou}(h:NN i j k x y z δ=some o): ∃s1 δ1 s2 δ2 s3 δ3,x δ=some (s1,δ1)/\y δ1=some (s2,δ2)/\z δ2=some (s3,δ3)/\(i<δ3.length/\j<δ3.length/\k<δ3.length)/\o= .nx (((δ3.set k s3).set j s2).set i s1):=by
 unfold NN at h;cases h1:x δ with
 |none=>rw[h1] at h;cases h
 |some p=>
  rw[h1] at h;cases h2:y p.2 with
  |none=>simp[h2] at h
  |some q=>
   simp only[Ap,h2] at h;cases h3:z q.2 with
   |none=>simp[h3] at h
   |some r=>
    simp only[Ap,h3] at h;split at h
    ·cases h
     exact⟨p.1,p.2,q.1,q.2,r.1,r.2,rfl,h2,h3,by assumption,rfl⟩
    ·cases h
theorem GY{i j k:Nat}{x y z:Str}{fx fy fz:VX}{px py pz pt:Pos}{kt k2 pt2}(hK:X.K=K)(hc:X.calm=true)(hN:X.N.Nodup)(hi:X.N[i]? =some x)(hj:X.N[j]? =some y)(hk:X.N[k]? =some z)(hij:i≠j)(hik:i≠k)(hjk:j≠k)
  (hx:G3 X.env.scope x) (hy:G3 X.env.scope y) (hz:G3 X.env.scope z) (ha:PE X a (TX K ml fx)) (hb:PE X b (TX K ml fy)) (hcc:PE X c (TX K ml fz))
  (hmi:i∉ml:=by decide) (hmj:j∉ml:=by decide) (hmk:k∉ml:=by decide)
  (hs:Ex [.Tuple [.Name x px,.Name y py,.Name z pz] kt pt] (.Tuple [a,b,c] k2 pt2) pos.line X.env=pure false:=by rfl)
  (hw:Ey [.Tuple [.Name x px,.Name y py,.Name z pz] kt pt] (.Tuple [a,b,c] k2 pt2) X.env=pure none:=by rfl)
  (hn:(assignEach [.Name x px,.Name y py,.Name z pz] X.env).length=3:=by rfl) (hst:(assignEach [.Name x px,.Name y py,.Name z pz] X.env).findIdx? (·.1)=none:=by rfl)
  (g1:(assignEach [.Name x px,.Name y py,.Name z pz] X.env).map (·.2)=assign (.Name x px) X.env::(assignEach [.Name y py,.Name z pz] X.env).map (·.2):=by rfl)
  (g2:(assignEach [.Name y py,.Name z pz] X.env).map (·.2)=assign (.Name y py) X.env::(assignEach [.Name z pz] X.env).map (·.2):=by rfl)
  (g3:(assignEach [.Name z pz] X.env).map (·.2)=assign (.Name z pz) X.env::(assignEach [] X.env).map (·.2):=by rfl)
  (fx':X.fn x=true∨X.env.scope.names.lookup x=some .local:=by first|exact .inl rfl|exact .inr rfl|assumption) (fy':X.fn y=true∨X.env.scope.names.lookup y=some .local:=by first|exact .inl rfl|exact .inr rfl|assumption) (fz':X.fn z=true∨X.env.scope.names.lookup z=some .local:=by first|exact .inl rfl|exact .inr rfl|assumption)
  (h1:(assignEach [.Tuple [.Name x px,.Name y py,.Name z pz] kt pt] X.env).map (·.2)=[assign (.Tuple [.Name x px,.Name y py,.Name z pz] kt pt) X.env]:=by rfl)
  (he:Ag (a::[b,c]) X.env=(false,eval a X.env)::Ag [b,c] X.env:=by rfl) (he2:Ag (b::[c]) X.env=(false,eval b X.env)::Ag [c] X.env:=by rfl) (he3:Ag (c::[]) X.env=(false,eval c X.env)::Ag [] X.env:=by rfl):
  PS X (.Assign [.Tuple [.Name x px,.Name y py,.Name z pz] kt pt] (.Tuple [a,b,c] k2 pt2) pos) (RE K ml (NN i j k fx fy fz)):=
 (OU (OR (bR ha (bR hb (bR hcc YV he3) he2) he)) (AX (K := K) hK hc (WE (UM hN hi hx fx') (WE (UM hN hj hy fy') (WE (UM hN hk hz fz') L8 g3) g2) g1) hn hst) hs hw h1).imp fun D σ H hq0 => by
  obtain⟨B,O,δ,o,S,q,k⟩:=hq0;obtain⟨s1,δ1,s2,δ2,s3,δ3,h1,h2,h3,hl,rfl⟩:=E4 q;refine⟨B,O,δ,s1,δ1,S,h1,fun v H1 B1 S1 w1 f1=>⟨B1,O,δ1,s2,δ2,S1,h2,fun v2 H2 B2 S2 w2 f2=>⟨B2,O,δ2,s3,δ3,S2,h3,fun v3 H3 B3 S3 w3 f3=>⟨(by show 3<=sizeLine;decide),fun p hp=>⟨p,_,rfl,VR.of cG,rfl,v,_,rfl,v2,_,rfl,v3,_,rfl,rfl,?_⟩⟩⟩⟩⟩;have f4:Fr (OA O) H3 (aS H3 p (.tup [v,v2,v3])):=(dD hp).fr;obtain⟨O4,S4⟩:=(w3.fr f4).bind (S3.same (dD hp)) hmk hl.2.2;obtain⟨O5,S5⟩:=((w2.fr f3).fr f4).bind S4 hmj (by rw[Ce];exact hl.2.1);obtain⟨O6,S6⟩:=(((w1.fr f2).fr f3).fr f4).bind S5 hmi (by rw[Ce,Ce];exact hl.1);rw[Fu _ _ (Cq hij),Fu _ _ (Cq hik),Fu _ _ (Cq hjk)] at S6;exact k _ _ _ S6
theorem zA2{i j:Nat}{x y:Str}{fx fy:VX}{px py pt:Pos}{kt k2 pt2}(hK:X.K=K)(hc:X.calm=true)(hN:X.N.Nodup)(hi:X.N[i]? =some x)(hj:X.N[j]? =some y)(hij:i≠j)
  (hx:G3 X.env.scope x) (hy:G3 X.env.scope y) (ha:PE X a (TX K ml fx)) (hb:PE X b (TX K ml fy))
  (hmi:i∉ml:=by decide) (hmj:j∉ml:=by decide)
  (hs:Ex [.Tuple [.Name x px,.Name y py] kt pt] (.Tuple [a,b] k2 pt2) pos.line X.env=pure false:=by rfl)
  (hw:Ey [.Tuple [.Name x px,.Name y py] kt pt] (.Tuple [a,b] k2 pt2) X.env=pure none:=by rfl)
  (hn:(assignEach [.Name x px,.Name y py] X.env).length=2:=by rfl) (hst:(assignEach [.Name x px,.Name y py] X.env).findIdx? (·.1)=none:=by rfl)
  (g1:(assignEach [.Name x px,.Name y py] X.env).map (·.2)=assign (.Name x px) X.env::(assignEach [.Name y py] X.env).map (·.2):=by rfl)
  (g2:(assignEach [.Name y py] X.env).map (·.2)=assign (.Name y py) X.env::(assignEach [] X.env).map (·.2):=by rfl)
  (fx':X.fn x=true∨X.env.scope.names.lookup x=some .local:=by first|exact .inl rfl|exact .inr rfl|assumption) (fy':X.fn y=true∨X.env.scope.names.lookup y=some .local:=by first|exact .inl rfl|exact .inr rfl|assumption)
  (h1:(assignEach [.Tuple [.Name x px,.Name y py] kt pt] X.env).map (·.2)=[assign (.Tuple [.Name x px,.Name y py] kt pt) X.env]:=by rfl)
  (he:Ag (a::[b]) X.env=(false,eval a X.env)::Ag [b] X.env:=by rfl) (he2:Ag (b::[]) X.env=(false,eval b X.env)::Ag [] X.env:=by rfl):
  PS X (.Assign [.Tuple [.Name x px,.Name y py] kt pt] (.Tuple [a,b] k2 pt2) pos) (RE K ml (R9 i j fx fy)):=
 (OU (OR (bR ha (bR hb YV he2) he)) (AX (K := K) hK hc (WE (UM hN hi hx fx') (WE (UM hN hj hy fy') L8 g2) g1) hn hst) hs hw h1).imp fun D σ H hq0 => by
  obtain⟨B,O,δ,o,S,q,k⟩:=hq0;unfold R9 at q;obtain⟨⟨s,δ1⟩,h1,q⟩:=Aa.mp q;cases h2:fy δ1 with
  |none=>simp[h2] at q
  |some p2=>
   obtain⟨s2,δ2⟩:=p2;simp only[Ap,h2] at q;split at q
   ·rename_i hl
    cases q;refine⟨B,O,δ,s,δ1,S,h1,fun v H1 B1 S1 w1 f1=>⟨B1,O,δ1,s2,δ2,S1,h2,fun v2 H2 B2 S2 w2 f2=>⟨(by show 2<=sizeLine;decide),fun p hp=>⟨p,_,rfl,VR.of cG,rfl,v,_,rfl,v2,_,rfl,rfl,?_⟩⟩⟩⟩;have f4:Fr (OA O) H2 (aS H2 p (.tup [v,v2])):=(dD hp).fr;obtain⟨O3,S3⟩:=(w2.fr f4).bind (S2.same (dD hp)) hmj hl.2;obtain⟨O4,S4⟩:=((w1.fr f2).fr f4).bind S3 hmi (by rw[Ce];exact hl.1);rw[Fu _ _ (Cq hij)] at S4;exact k _ _ _ S4
   ·cases q
noncomputable def GP(i:Nat)(fi fv:VF):VS:=fun δ=>(fv δ).bind fun p=>(W1 p.2 i).bind fun _=>(fi p.2).bind fun q=>(W1 q.2 i).bind fun ds=>match q.1 with
 | .int k=>(JY ds.length k).map fun j=> .nx (q.2.set i (.ow (.lst (ds.set j p.1))))
 |_=>none
theorem zCM{i:Nat}{fi fv:VF}{ar:Pos}(hK:X.K=K)(ho:PE X a (U7 i))(hi:PE X b (TV K ml pa ta ia fi))(hv:PE X c (TV K ml pb true true fv))
  (ha: ∀v,assign (.Subscript a b ar) X.env v=(do
   let ov<- Kg [v] (eval a X.env)
   let iv<- Kg [v,ov] (eval b X.env)
   standAt ar
   Kg [v,ov,iv] (setItem ov iv v)
   release [v,ov,iv] []):=by intro _;rfl)
  (hs:Ex [.Subscript a b ar] c pos.line X.env=pure false:=by rfl) (hw:Ey [.Subscript a b ar] c X.env=pure none:=by rfl)
  (h1:(assignEach [.Subscript a b ar] X.env).map (·.2)=[assign (.Subscript a b ar) X.env]:=by rfl):PS X (.Assign [.Subscript a b ar] c pos) (RE K ml (GP i fi fv)):=
 (OU hv (zE3 ho hi CK ha) hs hw h1).imp fun D σ H hq0 => by
  obtain⟨B,O,δ,o,S,q,k⟩:=hq0;unfold GP at q;obtain⟨⟨z,δ1⟩,h1,q⟩:=Aa.mp q;cases h0:W1 δ1 i with
  |none=>simp[h0] at q
  |some ds0=>
   simp only[Ap,h0] at q;cases h2:fi δ1 with
   |none=>simp[h2] at q
   |some p2=>
    obtain⟨y,δ2⟩:=p2;simp only[Ap,h2] at q;cases h4:W1 δ2 i with
    |none=>simp[h4] at q
    |some ds=>
     simp only[h4,Ap] at q;cases y with
     |int kk=>
      have q:((JY ds.length kk).map fun j=>Ou.nx (δ2.set i (.ow (.lst (ds.set j z)))))=some o:=q;obtain⟨j,h5,q⟩:=Al.mp q;cases q;refine⟨B,O,δ,z,δ1,S,h1,fun v1 H1 R1=> ?_⟩;obtain⟨l,e1,e2,_⟩:=R1.sta.ow i _ (UK h0);refine⟨.ref l,e2,B,O,δ1,_,δ2,R1.sta,h2,fun v2 H2 R2=> ?_⟩;have ey:v2= .int kk:=by
       have r:=R2.rep;cases r;rfl
      subst ey;obtain⟨l',e3,_,w2⟩:=R2.sta.ow i _ (UK h4);rw[e1] at e3;cases e3;cases w2 with
      |lst hl r=>
       have rv:=R1.rep.fr R2.frm (fun a z=> .inr z) fun a z=> .inr z;refine⟨l,_,kk,j,rfl,rfl,hl,by rw[r.length];exact h5,k σ _ O (R2.sta.wrote e1 (fun z=>z) (.lst cG (QF (ys:=[]) hl (.inr ⟨i,e1⟩) (r.set rv j))))⟩
     |_=>cases q
def rIsB(neg:Bool):R2:=fun x y H Q=> ∃k,y= .bl k/\Q (.bl (if neg then !decide (x= .bl k) else decide (x= .bl k))) H
theorem BH:XJ X (Cf .Is) (rIsB false):=by
 intro aa s σ H x y v u Q I rx ry h;obtain⟨k,rfl,q⟩:=h;cases ry;have e:(v==Jt k)=decide (x=V.bl k):=by
  cases x<;>first
   |(cases rx;first|rfl|(rename_i z;cases z<;>cases k<;>rfl))
   |(obtain⟨t,rfl⟩:=rx;rfl)
 exact wpAny_is_plain (by cases x<;>first|(cases rx;cases k<;>rfl)|(obtain⟨t,rfl⟩:=rx;cases k<;>rfl)) (by rw[e];exact⟨.bl _,H,I,rfl,q⟩)
theorem zAV:XJ X (Cf .IsNot) (rIsB true):=by
 intro aa s σ H x y v u Q I rx ry h;obtain⟨k,rfl,q⟩:=h;cases ry;have e:(v==Jt k)=decide (x=V.bl k):=by
  cases x<;>first
   |(cases rx;first|rfl|(rename_i z;cases z<;>cases k<;>rfl))
   |(obtain⟨t,rfl⟩:=rx;rfl)
 exact wpAny_isNot_plain (by cases x<;>first|(cases rx;cases k<;>rfl)|(obtain⟨t,rfl⟩:=rx;cases k<;>rfl)) (by rw[e];exact⟨.bl _,H,I,rfl,q⟩)
noncomputable def isBl(k:Bool):dL->Bool
 | .bl x=>x==k
 |_=>false
noncomputable def BC:dL->dL->Option dL
 |d,.bl k=>some (.bl (isBl k d))
 |_,_=>none
def F8:dL->dL->Option dL
 |d,.bl k=>some (.bl (!isBl k d))
 |_,_=>none
theorem GL{N M:Addr->Prop}{k:Bool}(h:bP K N H M v d):decide (v=V.bl k)=isBl k d:=by
 cases h<;>simp[isBl];rename_i b;cases b<;>cases k<;>rfl
theorem zBT:Q6 K (rIsB false) BC:=by
  intro H N N' M M' x y d e c Q hx hy h k;cases hy<;>first
    | (cases h
       refine⟨_,rfl,?_⟩;simp only[Ff,if_false];rw[GL hx];exact k _ fun _ _ _=> .bl _)
    |(simp[BC] at h)
theorem zDM:Q6 K (rIsB true) F8:=by
  intro H N N' M M' x y d e c Q hx hy h k;cases hy<;>first
    | (cases h
       refine⟨_,rfl,?_⟩;simp only[if_true];rw[GL hx];exact k _ fun _ _ _=> .bl _)
    |(simp[F8] at h)
end
section
variable{prog:Bn}{w:World}{A:De}{E:Value->Ah->Prop}{s:Ah}
theorem TK{it t:Addr}{i:Nat}{items:Array Value}{x:Value}{Q:Value->Ah->Prop}(hit:s.heap.IsTupleIter it t i)(ht:s.heap.IsTuple t items)(hx:items[i]? =some x)
  (hQ: ∀h',h'.IsTupleIter it t (i+1)->Ew it s.heap h'->Q x {s with heap:=h'}):wpAny (model prog w) A (Bx (.ref it)) Q E s:=by
 obtain⟨oi,g1,c1,d1⟩:=id hit;obtain⟨ot,g2,_,nt,d2⟩:=ht;unfold Bx;refine Ac (Cr (name:=Ar "__next__") hit.typeIs Eg (Dt Eg hit.typeIs Hl ?_ (Hd _)));show wpAny _ _ (field (Bp it) 0>>=_) _ _ s;refine Ac (Dg g1 d1 (x:= .ref t) rfl ?_);show wpAny _ _ (if(Bp t== .none)=true then _ else _) _ _ s;rw[if_neg (show¬(Bp t==Value.none)=true from Ei)];show wpAny _ _ (field (Bp it) 1>>=_) _ _ s;refine Ac (Dg g1 d1 (x:= .int i 0) rfl ?_);show wpAny _ _ (seqItems? (Bp t)>>=_) _ _ s;refine Ac (Eo g2 d2 ?_);simp only[hx,Cy];refine Ac (wpAny_setField g1 d1 (by simp) (Ao ⟨x,rfl,Ao (hQ _ ⟨_,Ji _ g1 (Obj.isFreed_of_fields (Ks d1 _)),(Obj.cls_mapFields ..).trans c1,?_⟩ (Kk ..))⟩));rw[Ks d1];simp[rawInt]
theorem RW{it t:Addr}{i:Nat}{items:Array Value}{Q:Value->Ah->Prop}(hh:A.handled=none)(hit:s.heap.IsTupleIter it t i)(ht:s.heap.IsTuple t items)(hx:items[i]? =none)
  (hE: ∀h' e,Hj it s.heap h'->(∃o,h'.get? e=some o/\o.cls= .type "StopIteration")->E (.ref e) {s with heap:=h'}):wpAny (model prog w) A (Bx (.ref it)) Q E s:=by
 obtain⟨oi,g1,c1,d1⟩:=id hit;obtain⟨ot,g2,_,nt,d2⟩:=ht;unfold Bx;refine Ac (Cr (name:=Ar "__next__") hit.typeIs Eg (Dt Eg hit.typeIs Hl ?_ (Hd _)));show wpAny _ _ (field (Bp it) 0>>=_) _ _ s;refine Ac (Dg g1 d1 (x:= .ref t) rfl ?_);show wpAny _ _ (if(Bp t== .none)=true then _ else _) _ _ s;rw[if_neg (show¬(Bp t==Value.none)=true from Ei)];show wpAny _ _ (field (Bp it) 1>>=_) _ _ s;refine Ac (Dg g1 d1 (x:= .int i 0) rfl ?_);show wpAny _ _ (seqItems? (Bp t)>>=_) _ _ s;refine Ac (Eo g2 d2 ?_);simp only[hx,Cy];refine Ac (Ju (Ac (wpAny_setField g1 d1 (by simp) ?_)));show wpAny _ _ (newExc (Hz "StopIteration") []>>=_) _ _ _;refine Ac ?_;unfold newExc newTuple;refine Ac (Cw ?_ (by size_fits));refine Ac (m:=firstArgMember _ _) (wpAny_of_eq (a:=Value.none) (by first|rfl|(unfold firstArgMember;rfl)) (Cw ?_ (by size_fits)));unfold raiseNew;refine Ac (wpAny_handled ?_);first|rw[hh]|rw[show A.in1.handled=none from hh]
 refine Ac (Ao (wpAny_throw (hE _ _ (((Kk ..).extBut.push _).push _) ⟨_,Az _ rfl,rfl⟩)))
end
theorem EC{prog:Bn}{w:World}{A:De}(hh:A.handled=none)(it t:Addr)(hne:t≠it)(items:Array Value):
  Draws prog w A it [it,t] items.size (fun i v=>items[i]? =some v) (fun i h=>h.IsTupleIter it t i/\h.IsTuple t items) where
 live:=fun _ _ st=>let ⟨o,ho,_⟩:=st.1;⟨o,ho⟩
 frame:=fun _ _ _ st hk=>⟨st.1.at fun o e=>hk it (by simp) o e,by obtain⟨o,ho,r⟩:=st.2;exact⟨o,hk t (by simp) o ho,r⟩⟩
 item:=fun i s Q E hi st hQ=>TK st.1 st.2 (x:=items[i]) (by simp[hi]) fun h' a b=>hQ _ h' s.toks (by simp[hi]) ⟨a,st.2.extBut b.extBut hne⟩ b
 done:=fun s Q E st hE=>RW hh st.1 st.2 (by simp) hE
section
variable{X:Cx}{aa:List (Addr×Obj)}{σ:St}{H:Hp}{s:Ah}{h':Heap}
theorem cL.turnedL{t':Nat}{fp:List Addr}(I:cL X aa σ H s)(k: ∀b o,b∉fp->s.heap.get? b=some o->h'.get? b=some o)(there: ∀b∈fp,∃o,h'.get? b=some o)(hf: ∀b∈fp,NX X aa H b):cL X aa σ H {s with heap:=h',toks:=t'}:=by
 have nit: ∀b u,H b=some u->b∉fp:=fun b u e z=>by rw[(hf b z).1] at e;cases e
 have hL:X.env.locals∉fp:=fun z=>(hf _ z).2.1 rfl;refine I.step (g':=s.gens) (d':=s.drawn) (ch:=fp) (fun b hb=> ?_) (fun b o _ _ hc e _=>k b o hc e) (fun b o _ _ hc e _=>⟨o.slots,k b o hc e⟩) (fun _ _ _ _ n=>n)
  (fun b o hc e=>⟨o,k b o hc e⟩) (fun _ _ e=>e) (fun _ _ _ e=>e) (fun b ps e=>⟨#[],by rw[e];simp⟩) (fun m hm=> ?_) (fun b u e=> ?_) I.bare
 ·obtain⟨_,f1,f2,f3,f4,f5⟩:=hf b hb
  exact⟨f3,f1,f4,f5⟩
 ·obtain⟨o,es,ep,ho,r⟩:=hm
  exact⟨o,es,ep,k _ o hL ho,r⟩
 ·refine (I.hok b u e).stay (fun c v hc q => k c v ?_ q) (fun _ q => q) fun _ _ q => q
  rcases hc with z|z
  ·rw[z];exact nit b u e
  ·exact nit c _ z
end
section
variable{X:Cx}{aa:List (Addr×Obj)}{σ:St}{H:Hp}{s:Ah}{h':Heap}
theorem cL.turnedL'{t':Nat}{fp:List Addr}(I:cL X aa σ H s)(k: ∀b o,b∉fp->s.heap.get? b=some o->h'.get? b=some o)(hf: ∀b∈fp,NX X aa H b):cL X aa σ H {s with heap:=h',toks:=t'}:=by
 have nit: ∀b u,H b=some u->b∉fp:=fun b u e z=>by rw[(hf b z).1] at e;cases e
 have hL:X.env.locals∉fp:=fun z=>(hf _ z).2.1 rfl;refine I.step (g':=s.gens) (d':=s.drawn) (ch:=fp) (fun b hb=> ?_) (fun b o _ _ hc e _=>k b o hc e) (fun b o _ _ hc e _=>⟨o.slots,k b o hc e⟩) (fun _ _ _ _ n=>n)
  (fun b o hc e=>⟨o,k b o hc e⟩) (fun _ _ e=>e) (fun _ _ _ e=>e) (fun b ps e=>⟨#[],by rw[e];simp⟩) (fun m hm=> ?_) (fun b u e=> ?_) I.bare
 ·obtain⟨_,f1,f2,f3,f4,f5⟩:=hf b hb
  exact⟨f3,f1,f4,f5⟩
 ·obtain⟨o,es,ep,ho,r⟩:=hm
  exact⟨o,es,ep,k _ o hL ho,r⟩
 ·refine (I.hok b u e).stay (fun c v hc q => k c v ?_ q) (fun _ q => q) fun _ _ q => q
  rcases hc with z|z
  ·rw[z];exact nit b u e
  ·exact nit c _ z
end
def MR(K:An)(tup:Bool)(H:Hp)(a:Addr)(xs:List V):Prop:=if tup=true then VR K H a xs else WZ K H a xs
def RD(tup:Bool)(h:Heap)(a:Addr)(items:Array Value):Prop:=if tup=true then h.IsTuple a items else h.IsList a items
def VC(tup:Bool)(h:Heap)(it a:Addr)(i:Nat):Prop:=if tup=true then h.IsTupleIter it a i else h.IsListIter it a i
theorem AH{prog:Bn}{w:World}{A:De}(hh:A.handled=none)(tup:Bool)(it t:Addr)(hne:t≠it)(items:Array Value):
  Draws prog w A it [it,t] items.size (fun i v=>items[i]? =some v) (fun i h=>VC tup h it t i/\RD tup h t items):=by
 cases tup with
 |true=>exact EC hh it t hne items
 |false=>exact Draws.list hh it t hne items
theorem RD.lt{tup:Bool}{h:Heap}{a:Addr}{items:Array Value}(s:RD tup h a items):a<h.objs.size:=by
 cases tup with
 |true=>obtain⟨o,e,_⟩:=s;exact Aq e
 |false=>obtain⟨o,e,_⟩:=s;exact Aq e
theorem cL.srcA{X:Cx}{aa:List (Addr×Obj)}{σ:St}{H:Hp}{s:Ah}{a:Addr}{xs:List V}{tup:Bool}(I:cL X aa σ H s)(h:MR X.K tup H a xs): ∃its:List Value,bJ xs its/\RD tup s.heap a its.toArray/\xs.length<=sizeLine:=by
 cases tup with
 |true=>
  obtain⟨its,r,p,z⟩:=I.tuple h;exact⟨its,r,p,z⟩
 |false=>
  obtain⟨its,r,p,z⟩:=I.list h;exact⟨its,r,p.isList,z⟩
theorem cL.sq_inj{X:Cx}{aa:List (Addr×Obj)}{σ:St}{H:Hp}{s:Ah}{a:Addr}{xs ys:List V}{tup:Bool}(I:cL X aa σ H s)(h:MR X.K tup H a xs)(h':MR X.K tup H a ys):xs=ys:=by
 cases tup with
 |true=>exact I.tuple_inj h h'
 |false=>exact I.list_inj h h'
theorem VC.at{tup:Bool}{h h':Heap}{it a:Addr}{i:Nat}(st:VC tup h it a i)(k: ∀o,h.get? it=some o->h'.get? it=some o):VC tup h' it a i:=by
 cases tup with
 |true=>exact Heap.IsTupleIter.at st k
 |false=>exact Heap.IsListIter.at st k
theorem VC.obj{tup:Bool}{h:Heap}{it a:Addr}{i:Nat}(st:VC tup h it a i): ∃o,h.get? it=some o/\ ∀v,o.data≠ .cell v:=by
 cases tup with
 |true=>
  obtain⟨o,e,c,d⟩:=st;exact⟨o,e,fun v z=>by rw[d] at z;cases z⟩
 |false=>
  obtain⟨o,e,c,d⟩:=st;exact⟨o,e,fun v z=>by rw[d] at z;cases z⟩
def Ite(K:An)(tup:Bool)(a:Addr):It:=
 ⟨fun i H=> ∃xs x,MR K tup H a xs/\xs[i]? =some x,fun i H v H'=> ∃p x,(∀xs,MR K tup H a xs->xs[i]? =some x)/\H p=none/\H'=aS H p (.tup [.int i,x])/\v= .ref p,fun i H=> ∃xs,MR K tup H a xs/\xs.length=i⟩
theorem FD{P:Bn}{w:World}{K:An}{es:List Expr}{k:Nat}{pos:Pos}(tup:Bool)(a e it:Addr)(hei:e≠it)(hae:a≠e)(hai:a≠it):
  G7 P w K (.Tuple es k pos) (Ite K tup a) [e,it] e (fun i h=>(∃old,IsEnum h e it i old)/\VC tup h it a i) where
 mem:=by simp
 obj:=fun i h st b hb=>by
  obtain⟨⟨old,he⟩,hi⟩:=st;rcases Aj.mp hb with z|z
  ·subst z
   exact⟨_,he,fun v z=>by cases z⟩
  ·have:=Ak.mp z
   subst this;exact hi.obj
 keep:=fun i h h' st kk=>by
  obtain⟨⟨old,he⟩,hi⟩:=st;exact⟨⟨old,kk e (by simp) _ he⟩,hi.at fun o q=>kk it (by simp) o q⟩
 item:=by
  intro X hP hw hK hc i aa s σ H E I hf st hg;subst hP hw hK;obtain⟨⟨old,he⟩,hi⟩:=st;obtain⟨xs,x,hq,hx⟩:=hg;obtain⟨its,rv,src,hz⟩:=I.srcA hq;have hlt:i<its.toArray.size:=by
   have:=(Ai.mp hx).1;have:=rv.length;simp only[Au];lia
  have hh:X.A.in1.handled=none:=I.ok.hd hc;refine wpAny_pyNext_enum_itemD (AH hh tup it a hai its.toArray) he ⟨hi,src⟩ hlt hei (by simp[hei,Cq hae]) fun u h1 tk hu ho st1 ht hsz hk=>⟨_,rfl,?_⟩;refine wpAny_letOwnedTupleGo_enum (s:={s with heap:=h1,toks:=tk+1}) ho fun h2 he2 sb2=> ?_;have sb2:Ew e h1 h2:=sb2;obtain⟨u',hu',ru⟩:=rv.get hx;have hu:its.toArray[i]? =some u:=hu;rw[List.getElem?_toArray,hu'] at hu;have hu:=By hu;subst hu;have kk: ∀b o,b∉[e,it]->s.heap.get? b=some o->h2.get? b=some o:=fun b o hb q=>by
   have h1b:b≠e:=fun z=>hb (by simp[z]);have h2b:b≠it:=fun z=>hb (by simp[z]);exact(sb2.2 b h1b).trans (hk b o h1b h2b q)
  have i7:h2.get? s.heap.objs.size=some {cls:= .type "tuple",data:= .seq #[.int i tk,u']}:=(sb2.2 _ (Fo (Aq he))).trans ht;have bj:H s.heap.objs.size=none:=I.hok.fresh (Aw _);have li: ∀b∈[e,it],b<s.heap.objs.size:=fun b hb=>by
   rcases Aj.mp hb with z|z
   ·rw[z];exact Aq he
   ·rw[Ak.mp z]
    obtain⟨o,q,_⟩:=hi.obj;exact Aq q
  have I0:cL X aa σ (aS H s.heap.objs.size (.tup [.int i,x])) {s with heap:=s.heap.push {cls:= .type "tuple",data:= .seq #[.int i tk,u']},toks:=tk}:=
   I.laid (fun b o q=>Ae _ q) (Aw _) ⟨by show 2<=sizeLine;decide,[.int i tk,u'],.cons ⟨tk,rfl⟩ (.cons ru .nil),Jd _ _⟩
  have I1:cL X aa σ (aS H s.heap.objs.size (.tup [.int i,x])) {s with heap:=h2,toks:=tk+1}:=by
   refine cL.turnedL (s:={s with heap:=s.heap.push {cls:= .type "tuple",data:= .seq #[.int i tk,u']},toks:=tk}) (h':=h2) (t':=tk+1) (fp:=[e,it]) I0 (fun b o hb q=> ?_) (fun b hb=> ?_) fun b hb=>⟨by rw[bN (Bq (li b hb))];exact(hf b hb).1,(hf b hb).2⟩
   ·by_cases hbn:b=s.heap.objs.size
    ·subst hbn
     have q:(s.heap.push {cls:= .type "tuple",data:= .seq #[.int i tk,u']}).get? s.heap.objs.size=some o:=q;rw[Az _ rfl] at q;cases q;exact i7
    ·exact kk b o hb ((Lc _ _ _ hbn).symm.trans q)
   ·rcases Aj.mp hb with z|z
    ·rw[z];exact⟨_,he2⟩
    ·rw[Ak.mp z]
     obtain⟨o,q,_⟩:=st1.1.obj;exact⟨o,(sb2.2 it (Cq hei)).trans q⟩
  refine⟨.ref s.heap.objs.size,aS H s.heap.objs.size (.tup [.int i,x]),?_,rfl,⟨_,x,fun ys hy=>by rw[I.sq_inj hy hq];exact hx,bj,rfl,rfl⟩,⟨⟨_,by simpa using he2⟩,st1.1.at fun o q=>(sb2.2 it (Cq hei)).trans q⟩,fun b hb=> ?_⟩
  ·exact I1
  ·rw[bN (Bq (li b hb))]
   exact(hf b hb).1
 done:=by
  intro X hP hw hK hc i aa s σ H E I hf st hg;subst hP hw hK;obtain⟨⟨old,he⟩,hi⟩:=st;obtain⟨xs,hq,hx⟩:=hg;obtain⟨its,rv,src,hz⟩:=I.srcA hq;have hh:X.A.in1.handled=none:=I.ok.hd hc;have hn:its.toArray.size=i:=by rw[Au,<- rv.length];exact hx
  refine wpAny_pyNext_enum_endD (AH hh tup it a hai its.toArray) he ⟨by rw[hn];exact hi,src⟩ fun h1 xb=>⟨rfl,?_⟩;obtain⟨f0,f1,f2,f3,f4,f5⟩:=hf it (by simp);exact I.turned (t':=s.toks) (fun b o hb q=>xb b o hb q) f0 f1 f3 f4 f5
 self:=fun _ i _ _ _ st h=>Ld st.1.choose_spec h
theorem ED(a:Addr)(items:Array Value)(n:Nat)(dd:Option Addr)(sl:Array (Option Value)):
  Meets (Builtin.«enumerate.__new__» ⟨[.type "enumerate",.ref a],[]⟩) (fun _ R s=>s.heap.get? a=some {cls:= .type "tuple",dict:=dd,data:= .seq items n,slots:=sl}∧
   R (.ok (.ret (.ref (s.heap.push {cls:= .type "tuple_iterator",data:= .fields #[.ref a,.int 0 0]}).objs.size)))
    {s with heap:=(s.heap.push {cls:= .type "tuple_iterator",data:= .fields #[.ref a,.int 0 0]}).push {cls:= .type "enumerate",data:= .fields #[.none,.bool false,.ref s.heap.objs.size,rawInt 0,.none,.none]}}):=by
 refine .of_wp fun prog w A R s h=> ?_;obtain⟨hp,g,d,tk,os⟩:=s;obtain⟨ha,h⟩:=h;have hs:=sub_enumerate;have hT:Heap.IsTuple (Mf ⟨hp,g,d,tk,os⟩) a items:=⟨_,ha,rfl,n,rfl⟩;wp_walk using Fs ha
 refine wpAny_stack_any fun st=>Ao ?_;split
 ·rename_i c _ _ _ _ _
  cases (c==Hz "enumerate")<;>(wp_walk using Fs ha,Fv hT;exact⟨_,rfl,h⟩)
 ·wp_walk using Fs ha,Fv hT
  exact⟨_,rfl,h⟩
theorem HF{prog:Bn}{w:World}{A:De}{E:Value->Ah->Prop}{s:Ah}{a:Addr}{items:Array Value}{tup:Bool}{Q:Value->Ah->Prop}(hs:RD tup s.heap a items)
  (h: ∀h',IsEnum h' (s.heap.objs.size+1) s.heap.objs.size 0 .none->VC tup h' s.heap.objs.size a 0->(∀b o,s.heap.get? b=some o->h'.get? b=some o)->Q (.ref (s.heap.objs.size+1)) {s with heap:=h'}):
  wpAny (model prog w) A (call (.type "enumerate") [.ref a]) Q E s:=by
 cases tup with
 |false=>exact call_enumerate_list hs fun h' a1 a2 _ a4=>h h' a1 a2 a4
 |true=>
  obtain⟨⟨cc,dd,dt,sl⟩,g1,hc,n,hd⟩:=hs;replace hc:cc= .type "tuple":=hc
  replace hd:dt= .seq items n:=hd
  subst hc hd;have hz:(s.heap.push {cls:= .type "tuple_iterator",data:= .fields #[.ref a,.int 0 0]}).objs.size=s.heap.objs.size+1:=Dd ..;refine callType_new F.called_enumerate (by decide) (F.typeCall_enumerate_1 _) (F.newCall_enumerate_1 _) (fun obj=>F.args_object_init_2 obj _) F.entry_enumerate_new (ED a items n dd sl) ⟨g1,?_⟩;show _/\_;rw[hz];have he:=Az (s.heap.push {cls:= .type "tuple_iterator",data:= .fields #[.ref a,.int 0 0]}) (o:={cls:= .type "enumerate",data:= .fields #[.none,.bool false,.ref s.heap.objs.size,rawInt 0,.none,.none]}) rfl;rw[hz] at he;exact⟨⟨_,he,rfl⟩,h _ he ⟨_,Ae _ (Az _ rfl),rfl,rfl⟩ fun b o x=>Ae _ (Ae _ x)⟩
theorem LD:Bo "enumerate"=some (.type "enumerate"):=by decide+kernel
theorem zG7:Bo "zip"=some (.type "zip"):=by decide+kernel
section
variable{X:Cx}{K:An}{ml:List Nat}{l:Expr}{pu:Bool}{f:VF}{p pos cr:Pos}{es:List Expr}{tk:Nat}{δ:Ev}
def iEnu(K:An)(tl:TE):TI:=fun σ H R=>tl σ H fun x H1=> ∃a tup,x= .ref a/\(∃xs,MR K tup H1 a xs)/\R (Ite K tup a) H1
theorem zAQ{tl:TE}(hg:Gl X "enumerate") (hm:X.mg "enumerate"=none) (hl:PE X l tl) (he:Ag (l::[]) X.env=(false,eval l X.env)::Ag [] X.env:=by rfl):
  PI X (.Tuple es tk cr) (.Call (.Name "enumerate" p) [l] [] pos) (iEnu X.K tl):=by
 intro aa s σ H R I h;refine Ej (QV I hg hm LD ?_ (by decide) (by decide));refine Eb (ZA (bR hl YV he pos aa s σ H (fun vs H1=>match vs with
  |[x]=> ∃a tup,x= .ref a/\(∃xs,MR X.K tup H1 a xs)/\R (Ite X.K tup a) H1
  |_=>False) I h) fun us s1 ⟨vs,H1,I1,r1,q1⟩=> ?_) he (by rfl)
 match vs,r1,q1 with
 |[x],r1,q1=>
  obtain⟨a,tup,rfl,⟨xs,hq⟩,hR⟩:=q1;obtain⟨u,rfl,ru⟩:=SD r1;cases ru;obtain⟨its,rv,src,_⟩:=I1.srcA hq;refine HF src fun h' he' hi' kp=> ?_;have I2:cL X aa σ H1 {s1 with heap:=h'}:=I1.kept (t':=s1.toks) kp;have hn: ∀b,s1.heap.objs.size<=b->H1 b=none:=fun b hb=>I1.hok.fresh hb;refine Ld he' ⟨s1.heap.objs.size+1,[s1.heap.objs.size+1,s1.heap.objs.size],_,Ite X.K tup a,H1,rfl,I2,FD tup a (s1.heap.objs.size+1) s1.heap.objs.size (Nat.succ_ne_self _) (fun z=> ?_) (fun z=> ?_),⟨⟨_,he'⟩,hi'⟩,fun b hb=> ?_,hR⟩
  ·have:=src.lt
   rw[z] at this;exact absurd this (Nat.not_lt_of_le (Im _))
  ·have:=src.lt
   rw[z] at this;exact absurd this (Cp _)
  ·have hb':s1.heap.objs.size<=b:=by
    rcases Aj.mp hb with z|z
    ·rw[z];exact Im _
    ·rw[Ak.mp z];exact Aw _
   exact I1.fpOk hb' (hn b hb')
theorem zFO(h:X.K=K){tl:TE}(hg:Gl X "enumerate") (hm:X.mg "enumerate"=none) (hl:PE X l tl) (he:Ag (l::[]) X.env=(false,eval l X.env)::Ag [] X.env:=by rfl):
  PI X (.Tuple es tk cr) (.Call (.Name "enumerate" p) [l] [] pos) (iEnu K tl):=by subst h;exact zAQ hg hm hl he
noncomputable def YS:Nat->List dL->List dL
 |_,[]=>[]
 |i,d::ds=> .tup [.int i,d]::YS (i+1) ds
noncomputable def JR(f:VF):VI:=fun δ=>(f δ).bind fun p=>(XT p.1).map fun ds=>(YS 0 ds,p.2)
theorem JN: ∀{ds:List dL} {n i:Nat} {d:dL},(YS n ds)[i]? =some d-> ∃x,ds[i]? =some x/\d= .tup [.int (n+i:Nat),x]
 |[],_,_,_,h=>by simp[YS] at h
 |x::ds,n,0,d,h=>by simp[YS] at h;exact⟨x,rfl,h.symm⟩
 |x::ds,n,i+1,d,h=>by
  have h:(YS (n+1) ds)[i]? =some d:=by simpa[YS] using h
  obtain⟨y,h1,h2⟩:=JN h;exact⟨y,by simpa using h1,by rw[h2,show n+1+i=n+(i+1) by lia]⟩
theorem JO: ∀(ds:List dL) (n:Nat),(YS n ds).length=ds.length
 |[],_=>rfl
 |_::ds,n=>congrArg (· +1) (JO ds (n+1))
theorem NW{a:Addr}{tup:Bool}{ds:List dL}:Walk K (Ite K tup a) [(.ref a,if tup=true then .tup ds else .lst ds)] (YS 0 ds):=by
 intro N H h;have r:=h _ (Ak.mpr rfl);have fin: ∀xs,MR K tup H a xs->cH K N H xs ds->(∀(i:Nat) (d:dL),(YS 0 ds)[i]? =some d->(Ite K tup a).go i H/\ ∀x H',(Ite K tup a).yld i H x H'->aC H H'/\bP K N H' N x d)/\(Ite K tup a).stop (YS 0 ds).length H:=fun xs sq r=>by
  refine⟨fun i d e=> ?_,xs,sq,by rw[r.length,JO]⟩;obtain⟨z,e1,rfl⟩:=JN e;obtain⟨x,e2,r1⟩:=r.get e1;refine⟨⟨xs,x,sq,e2⟩,fun y H' hy=> ?_⟩;obtain⟨p,x',e3,hp,rfl,rfl⟩:=hy;have:=e3 xs sq;rw[e2] at this;cases this;refine⟨dD hp,.tup (VR.of cG) (.cons ?_ (.cons (r1.same (dD hp)) .nil))⟩;rw[Ll];exact .int _
 cases tup with
 |true=>
  have r:bP K N H N (.ref a) (.tup ds):=r;cases r with
  |tup sq r=>exact fin _ sq r
 |false=>
  have r:bP K N H N (.ref a) (.lst ds):=r;cases r with
  |lst q n r=>exact fin _ (WZ.of q) r
  |fzl q r=>exact fin _ q.sq r
theorem GU(hK:X.K=K)(hg:Gl X "enumerate") (hm:X.mg "enumerate"=none) (h:PE X l (TV K ml pu true true f)) (he:Ag (l::[]) X.env=(false,eval l X.env)::Ag [] X.env:=by rfl):
  PI X (.Tuple es tk cr) (.Call (.Name "enumerate" p) [l] [] pos) (TIV K ml pu (JR f)):=(zFO (K:=K) hK hg hm h he).imp fun σ H R hq0=>by
 obtain⟨B,O,δ,ds,δ',S,q,k⟩:=hq0;unfold JR at q;obtain⟨⟨x,δ1⟩,h1,q⟩:=Aa.mp q;refine⟨B,O,δ,x,δ1,S,h1,fun v H1 R1=> ?_⟩;cases x with
 |lst ds'=>
  cases q;obtain⟨a,xs,rfl,sq,r⟩:=R1.rep.lstE;exact⟨a,false,rfl,⟨xs,sq⟩,k _ [(.ref a,.lst ds')] H1 (R1.sta.keepV fun p hp=>by rw[Ak.mp hp];exact R1.rep) R1.frm R1.pur (NW (tup:=false))⟩
 |tup ds'=>
  cases q;obtain⟨a,xs,rfl,sq,r⟩:=R1.rep.tupE;exact⟨a,true,rfl,⟨xs,sq⟩,k _ [(.ref a,.tup ds')] H1 (R1.sta.keepV fun p hp=>by rw[Ak.mp hp];exact R1.rep) R1.frm R1.pur (NW (tup:=true))⟩
 |_=>cases q
end
section
variable{prog:Bn}{w:World}{A:De}{E:Value->Ah->Prop}{s:Ah}
theorem VC.ext{tup:Bool}{h h':Heap}{it a b:Addr}{i:Nat}(x:VC tup h it a i)(hs:Hj b h h')(hne:it≠b):VC tup h' it a i:=x.at fun o e=>hs _ _ hne e
theorem RD.ext{tup:Bool}{h h':Heap}{a b:Addr}{xs:Array Value}(x:RD tup h a xs)(hs:Hj b h h')(hne:a≠b):RD tup h' a xs:=by
 cases tup with
 |true=>obtain⟨o,e,r⟩:=x;exact⟨o,hs _ _ hne e,r⟩
 |false=>obtain⟨o,e,r⟩:=x;exact⟨o,hs _ _ hne e,r⟩
theorem SV{tup:Bool}{it a:Addr}{i:Nat}{xs:Array Value}{x:Value}{Q:Value->Ah->Prop}(hi:VC tup s.heap it a i)(hs:RD tup s.heap a xs)(hx:xs[i]? =some x)
  (hQ: ∀h',VC tup h' it a (i+1)->Ew it s.heap h'->Q x {s with heap:=h'}):wpAny (model prog w) A (Bx (.ref it)) Q E s:=by
 cases tup with
 |true=>exact TK hi hs hx hQ
 |false=>exact wpAny_nextOf_list_item hi hs hx hQ
theorem NH{tup:Bool}{it a:Addr}{i:Nat}{xs:Array Value}{Q:Value->Ah->Prop}(hh:A.handled=none)(hi:VC tup s.heap it a i)(hs:RD tup s.heap a xs)(hx:xs[i]? =none)
  (hE: ∀h' e,Hj it s.heap h'->(∃o,h'.get? e=some o/\o.cls= .type "StopIteration")->E (.ref e) {s with heap:=h'}):wpAny (model prog w) A (Bx (.ref it)) Q E s:=by
 cases tup with
 |true=>exact RW hh hi hs hx hE
 |false=>exact wpAny_nextOf_list_end hh hi hs hx hE
structure ZSt(t1 t2:Bool)(h:Heap)(z p q i1 i2 a b:Addr)(k:Nat)(f0:Value):Prop where
 zip:IsZip h z p q f0
 its:IsPair h p (.ref i1) (.ref i2)
 res: ∃u v,IsPair h q u v
 one:VC t1 h i1 a k
 two:VC t2 h i2 b k
theorem FL{t1 t2:Bool}{z p q i1 i2 a b:Addr}{k:Nat}{xs ys:Array Value}{x y:Value}{Q:Value->Ah->Prop}(D:Jw z p q i1 i2 a b)(S:ZSt t1 t2 s.heap z p q i1 i2 a b k .none)
  (s1:RD t1 s.heap a xs) (s2:RD t2 s.heap b ys) (hx:xs[k]? =some x) (hy:ys[k]? =some y)
  (hQ: ∀h',ZSt t1 t2 h' z p q i1 i2 a b (k+1) (rawInt s.heap.objs.size)->IsPair h' s.heap.objs.size x y->h'.objs.size=s.heap.objs.size+1→
   (∀c o,c≠z->c≠q->c≠i1->c≠i2->s.heap.get? c=some o->h'.get? c=some o)->Q (.ref s.heap.objs.size) {s with heap:=h'}):
  wpAny (model prog w) A (Builtin.«zip.__next__» ⟨[.ref z],[]⟩) (fun fin s'=> ∃v,fin= .done (.ret v)/\Q v s') E s:=by
 obtain⟨gz,gi,⟨u,v,gr⟩,g1,g2⟩:=S;show wpAny _ _ (field (Bp z) 2>>=_) _ _ _;refine Ac (Dg gz rfl (x:= .bool false) rfl ?_);show wpAny _ _ (field (Bp z) 3>>=_) _ _ _;refine Ac (Dg gz rfl (x:= .ref p) rfl (Ac (Eo gi rfl ?_)));show wpAny _ _ (Cv (Bp z)>>=_) _ _ _;refine Ac ?_
 (unfold Cv)
 refine Ac (Dg gz rfl (x:= .none) rfl (Ao ?_));simp only[if_true];refine Ac (Ju (Ac (Dg gz rfl (x:= .ref q) rfl (Ac (Ek gz (by simp) fun ha za ba=>Ac ?_)))));have za:IsZip ha z p q .ellipsis:=za;simp only[Mg,Lq,Kc,Hi];refine Ac (Ac (Io ?_));show wpAny _ _ (Bx (Bp i1)>>=_) _ _ _;refine Ac (SV (g1.ext ba.extBut D.i1z) (s1.ext ba.extBut D.l1z) hx fun hb n1 bb=>Ao ?_);have rb:IsPair hb q u v:=bb.extBut _ _ D.TOi1 (ba.extBut _ _ D.TOz gr);refine Ac (Eo rb rfl (Ac (Ha rb fun hc rc bc=>Ac (Mh (Ao ?_)))));have rc:IsPair hc q x v:=rc;refine Ac (Ac (Io ?_));show wpAny _ _ (Bx (Bp i2)>>=_) _ _ _;refine Ac (SV (((g2.ext ba.extBut D.i2z).ext bb.extBut D.i12.symm).ext bc.extBut D.TOi2.symm) (((s2.ext ba.extBut D.l2z).ext bb.extBut D.l2i1).ext bc.extBut D.l2TO) hy fun hd n2 bd=>Ao ?_);have rd:IsPair hd q x v:=bd.extBut _ _ D.TOi2 rc;refine Ac (Eo rd rfl (Ac (Ha rd fun he re be=>Ac (Mh (Ao (Ao ?_))))));have re:IsPair he q x y:=re;refine Ac (Eo re rfl (Ac (wpAny_newTuple ?_)));have size:he.objs.size=s.heap.objs.size:=by rw[be.1,bd.1,bc.1,bb.1,ba.1]
 have ze:IsZip he z p q .ellipsis:=be.extBut _ _ D.TOz.symm (bd.extBut _ _ D.i2z.symm (bc.extBut _ _ D.TOz.symm (bb.extBut _ _ D.i1z.symm za)));have ke: ∀c o,c≠z->c≠q->c≠i1->c≠i2->s.heap.get? c=some o->he.get? c=some o:=fun c o c1 c2 c3 c4 g=>be.extBut _ _ c2 (bd.extBut _ _ c4 (bc.extBut _ _ c2 (bb.extBut _ _ c3 (ba.extBut _ _ c1 g))));have e1:VC t1 he i1 a (k+1):=((n1.ext bc.extBut D.TOi1.symm).ext bd.extBut D.i12).ext be.extBut D.TOi1.symm;have e2:VC t2 he i2 b (k+1):=n2.ext be.extBut D.TOi2.symm;have ie:IsPair he p (.ref i1) (.ref i2):=ke _ _ D.TIz D.TITO D.TIi1 D.TIi2 gi;have zlt:z<he.objs.size:=Aq ze;show wpAny _ _ (Fm (Bp z) (.ref he.objs.size)>>=_) _ _ _;refine Ac ?_
 (unfold Fm)
 have zf:IsZip (he.push {cls:= .type "tuple",data:= .seq #[x,y]}) z p q .ellipsis:=Ae _ ze;refine Ac (Ek zf (by simp) fun hg zg bg=> ?_);have zg:IsZip hg z p q (rawInt he.objs.size):=zg;refine Ek zg (by simp) fun hk zk bk=> ?_;have zk:IsZip hk z p q (rawInt he.objs.size):=zk;have up: ∀c o,c≠z->he.get? c=some o->hk.get? c=some o:=fun c o c1 g=>bk.extBut _ _ c1 (bg.extBut _ _ c1 (Ae _ g));have tk:IsPair hk he.objs.size x y:=bk.extBut _ _ (Fo zlt) (bg.extBut _ _ (Fo zlt) (Az _ rfl));have szk:hk.objs.size=he.objs.size+1:=by rw[bk.1,bg.1,Dd]
 rw[size] at zk tk szk;refine Ao ⟨_,rfl,?_⟩;show Q (.ref he.objs.size) _;rw[size];exact hQ hk ⟨zk,up _ _ D.TIz ie,⟨x,y,up _ _ D.TOz re⟩,e1.at fun o g=>up _ o D.i1z g,e2.at fun o g=>up _ o D.i2z g⟩ tk szk fun c o c1 c2 c3 c4 g=>up c o c1 (ke c o c1 c2 c3 c4 g)
theorem DN{t1 t2:Bool}{z p q i1 i2 a b:Addr}{k:Nat}{xs ys:Array Value}{Q:Fin->Ah->Prop}(hh:A.handled=none)(D:Jw z p q i1 i2 a b)(S:ZSt t1 t2 s.heap z p q i1 i2 a b k .none)
  (s1:RD t1 s.heap a xs) (s2:RD t2 s.heap b ys) (ef:xs[k]? =none∨ys[k]? =none)
  (hE: ∀h' e,(∀c o,c≠z->c≠q->c≠i1->c≠i2->s.heap.get? c=some o->h'.get? c=some o)->(∃o,h'.get? e=some o/\o.cls= .type "StopIteration")->E (.ref e) {s with heap:=h'}):
  wpAny (model prog w) A (Builtin.«zip.__next__» ⟨[.ref z],[]⟩) Q E s:=by
 obtain⟨gz,gi,⟨u,v,gr⟩,g1,g2⟩:=S;show wpAny _ _ (field (Bp z) 2>>=_) _ _ _;refine Ac (Dg gz rfl (x:= .bool false) rfl ?_);show wpAny _ _ (field (Bp z) 3>>=_) _ _ _;refine Ac (Dg gz rfl (x:= .ref p) rfl (Ac (Eo gi rfl ?_)));show wpAny _ _ (Cv (Bp z)>>=_) _ _ _;refine Ac ?_
 (unfold Cv)
 refine Ac (Dg gz rfl (x:= .none) rfl (Ao ?_));simp only[if_true];refine Ac (Ju (Ac (Dg gz rfl (x:= .ref q) rfl (Ac (Ek gz (by simp) fun ha za ba=>Ac ?_)))));have za:IsZip ha z p q .ellipsis:=za;simp only[Mg,Lq,Kc,Hi];refine Ac (Ac (Io ?_));show wpAny _ _ (Bx (Bp i1)>>=_) _ _ _;cases hx:xs[k]? with
 |none=>
  refine Ac (NH hh (g1.ext ba.extBut D.i1z) (s1.ext ba.extBut D.l1z) hx fun hb e bb ⟨oe,ge,ce⟩=> ?_);have zb:IsZip hb z p q .ellipsis:=bb _ _ D.i1z.symm za;have ne:e≠z:=fun w=>by subst w;rw[zb] at ge;cases ge;simp at ce
  exact Ek zb (by simp) fun hc _ bc=>hE hc e (fun c o c1 _ c3 _ g=>bc.extBut _ _ c1 (bb _ _ c3 (ba.extBut _ _ c1 g))) ⟨oe,bc.extBut _ _ ne ge,ce⟩
 |some x=>
  have hy:ys[k]? =none:=ef.resolve_left fun w=>by rw[hx] at w;cases w
  refine Ac (SV (g1.ext ba.extBut D.i1z) (s1.ext ba.extBut D.l1z) hx fun hb n1 bb=>Ao ?_);have rb:IsPair hb q u v:=bb.extBut _ _ D.TOi1 (ba.extBut _ _ D.TOz gr);refine Ac (Eo rb rfl (Ac (Ha rb fun hc rc bc=>Ac (Mh (Ao (Ac (Ac (Io ?_))))))));show wpAny _ _ (Bx (Bp i2)>>=_) _ _ _;refine Ac (NH hh (((g2.ext ba.extBut D.i2z).ext bb.extBut D.i12.symm).ext bc.extBut D.TOi2.symm) (((s2.ext ba.extBut D.l2z).ext bb.extBut D.l2i1).ext bc.extBut D.l2TO) hy fun hd e bd ⟨oe,ge,ce⟩=> ?_);have zd:IsZip hd z p q .ellipsis:=bd _ _ D.i2z.symm (bc.extBut _ _ D.TOz.symm (bb.extBut _ _ D.i1z.symm za));have ne:e≠z:=fun w=>by subst w;rw[zd] at ge;cases ge;simp at ce
  exact Ek zd (by simp) fun hf _ bf=>hE hf e (fun c o c1 c2 c3 c4 g=>bf.extBut _ _ c1 (bd _ _ c4 (bc.extBut _ _ c2 (bb.extBut _ _ c3 (ba.extBut _ _ c1 g))))) ⟨oe,bf.extBut _ _ ne ge,ce⟩
theorem HV{t1 t2:Bool}{z p q i1 i2 a b:Addr}{k:Nat}{xs ys:Array Value}{x y:Value}{Q:Option Value->Ah->Prop}(D:Jw z p q i1 i2 a b)(S:ZSt t1 t2 s.heap z p q i1 i2 a b k .none)
  (s1:RD t1 s.heap a xs) (s2:RD t2 s.heap b ys) (hx:xs[k]? =some x) (hy:ys[k]? =some y)
  (hQ: ∀h',ZSt t1 t2 h' z p q i1 i2 a b (k+1) (rawInt s.heap.objs.size)->IsPair h' s.heap.objs.size x y->h'.objs.size=s.heap.objs.size+1→
   (∀c o,c≠z->c≠q->c≠i1->c≠i2->s.heap.get? c=some o->h'.get? c=some o)->Q (some (.ref s.heap.objs.size)) {s with heap:=h'}):wpAny (model prog w) A (pyNext (.ref z)) Q E s:=by
 have ty:s.TypeIs (.ref z) "zip":=⟨_,S.zip,rfl⟩
 (unfold pyNext)
 exact Ac (wpAny_attempt (Cr (name:=Ar "__next__") ty Hm (Dt Hm ty Lr (FL D S s1 s2 hx hy fun h' a1 a2 a3 a4=>Ao (hQ h' a1 a2 a3 a4)) (Le _))))
theorem ER{t1 t2:Bool}{z p q i1 i2 a b:Addr}{k:Nat}{xs ys:Array Value}{Q:Option Value->Ah->Prop}(hh:A.handled=none)(D:Jw z p q i1 i2 a b)(S:ZSt t1 t2 s.heap z p q i1 i2 a b k .none)
  (s1:RD t1 s.heap a xs) (s2:RD t2 s.heap b ys) (ef:xs[k]? =none∨ys[k]? =none)
  (hQ: ∀h',(∀c o,c≠z->c≠q->c≠i1->c≠i2->s.heap.get? c=some o->h'.get? c=some o)->Q none {s with heap:=h'}):wpAny (model prog w) A (pyNext (.ref z)) Q E s:=by
 have ty:s.TypeIs (.ref z) "zip":=⟨_,S.zip,rfl⟩
 (unfold pyNext)
 refine Ac (wpAny_attempt (Cr (name:=Ar "__next__") ty Hm (Dt Hm ty Lr (DN hh D S s1 s2 ef fun h' e kk ⟨o,ge,ce⟩=> ?_) (Le _))));exact Ac (wpAny_isInstance (T:= "StopIteration") (b:=true) ⟨o,ge,ce⟩ isSubtype_stop (Ao (hQ _ kk)))
end
def zIE(tup:Bool):String:=if tup=true then "tuple_iterator" else "list_iterator"
noncomputable abbrev zO(tup:Bool)(a:Addr):Obj:={cls:= .type (zIE tup),data:= .fields #[.ref a,.int 0 0]}
theorem zCC{prog:Bn}{w:World}{A:De}{E:Value->Ah->Prop}{s:Ah}{tup:Bool}{a:Addr}{xs:Array Value}{Q:Value->Ah->Prop}(h:RD tup s.heap a xs)(hQ:Q (.ref s.heap.objs.size) {s with heap:=s.heap.push (zO tup a)}):
  wpAny (model prog w) A (pyIter (.ref a)) Q E s:=by
 cases tup with
 |true=>exact Fv h hQ
 |false=>exact Gm h hQ
theorem RD.push{tup:Bool}{h:Heap}{a:Addr}{xs:Array Value}(x:RD tup h a xs)(o:Obj):RD tup (h.push o) a xs:=by
 cases tup with
 |true=>obtain⟨o,e,r⟩:=x;exact⟨o,Ae _ e,r⟩
 |false=>obtain⟨o,e,r⟩:=x;exact⟨o,Ae _ e,r⟩
theorem DO(t1 t2:Bool)(a b:Addr)(xs ys:Array Value):
  Meets (Builtin.«zip.__new__» ⟨[.type "zip",.ref a,.ref b],[]⟩) (fun _ R s=>RD t1 s.heap a xs/\RD t2 s.heap b ys/\ ∀h1 h2 h3 h4 h5,h1=s.heap.push (zO t1 a)->h2=h1.push (zO t2 b)->h3=h2.push {cls:= .type "tuple",data:= .seq #[.ref s.heap.objs.size,.ref h1.objs.size]}→
   h4=h3.push {cls:= .type "tuple",data:= .seq #[.none,.none]}->h5=h4.push {cls:= .type "zip",data:= .fields #[.none,.bool false,.bool false,.ref h2.objs.size,.ref h3.objs.size]}->R (.ok (.ret (.ref h4.objs.size))) {s with heap:=h5}):=by
 refine .of_wp fun prog w A R s h=> ?_;obtain⟨hp,g,d,tk,os⟩:=s;obtain⟨g1,g2,h⟩:=h;have hs:=sub_zip;have k1:RD t1 (Mf ⟨hp,g,d,tk,os⟩) a xs:=g1;have k2:RD t2 (Mf ⟨hp.push (zO t1 a),g,d,tk,os⟩) b ys:=RD.push g2 _;wp_walk using zCC k1,zCC k2
 exact⟨_,rfl,h _ _ _ _ _ rfl rfl rfl rfl rfl⟩
theorem D6{prog:Bn}{w:World}{A:De}{E:Value->Ah->Prop}{s:Ah}{t1 t2:Bool}{a b:Addr}{xs ys:Array Value}{Q:Value->Ah->Prop}(g1:RD t1 s.heap a xs)(g2:RD t2 s.heap b ys)
  (h: ∀h',ZSt t1 t2 h' (s.heap.objs.size+4) (s.heap.objs.size+2) (s.heap.objs.size+3) s.heap.objs.size (s.heap.objs.size+1) a b 0 .none->(∀c o,s.heap.get? c=some o->h'.get? c=some o)->Q (.ref (s.heap.objs.size+4)) {s with heap:=h'}):
  wpAny (model prog w) A (call (.type "zip") [.ref a,.ref b]) Q E s:=by
 refine callType_new F.called_zip (by decide) (F.typeCall_zip_2 _ _) (F.newCall_zip_2 _ _) (fun obj=>F.args_object_init_3 obj _ _) F.entry_zip_new (DO t1 t2 a b xs ys) ⟨g1,g2,?_⟩;rintro h1 h2 h3 h4 h5 e1 e2 e3 e4 e5;have z1:h1.objs.size=s.heap.objs.size+1:=by rw[e1,Dd]
 have z2:h2.objs.size=s.heap.objs.size+2:=by rw[e2,Dd,z1]
 have z3:h3.objs.size=s.heap.objs.size+3:=by rw[e3,Dd,z2]
 have z4:h4.objs.size=s.heap.objs.size+4:=by rw[e4,Dd,z3]
 have u4: ∀c o,h4.get? c=some o->h5.get? c=some o:=fun c o q=>by rw[e5];exact Ae _ q
 have u3: ∀c o,h3.get? c=some o->h5.get? c=some o:=fun c o q=>u4 c o (by rw[e4];exact Ae _ q);have u2: ∀c o,h2.get? c=some o->h5.get? c=some o:=fun c o q=>u3 c o (by rw[e3];exact Ae _ q);have u1: ∀c o,h1.get? c=some o->h5.get? c=some o:=fun c o q=>u2 c o (by rw[e2];exact Ae _ q);have u0: ∀c o,s.heap.get? c=some o->h5.get? c=some o:=fun c o q=>u1 c o (by rw[e1];exact Ae _ q);have o5:h5.get? h4.objs.size=some {cls:= .type "zip",data:= .fields #[.none,.bool false,.bool false,.ref h2.objs.size,.ref h3.objs.size]}:=by rw[e5];exact Az _ rfl
 have o4:h5.get? h3.objs.size=some {cls:= .type "tuple",data:= .seq #[.none,.none]}:=u4 _ _ (by rw[e4];exact Az _ rfl);have o3:h5.get? h2.objs.size=some {cls:= .type "tuple",data:= .seq #[.ref s.heap.objs.size,.ref h1.objs.size]}:=u3 _ _ (by rw[e3];exact Az _ rfl);have o2:h5.get? h1.objs.size=some (zO t2 b):=u2 _ _ (by rw[e2];exact Az _ rfl);have o1:h5.get? s.heap.objs.size=some (zO t1 a):=u1 _ _ (by rw[e1];exact Az _ rfl);show _/\_;rw[z2,z3,z4] at o5;rw[z3] at o4;rw[z1,z2] at o3;rw[z1] at o2;rw[z4];refine⟨⟨_,o5,rfl⟩,h _ ⟨o5,o3,⟨_,_,o4⟩,?_,?_⟩ u0⟩
 ·cases t1 with
  |true=>exact⟨_,o1,rfl,rfl⟩
  |false=>exact⟨_,o1,rfl,rfl⟩
 ·cases t2 with
  |true=>exact⟨_,o2,rfl,rfl⟩
  |false=>exact⟨_,o2,rfl,rfl⟩
theorem zCL(n a b:Nat)(ha:a<n)(hb:b<n):Jw (n+4) (n+2) (n+3) n (n+1) a b:=by
 have f: ∀x y:Nat,x<y∨y<x->x≠y:=fun x y h=>by lia
 exact⟨f _ _ (by lia),f _ _ (by lia),f _ _ (by lia),f _ _ (by lia),f _ _ (by lia),f _ _ (by lia),f _ _ (by lia),f _ _ (by lia),f _ _ (by lia),f _ _ (by lia),f _ _ (by lia),f _ _ (by lia),f _ _ (by lia),f _ _ (by lia),f _ _ (by lia),f _ _ (by lia),f _ _ (by lia),f _ _ (by lia)⟩
def Itz(K:An)(t1 t2:Bool)(a b:Addr):It:=
  ⟨fun i H => ∃ xs ys x y,MR K t1 H a xs /\ MR K t2 H b ys /\ xs[i]? = some x /\ ys[i]? = some y,
   fun i H v H'=> ∃p x y,(∀xs,MR K t1 H a xs->xs[i]? =some x)/\(∀ys,MR K t2 H b ys->ys[i]? =some y)/\H p=none/\H'=aS H p (.tup [x,y])/\v= .ref p,
   fun i H=> ∃xs ys,MR K t1 H a xs/\MR K t2 H b ys/\(xs.length<=i∨ys.length<=i)⟩
theorem C5{P:Bn}{w:World}{K:An}{es:List Expr}{k:Nat}{pos:Pos}(t1 t2:Bool)(z p q i1 i2 a b:Addr)(D:Jw z p q i1 i2 a b):
  G7 P w K (.Tuple es k pos) (Itz K t1 t2 a b) [z,p,q,i1,i2] z (fun i h=>ZSt t1 t2 h z p q i1 i2 a b i .none) where
 mem:=by simp
 obj:=fun i h st c hc=>by
  simp only[Aj,Av,or_false] at hc;rcases hc with rfl|rfl|rfl|rfl|rfl
  ·exact⟨_,st.zip,fun v e=>by cases e⟩
  ·exact⟨_,st.its,fun v e=>by cases e⟩
  ·obtain⟨u,v,g⟩:=st.res
   exact⟨_,g,fun v e=>by cases e⟩
  ·exact st.one.obj
  ·exact st.two.obj
 keep:=fun i h h' st kk=>by
  obtain⟨u,v,g⟩:=st.res;exact⟨kk z (by simp) _ st.zip,kk p (by simp) _ st.its,⟨u,v,kk q (by simp) _ g⟩,st.one.at fun o e=>kk i1 (by simp) o e,st.two.at fun o e=>kk i2 (by simp) o e⟩
 item:=by
  intro X hP hw hK hc i aa s σ H E I hf st hg;subst hP hw hK;obtain⟨xs,ys,x,y,hq1,hq2,hx,hy⟩:=hg;obtain⟨us,r1,g1,_⟩:=I.srcA hq1;obtain⟨vs,r2,g2,_⟩:=I.srcA hq2;obtain⟨u,hu,ru⟩:=r1.get hx;obtain⟨v,hv,rv⟩:=r2.get hy;refine HV D st g1 g2 (by simpa using hu) (by simpa using hv) fun h1 st1 hp hsz hk=>⟨_,rfl,?_⟩;refine wpAny_letOwnedTupleGo_zip (s:={s with heap:=h1}) st1.zip fun h2 z2 sb=> ?_;have sb:Ew z h1 h2:=sb;have lt: ∀c∈[z,p,q,i1,i2],c<s.heap.objs.size:=fun c hc=>by
   simp only[Aj,Av,or_false] at hc;rcases hc with rfl|rfl|rfl|rfl|rfl
   ·exact Aq st.zip
   ·exact Aq st.its
   ·obtain⟨u,v,g⟩:=st.res
    exact Aq g
   ·obtain⟨o,e,_⟩:=st.one.obj
    exact Aq e
   ·obtain⟨o,e,_⟩:=st.two.obj
    exact Aq e
  have up: ∀c o,c≠z->h1.get? c=some o->h2.get? c=some o:=fun c o hcz e=>(sb.2 c hcz).trans e;have st2:ZSt t1 t2 h2 z p q i1 i2 a b (i+1) .none:=by
   obtain⟨u',v',g⟩:=st1.res;exact⟨z2,up _ _ D.TIz st1.its,⟨u',v',up _ _ D.TOz g⟩,st1.one.at fun o e=>up _ o D.i1z e,st1.two.at fun o e=>up _ o D.i2z e⟩
  have i7:h2.get? s.heap.objs.size=some {cls:= .type "tuple",data:= .seq #[u,v]}:=up _ _ (Fo (lt z (by simp))) hp;have bj:H s.heap.objs.size=none:=I.hok.fresh (Aw _);have I0:cL X aa σ (aS H s.heap.objs.size (.tup [x,y])) {s with heap:=s.heap.push {cls:= .type "tuple",data:= .seq #[u,v]},toks:=s.toks}:=
   I.laid (fun c o e=>Ae _ e) (Aw _) ⟨by show 2<=sizeLine;decide,[u,v],.cons ru (.cons rv .nil),Jd _ _⟩
  have I1:cL X aa σ (aS H s.heap.objs.size (.tup [x,y])) {s with heap:=h2,toks:=s.toks}:=by
   refine cL.turnedL (s:={s with heap:=s.heap.push {cls:= .type "tuple",data:= .seq #[u,v]},toks:=s.toks}) (h':=h2) (t':=s.toks) (fp:=[z,p,q,i1,i2]) I0 (fun c o hc e=> ?_) (fun c hc=> ?_) fun c hc=>⟨by rw[bN (Bq (lt c hc))];exact(hf c hc).1,(hf c hc).2⟩
   ·by_cases hcn:c=s.heap.objs.size
    ·subst hcn
     have e:(s.heap.push {cls:= .type "tuple",data:= .seq #[u,v]}).get? s.heap.objs.size=some o:=e;rw[Az _ rfl] at e;cases e;exact i7
    ·have e':=(Lc _ _ _ hcn).symm.trans e
     exact up c o (fun w=>hc (by simp[w])) (hk c o (fun w=>hc (by simp[w])) (fun w=>hc (by simp[w])) (fun w=>hc (by simp[w])) (fun w=>hc (by simp[w])) e')
   ·simp only[Aj,Av,or_false] at hc
    rcases hc with rfl|rfl|rfl|rfl|rfl
    ·exact⟨_,st2.zip⟩
    ·exact⟨_,st2.its⟩
    ·obtain⟨u,v,g⟩:=st2.res
     exact⟨_,g⟩
    ·obtain⟨o,e,_⟩:=st2.one.obj
     exact⟨o,e⟩
    ·obtain⟨o,e,_⟩:=st2.two.obj
     exact⟨o,e⟩
  exact⟨.ref s.heap.objs.size,_,I1,rfl,⟨_,x,y,fun zs hz=>by rw[I.sq_inj hz hq1];exact hx,fun zs hz=>by rw[I.sq_inj hz hq2];exact hy,bj,rfl,rfl⟩,st2,fun c hc=>by
   rw[bN (Bq (lt c hc))];exact(hf c hc).1⟩
 done:=by
  intro X hP hw hK hc i aa s σ H E I hf st hg;subst hP hw hK;obtain⟨xs,ys,hq1,hq2,ef⟩:=hg;obtain⟨us,r1,g1,_⟩:=I.srcA hq1;obtain⟨vs,r2,g2,_⟩:=I.srcA hq2;have l1:=r1.length;have l2:=r2.length;have he:us.toArray[i]? =none∨vs.toArray[i]? =none:=by
   rcases ef with z|z
   ·exact .inl (by simp;lia)
   ·exact .inr (by simp;lia)
  refine ER (I.ok.hd hc) D st g1 g2 he fun h1 hk=>⟨rfl,?_⟩;have fq: ∀c∈[z,q,i1,i2],c∈[z,p,q,i1,i2]:=fun c hc=>by
   simp only[Aj,Av,or_false] at hc⊢;rcases hc with w|w|w|w<;>simp[w]
  have I':=cL.turnedL' (s:=s) (h':=h1) (t':=s.toks) (fp:=[z,q,i1,i2]) I (fun c o hc e=>hk c o (fun w=>hc (by simp[w])) (fun w=>hc (by simp[w])) (fun w=>hc (by simp[w])) (fun w=>hc (by simp[w])) e) fun c hc=>hf c (fq c hc);exact I'
 self:=fun _ i _ _ _ st h=>wpAny_pyIter_zip st.zip h
section
variable{X:Cx}{K:An}{ml:List Nat}{l m:Expr}{pa ta ia pb tb ib:Bool}{f g:VF}{p pos cr:Pos}{es:List Expr}{tk:Nat}{δ:Ev}
def iZp(K:An)(tl tm:TE):TI:=fun σ H R=>tl σ H fun x H1=>tm σ H1 fun y H2=> ∃a b t1 t2,x= .ref a/\y= .ref b/\(∃xs,MR K t1 H2 a xs)/\(∃ys,MR K t2 H2 b ys)/\R (Itz K t1 t2 a b) H2
theorem zE0{tl tm:TE}(hg:Gl X "zip") (hm:X.mg "zip"=none) (hl:PE X l tl) (hr:PE X m tm) (he:Ag (l::[m]) X.env=(false,eval l X.env)::Ag [m] X.env:=by rfl) (he2:Ag (m::[]) X.env=(false,eval m X.env)::Ag [] X.env:=by rfl)
  (hpl:(Er pos (Ag [m] X.env)).any (·.1)=false:=by rfl):PI X (.Tuple es tk cr) (.Call (.Name "zip" p) [l,m] [] pos) (iZp X.K tl tm):=by
 intro aa s σ H R I h;refine Ej (QV I hg hm zG7 ?_ (by decide) (by decide));refine Eb (ZA (bR hl (bR hr YV he2) he pos aa s σ H (fun vs H1=>match vs with
  |[x,y]=> ∃a b t1 t2,x= .ref a/\y= .ref b/\(∃xs,MR X.K t1 H1 a xs)/\(∃ys,MR X.K t2 H1 b ys)/\R (Itz X.K t1 t2 a b) H1
  |_=>False) I h) fun us s1 ⟨vs,H1,I1,r1,q1⟩=> ?_) he hpl
 match vs,r1,q1 with
 |[x,y],r1,q1=>
  obtain⟨a,b,t1,t2,rfl,rfl,⟨xs,hq1⟩,⟨ys,hq2⟩,hR⟩:=q1;obtain⟨u,v,rfl,ru,rv⟩:=GS r1;cases ru;cases rv;obtain⟨us,w1,g1,_⟩:=I1.srcA hq1;obtain⟨vs,w2,g2,_⟩:=I1.srcA hq2;refine D6 g1 g2 fun h' st kp=> ?_;have I2:cL X aa σ H1 {s1 with heap:=h'}:=I1.kept (t':=s1.toks) kp;have ha:=g1.lt;have hb:=g2.lt;have D:Jw (s1.heap.objs.size+4) (s1.heap.objs.size+2) (s1.heap.objs.size+3) s1.heap.objs.size (s1.heap.objs.size+1) a b:=by exact zCL _ a b ha hb
  refine wpAny_pyIter_zip st.zip ⟨s1.heap.objs.size+4,[s1.heap.objs.size+4,s1.heap.objs.size+2,s1.heap.objs.size+3,s1.heap.objs.size,s1.heap.objs.size+1],_,Itz X.K t1 t2 a b,H1,rfl,I2,C5 t1 t2 _ _ _ _ _ a b D,st,fun c hc=> ?_,hR⟩;have hc':s1.heap.objs.size<=c:=by
   simp only[Aj,Av,or_false] at hc;rcases hc with w|w|w|w|w<;>rw[w]<;>first|exact Nat.le_add_right _ _|exact Aw _
  exact I1.fpOk hc' (I1.hok.fresh hc')
theorem zI8(h:X.K=K){tl tm:TE}(hg:Gl X "zip") (hm:X.mg "zip"=none) (hl:PE X l tl) (hr:PE X m tm) (he:Ag (l::[m]) X.env=(false,eval l X.env)::Ag [m] X.env:=by rfl) (he2:Ag (m::[]) X.env=(false,eval m X.env)::Ag [] X.env:=by rfl)
  (hpl:(Er pos (Ag [m] X.env)).any (·.1)=false:=by rfl):PI X (.Tuple es tk cr) (.Call (.Name "zip" p) [l,m] [] pos) (iZp K tl tm):=by subst h;exact zE0 hg hm hl hr he he2 hpl
noncomputable def T1:List dL->List dL->List dL
 |d::ds,e::es=> .tup [d,e]::T1 ds es
 |_,_=>[]
noncomputable def AT(f g:VF):VI:=fun δ=>(f δ).bind fun p=>(g p.2).bind fun q=>(XT p.1).bind fun ds=>(XT q.1).map fun es=>(T1 ds es,q.2)
theorem K6: ∀{ds es:List dL} {i:Nat} {d:dL},(T1 ds es)[i]? =some d-> ∃x y,ds[i]? =some x/\es[i]? =some y/\d= .tup [x,y]
 |[],_,_,_,h=>by simp[T1] at h
 |_::_,[],_,_,h=>by simp[T1] at h
 |x::ds,y::es,0,d,h=>by simp[T1] at h;exact⟨x,y,rfl,rfl,h.symm⟩
 |x::ds,y::es,i+1,d,h=>by
  obtain⟨x',y',h1,h2,h3⟩:=K6 (ds:=ds) (es:=es) (i:=i) (d:=d) (by simpa[T1] using h);exact⟨x',y',by simpa using h1,by simpa using h2,h3⟩
theorem K7: ∀{ds es:List dL},ds.length<=(T1 ds es).length∨es.length<=(T1 ds es).length
 |[],_=> .inl (Du _)
 |_::_,[]=> .inr (Du _)
 |x::ds,y::es=>by
  rcases K7 (ds:=ds) (es:=es) with h|h
  ·exact .inl (Ls h)
  ·exact .inr (Ls h)
def zIF:dL->Bool
 | .tup _=>true
 |_=>false
theorem bP.sqA{N M:Addr->Prop}{H:Hp}{v:V}{d:dL}{ds:List dL}(h:bP K N H M v d)(e:XT d=some ds): ∃a tup xs,v= .ref a/\MR K tup H a xs/\cH K N H xs ds/\tup=zIF d:=by
  cases d<;>first
    | (cases e
       obtain⟨a,xs,h1,h2,h3⟩:=h.tupE;exact⟨a,true,xs,h1,h2,h3,rfl⟩)
    | (cases e
       obtain⟨a,xs,h1,h2,h3⟩:=h.lstE;exact⟨a,false,xs,h1,h2,h3,rfl⟩)
    |cases e
theorem DD(hK:X.K=K)(hg:Gl X "zip") (hm:X.mg "zip"=none) (h:PE X l (TV K ml pa true true f)) (h':PE X m (TV K ml pb true true g)) (he:Ag (l::[m]) X.env=(false,eval l X.env)::Ag [m] X.env:=by rfl) (he2:Ag (m::[]) X.env=(false,eval m X.env)::Ag [] X.env:=by rfl)
  (hpl:(Er pos (Ag [m] X.env)).any (·.1)=false:=by rfl):PI X (.Tuple es tk cr) (.Call (.Name "zip" p) [l,m] [] pos) (TIV K ml (pa && pb) (AT f g)):=(zI8 (K:=K) hK hg hm h h' he he2 hpl).imp fun σ H R hq0=>by
 obtain⟨B,O,δ,ds,δ2,S,q,k⟩:=hq0;unfold AT at q;obtain⟨⟨x,δ1⟩,h1,q⟩:=Aa.mp q;cases h2:g δ1 with
 |none=>simp[h2] at q
 |some p2=>
  obtain⟨y,δ3⟩:=p2;simp only[Ap,h2] at q;obtain⟨xs,h3,q⟩:=Aa.mp q;have q:(XT y).map (fun es=>(T1 xs es,δ3))=some (ds,δ2):=q;obtain⟨ys,h4,q⟩:=Al.mp q;cases q;refine⟨B,O,δ,x,δ1,S,h1,fun v1 H1 R1=>⟨B,O,δ1,y,_,R1.sta,h2,fun v2 H2 R2=> ?_⟩⟩;have r1:=R1.rep.fr R2.frm (fun a z=> .inr z) fun a z=> .inr z;obtain⟨a,t1,us,e1,q1,w1,et1⟩:=r1.sqA h3;obtain⟨b,t2,vs,e2,q2,w2,et2⟩:=R2.rep.sqA h4;refine⟨a,b,t1,t2,e1,e2,⟨us,q1⟩,⟨vs,q2⟩,k _ [(v1,x),(v2,y)] H2 (R2.sta.keepV fun z hz=> ?_) (R1.frm.trans R2.frm) (fun z=> ?_) ?_⟩
  ·simp only[Aj,Av,or_false] at hz
   rcases hz with rfl|rfl
   ·exact r1
   ·exact R2.rep
  ·obtain⟨z1,z2⟩:=(Ad _ _).mp z
   exact(R1.pur z1).trans (R2.pur z2)
  ·intro N H h
   obtain⟨a',t1',us',f1,f2,f3,f4⟩:=(h (v1,x) (by simp)).sqA h3;obtain⟨b',t2',vs',g1,g2,g3,g4⟩:=(h (v2,y) (by simp)).sqA h4;have f1:v1= .ref a':=f1;have g1:v2= .ref b':=g1;rw[e1] at f1;rw[e2] at g1;cases f1;cases g1;have:t1'=t1:=f4.trans et1.symm;subst this;have:t2'=t2:=g4.trans et2.symm;subst this;refine⟨fun i d e=> ?_,us',vs',f2,g2,?_⟩
   ·obtain⟨dx,dy,hx,hy,rfl⟩:=K6 e
    obtain⟨ux,ex,rx⟩:=f3.get hx;obtain⟨uy,ey,ry⟩:=g3.get hy;refine⟨⟨us',vs',ux,uy,f2,g2,ex,ey⟩,fun z H' hz=> ?_⟩;obtain⟨pp,x',y',c1,c2,hp,rfl,rfl⟩:=hz;have d1:=c1 us' f2;have d2:=c2 vs' g2;rw[ex] at d1;rw[ey] at d2;cases d1;cases d2;exact⟨dD hp,.tup (VR.of cG) (.cons (rx.same (dD hp)) (.cons (ry.same (dD hp)) .nil))⟩
   ·rcases K7 (ds:=xs) (es:=ys) with w|w
    ·exact .inl (by rw[f3.length];exact w)
    ·exact .inr (by rw[g3.length];exact w)
end
end L2
namespace L2
open PySem PySem.Spec PyProof.Rows PySem.W
section
variable{prog:Bn}{w:World}{A:De}{E:Value->Ah->Prop}{s:Ah}
theorem IH{t:Addr}{items:Array Value}{Q:List Value->Ah->Prop}(hh:A.handled=none)(ht:IsTup s.heap t items)(h1:1<=items.size)(hz:items.size<=16777216)
  (hQ: ∀(x:Value) (hb:Heap) (tk:Nat),items[0]? =some x->(∀b o,s.heap.get? b=some o->hb.get? b=some o)->Q [x,.ref hb.objs.size] {s with heap:=hb.push {cls:= .type "list",data:= .seq (items.toList.drop 1).toArray},toks:=tk}):
  wpAny (model prog w) A (Ig (.ref t) 2 (some 1)) Q E s:=by
 have hne:t≠s.heap.objs.size:=by obtain⟨o,e,_⟩:=ht;exact Bq (Aq e)
 (unfold Ig)
 refine Ac ?_
 (unfold notIterableAtAll)
 refine Ac (wpAny_specialOf ht.typeIs slot_tuple_iter.lookup (Ao ?_));simp only[Ff,if_false];refine Ac (Cg (iter_tuple ht (Ac (Cg (draw_tuple hne 1 0 _ _ ⟨_,Az _ rfl,rfl,rfl⟩ (ht.push _) (by lia) fun ha ia ba=> ?_)))));have ta:IsTup ha t items:=(ht.push _).extBut ba.extBut hne;have ia:ha.IsTupleIter s.heap.objs.size t 1:=ia;obtain⟨oi,gi,_⟩:=id ia;obtain⟨ot,gt,_⟩:=id ta;have hsz:ha.objs.size=s.heap.objs.size+1:=by rw[ba.1,Dd]
 have mn:((items.toList.drop 0).take 1).length=1:=by simp;lia
 rw[if_neg (show¬((items.toList.drop 0).take 1).length<1 by rw[mn];exact Cp _)];refine Ac (Cg (kun_collect (s:={s with heap:=ha}) (T:= "tuple_iterator") (.inr (.inr (.inr rfl))) (Walks.tuple (A:=A.in1) hh s.heap.objs.size t hne items) (fun j u st=>st.1.typeIs) (k:=1) h1 ⟨ia,ta⟩ (Aq gi) (Aq gt) (fun hb tk kb=> ?_) (by rw[Cj];exact hz)));have nu:(items.toList.drop 1).length=items.size - 1:=by simp
 show wpAny _ _ (if(items.toList.drop 1).length<2 - 1 - 1 then _ else _) _ _ _;rw[if_neg (Nat.not_lt_zero _)];show wpAny _ _ (newList ((items.toList.drop 1).take ((items.toList.drop 1).length - (2 - 1 - 1)))>>=fun d=>pure ((items.toList.drop 0).take 1++[d]++(items.toList.drop 1).drop ((items.toList.drop 1).length - (2 - 1 - 1)))) _ _ _;have e1:(items.toList.drop 1).take ((items.toList.drop 1).length - (2 - 1 - 1))=items.toList.drop 1:=Ck (Aw _);have e2:(items.toList.drop 1).drop ((items.toList.drop 1).length - (2 - 1 - 1))=[]:=Ir;rw[e1,e2];refine Ac (Cw (Ao ?_) (by show _<=sizeLine;rw[Cj];simp;lia));obtain⟨x,hx⟩: ∃x,items[0]? =some x:=⟨items[0],by simp[show 0<items.size by lia]⟩;have e3:(items.toList.drop 0).take 1=[x]:=by
  rw[Kb];have:items.toList[0]? =some x:=by simpa using hx
  cases hl:items.toList with
  |nil=>rw[hl] at this;cases this
  |cons y r=>rw[hl] at this;cases this;rfl
 rw[e3];have keep: ∀b o,s.heap.get? b=some o->hb.get? b=some o:=fun b o e=>kb b o (Bq (Aq e)) (ba.extBut b o (Bq (Aq e)) (Ae _ e));exact hQ x hb tk hx keep
end
section
variable{X:Cx}{K:An}{ml:List Nat}{e a b c:Expr}{es:List Expr}{pa ta ia pb tb ib pc tc ic pu bt bi ps bs:Bool}{fa fb fc f:VF}{B B':Bs}{O:Nat->Option Addr}{H H0 H1 H':Hp}{σ:St}{δ δ':Ev}{v:V}{d:dL}{p:Addr}{pos:Pos}
def zIK(K:An)(i j:Nat):TG:=fun v σ H Q=> ∃a x xs,v= .ref a/\VR K H a (x::xs)/\ ∀p,H p=none->Q ((σ.set i (some x)).set j (some (.ref p))) (aS H p (.lst xs))
theorem zAR{i j:Nat}{x y:Str}{px py ps tp:Pos}{k:Nat}(hc:X.calm=true)(hN:X.N.Nodup)(hi:X.N[i]? =some x)(hj:X.N[j]? =some y)(hx:G3 X.env.scope x)(hy:G3 X.env.scope y)
  (fx:X.fn x=true∨X.env.scope.names.lookup x=some .local) (fy:X.fn y=true∨X.env.scope.names.lookup y=some .local)
  (hl:(assignEach [.Name x px,.Starred (.Name y py) ps] X.env).map (·.2)=[assign (.Name x px) X.env,assign (.Name y py) X.env]) (hn:(assignEach [.Name x px,.Starred (.Name y py) ps] X.env).length=2) (hst:(assignEach [.Name x px,.Starred (.Name y py) ps] X.env).findIdx? (·.1)=some 1):
  PG X (.Tuple [.Name x px,.Starred (.Name y py) ps] k tp) (zIK X.K i j):=by
 intro aa s σ H v u Q I r hw;obtain⟨a,z,zs,e1,hq,q⟩:=hw;subst e1;cases r;obtain⟨its,rv,ht,hz⟩:=I.tuple hq;rw[assign_Tuple];refine Ac (Ft ?_)
 (unfold unpack)
 rw[hn,hst];have am:=rv.length;rw[Bg] at am;have hz':its.length<=16777216:=by rw[<- Cj,<- am];exact hz
 refine Ac (Cg (IH (I.ok.hd hc) ht (by rw[Au];lia) (by rw[Au];exact hz') fun u hb tk hu kp=> ?_));rw[hl];cases rv with
 | @cons _ w _ ws rz rzs=>
  have hu:some w=some u:=by simpa using hu
  cases hu;have I1:cL X aa σ H {s with heap:=hb,toks:=tk}:=I.kept kp;have I2:=cL.lnew (s:={s with heap:=hb,toks:=tk}) (t':=tk) I1 rzs (by rw[Cj];simp only[Bg] at hz' am;have:=rzs.length;lia);refine Fc (Gk (WI I2 hN hi hx rz (fun s3 I3=> ?_) fx));refine Fc (Gk (WI I3 hN hj hy (v:= .ref hb.objs.size) rfl (fun s4 I4=>Ia ⟨_,_,I4,q _ (I1.hok.fresh (Aw _))⟩) fy))
noncomputable def NO(i j:Nat)(f:VF):VS:=fun δ=>(f δ).bind fun p=>match p.1 with
 | .tup (d::ds)=>some (.nx ((p.2.set i (.va d)).set j (.va (.lst ds))))
 |_=>none
theorem GX{i j:Nat}{x y:Str}{px py sp tp:Pos}{k:Nat}(hK:X.K=K)(hc:X.calm=true)(hN:X.N.Nodup)(hi:X.N[i]? =some x)(hj:X.N[j]? =some y)(hij:i≠j)(hx:G3 X.env.scope x)(hy:G3 X.env.scope y)(he:PE X e (TV K ml pu true true f))
  (hmi:i∉ml:=by decide) (hmj:j∉ml:=by decide)
  (fx:X.fn x=true∨X.env.scope.names.lookup x=some .local:=by first|exact .inl rfl|exact .inr rfl|assumption) (fy:X.fn y=true∨X.env.scope.names.lookup y=some .local:=by first|exact .inl rfl|exact .inr rfl|assumption)
  (hl:(assignEach [.Name x px,.Starred (.Name y py) sp] X.env).map (·.2)=[assign (.Name x px) X.env,assign (.Name y py) X.env]:=by rfl) (hn:(assignEach [.Name x px,.Starred (.Name y py) sp] X.env).length=2:=by rfl) (hst:(assignEach [.Name x px,.Starred (.Name y py) sp] X.env).findIdx? (·.1)=some 1:=by rfl)
  (hs:Ex [.Tuple [.Name x px,.Starred (.Name y py) sp] k tp] e pos.line X.env=pure false:=by rfl) (hw:Ey [.Tuple [.Name x px,.Starred (.Name y py) sp] k tp] e X.env=pure none:=by rfl)
  (h1:(assignEach [.Tuple [.Name x px,.Starred (.Name y py) sp] k tp] X.env).map (·.2)=[assign (.Tuple [.Name x px,.Starred (.Name y py) sp] k tp) X.env]:=by rfl):
  PS X (.Assign [.Tuple [.Name x px,.Starred (.Name y py) sp] k tp] e pos) (RE K ml (NO i j f)):=by
 subst hK;refine(OU he (zAR hc hN hi hj hx hy fx fy hl hn hst) hs hw h1).imp fun D σ H hq0=> ?_;obtain⟨B,O,δ,o,S,q,k⟩:=hq0;unfold NO at q;obtain⟨⟨z,δ1⟩,h1,q⟩:=Aa.mp q;refine⟨B,O,δ,z,δ1,S,h1,fun v H1 R=> ?_⟩;cases z with
 |tup ds=>
  cases ds with
  |nil=>cases q
  |cons d ds=>
   cases q;obtain⟨a,xs,rfl,sq,r⟩:=R.rep.tupE;cases r with
   | @cons v0 vs _ _ r1 r2=>
    refine⟨a,v0,vs,rfl,sq,fun p hp=> ?_⟩;have S1:=(R.sta.same (dD (o:= .lst vs) hp)).setVa hmi (r1.same (dD (o:= .lst vs) hp));have N1: ∀c,Nn B (fun j=>if j=i then none else O j) c->Nn B O c:=QD (o:=none);refine k _ _ _ (S1.setVa hmj (.lst cG (fun z=>R.sta.new hp (N1 _ z)) ((r2.same (dD hp)).mono N1)))
 |_=>cases q
end
end L2
namespace L2
open PySem PySem.Spec PyProof.Rows
section
variable{X:Cx}{K:An}{ml:List Nat}{e a b c:Expr}{es:List Expr}{pa ta ia pb tb ib pc tc ic pu bt bi ps bs:Bool}{fa fb fc f:VF}{B B':Bs}{O:Nat->Option Addr}{H H0 H1 H':Hp}{σ:St}{δ δ':Ev}{v:V}{d:dL}{p:Addr}{pos:Pos}
def rInD(K:An)(neg:Bool):R2:=fun x y H Q=> ∃d e ds,Dp K H x d/\Dp K H y e/\(e= .list ds∨e= .tuple ds)/\Dr d=true/\Dr e=true/\Q (.bl (if neg then !ds.any (fun z=>He z d) else ds.any fun z=>He z d)) H
theorem SA{d:Ka}(h:Dr d=true):d.canLay0=true/\d.depth<=64:=by
 unfold Dr at h;simp only[Ad,decide_eq_true_eq] at h;exact h
theorem BG(neg:Bool)(hu:X.A.units+64<cLine):XJ X (Cf (if neg then .NotIn else .In)) (rInD X.K neg):=by
 intro aa s σ H x y v u Q I rx ry h;obtain⟨d,e,ds,hd,he,hk,sd,se,q⟩:=h;obtain⟨as,h1⟩:=I.reads hd rx;obtain⟨bs,h2⟩:=I.reads he ry;obtain⟨c1,d1⟩:=SA sd;obtain⟨c2,d2⟩:=SA se;have fin: ∀k,(k=if neg then !ds.any (fun z=>He z d) else ds.any fun z=>He z d)->EP X aa σ Q (.bool k) s:=fun k hk=>by subst hk;exact⟨.bl _,H,I,rfl,q⟩
 rcases hk with rfl|rfl
 ·have hc : Gr ds = true := by simpa [Fa] using c2
  have ni:Ed ds<=63:=by simp only[Gy] at d2;lia
  have hm:X.A.units+1+min (Ed ds) d.depth<cLine:=by have:=Mi (Ed ds) d.depth;lia
  cases neg with
  |false=>exact SeqAt.in_list_reads h2 h1 hc c1 hm (fin _ rfl)
  |true=>exact SeqAt.notIn_list_reads h2 h1 hc c1 hm (fin _ rfl)
 ·have hc : Gr ds = true := by simpa [Fa] using c2
  have ni:Ed ds<=63:=by simp only[Gy] at d2;lia
  have hm:X.A.units+1+min (Ed ds) d.depth<cLine:=by have:=Mi (Ed ds) d.depth;lia
  cases neg with
  |false=>exact SeqAt.in_tuple_reads h2 h1 hc c1 hm (fin _ rfl)
  |true=>exact SeqAt.notIn_tuple_reads h2 h1 hc c1 hm (fin _ rfl)
theorem P6(h:X.K=K)(hu:X.A.units+64<cLine):XJ X (Cf .In) (rInD K false):=by subst h;exact BG false hu
theorem F0(h:X.K=K)(hu:X.A.units+64<cLine):XJ X (Cf .NotIn) (rInD K true):=by subst h;exact BG true hu
def inE(d:dL)(ds:List dL):Bool:=(DT ds).any fun z=>He z d.pd
noncomputable def YC(neg:Bool)(d e:dL):Option dL:=(XT e).bind fun ds=>if(NI d && NI e)=true then some (.bl (if neg then !inE d ds else inE d ds)) else none
theorem WV{neg:Bool}:Q6 K (rInD K neg) (YC neg):=by
 intro H N N' M M' x y d e c Q hx hy h k;unfold YC at h;obtain⟨ds,hs,h⟩:=Aa.mp h;have h:(if(NI d && NI e)=true then some (dL.bl (if neg then !inE d ds else inE d ds)) else none)=some c:=h;split at h
 ·rename_i hh
  cases h;simp only[NI,Ad] at hh;refine⟨d.pd,e.pd,DT ds,hx.dp hh.1.1,hy.dp hh.2.1,?_,hh.1.2,hh.2.2,k _ fun _ _ _=> .bl _⟩;cases e<;>first
   |(cases hs;exact .inr rfl)
   |(cases hs;exact .inl rfl)
   |cases hs
 ·cases h
def zGO(K:An)(td ty:TE):TE:=fun σ H Q=>td σ H fun x H1=> ∃a,x= .ref a/\((IsD H1 a/\ty σ H1 fun y H2=> ∃o,TY H2 a y o/\Q (o.getD .non) H2)∨ ∃D,KTab K a D/\ty σ H1 fun y H2=> ∃k,y= .str k/\Q ((En k D).getD .non) H2)
theorem BP{ap aj:Pos}{td ty:TE}(hu:X.A.units+1<cLine)(ho:PE X a td)(he:PE X e ty)(m:M1 X a "get" ap e aj):PE X (.Call (.Attribute a "get" ap) [e] [] aj) (zGO X.K td ty):=by
 intro aa s σ H Q I h;refine Kz m.base m.few m.line Il Cz Jl (ZA (ho aa s σ H _ I h) fun u s1 ⟨x,H1,I1,rx,l,ex,q1⟩=> ?_);subst ex;obtain rfl:u=Bp l:=rx;rcases q1 with⟨hd,q1⟩|⟨D,T,q1⟩
 ·obtain⟨t1,t2,_⟩:=AU I1 hd
  refine⟨t1,t2,?_⟩;rw[m.trees];refine Fb rfl (Fj (Fe (ZA (he aa s1 σ H1 _ I1 q1) fun iv s2 ⟨y,H2,I2,ry,ov,g,q2⟩=>Go ?_)));exact zG5 hu I2 g ry fun w' s3 I3 rw'=>⟨_,H2,I3,rw',q2⟩
 ·obtain⟨mq,o,o8,ep,hk,hex,o7,_⟩:=id T
  refine⟨⟨o,I1.kIn _ _ hk,hex.1⟩,fun b q=> ?_,?_⟩
  ·cases q
   exact⟨o,I1.kIn _ _ hk,hex.2.1⟩
  rw[m.trees];refine Fb rfl (Fj (Fe (ZA (he aa s1 σ H1 _ I1 q1) fun iv s2 ⟨y,H2,I2,ry,k,ey,q2⟩=>Go ?_)));subst ey;obtain⟨t,rfl⟩:=ry;have hT:s2.TypeIs (.ref l) "dict":=⟨o,I2.kIn _ _ hk,hex.1⟩;refine Dt Cz hT Ef ?_ (Ge _ _);show wpAny _ _ (dictGet l (.str k t)>>=_) _ _ s2;refine Ac (J1 I2.kIn T (fun d' v' ha hv=>Ao ⟨v',rfl,?_⟩) fun hn=> ?_)
  ·rw[ha] at q2
   exact⟨d',H2,I2.tok _,hv,q2⟩
  ·rw[hn] at q2
   show wpAny _ _ (Kl l (.str k t)>>=_) _ _ _;unfold Kl;rw[if_neg (by rw[mq];exact Ei)];exact Ac (Ao (Ao ⟨.none,rfl,.non,H2,I2.tok _,rfl,q2⟩))
noncomputable def zC4:dL->dL->Option dL
 | .dct ks ds,.str x=>some ((bO ks ds (.inr x)).getD .non)
 |_,_=>none
theorem zA4{ap aj:Pos}(hK:X.K=K)(hu:X.A.units+1<cLine)(ha:PE X a (TV K ml pa ta ia fa))(hb:PE X b (TV K ml pb tb ib fb))(m:M1 X a "get" ap b aj) (hs:(pb || (ta && ia))=true:=by rfl):
  PE X (.Call (.Attribute a "get" ap) [b] [] aj) (TV K ml (pa && pb) ia ia (f2 zC4 fa fb)):=by
 subst hK;refine(BP hu ha hb m).imp fun σ H Q hq0=> ?_;obtain⟨B,O,δ,d,δ2,S,q,k⟩:=hq0;obtain⟨x,δ1,y,h1,h2,h3⟩:=OD q;refine⟨B,O,δ,x,δ1,S,h1,fun v1 H1 R1=> ?_⟩;have fin: ∀v2 H2 (R2:Res X.K ml B O H1 σ pb tb ib H2 δ2 v2 y) o,bP X.K (av B O ia) H2 (av B O ia) o d->Q o H2:=fun v2 H2 R2 o ho=>k o H2 ⟨R2.sta,R1.frm.trans R2.frm,fun z=>by
  obtain⟨z1,z2⟩:=(Ad _ _).mp z;exact(R1.pur z1).trans (R2.pur z2),ho.mono (fun _ z=>z) zCI⟩
 cases x with
 |dct ks ds=>
  cases y with
  |str z=>
   cases h3;generalize hx:dL.dct ks ds=dd at R1;have r1:=R1.rep;cases r1 with
   | @dct _ l kvs ds' qd n r=>
    cases hx;refine⟨l,rfl,.inl ⟨.inl ⟨_,.inl qd⟩,B,O,δ1,_,δ2,R1.sta,h2,fun v2 H2 R2=> ?_⟩⟩;have r2:=R2.rep;cases r2;have h4:H2 l=some (.dK kvs)/\cH X.K (av B O ia) H2 (kvs.map Ep) ds:=by
     cases pb with
     |true=>exact⟨R2.pur rfl _ _ qd,r.same (R2.pur rfl)⟩
     |false=>
      have hs:(ta && ia)=true:=by simpa using hs
      obtain⟨z1,z2⟩:=(Ad _ _).mp hs;subst z1 z2;exact⟨R2.frm _ _ qd fun w=>absurd (.inr w) n,r.fr R2.frm fun a z=> .inr z⟩
    refine⟨_,TY.k (k:= .inr z) h4.1,fin _ _ R2 _ ?_⟩;rcases RV (k:= .inr z) h4.2 with⟨v,d',g1,g2,g3⟩|⟨g1,g2⟩
    ·rw[g1,g2];exact g3
    ·rw[g1,g2];exact .non
   | @ktb _ l D ds' T r=>
    cases hx;refine⟨l,rfl,.inr ⟨D,T,B,O,δ1,_,δ2,R1.sta,h2,fun v2 H2 R2=> ?_⟩⟩;have r2:=R2.rep;cases r2;refine⟨z,rfl,fin _ _ R2 _ ?_⟩;have r':cH X.K (av B O ia) H2 (D.map Ep) ds:=by
     cases pb with
     |true=>exact r.same (R2.pur rfl)
     |false=>
      have hs:(ta && ia)=true:=by simpa using hs
      obtain⟨z1,z2⟩:=(Ad _ _).mp hs;subst z1 z2;exact r.fr R2.frm fun a z=> .inr z
    rcases QP (k:=z) r' with⟨v,d',g1,g2,g3⟩|⟨g1,g2⟩
    ·rw[g1,g2];exact g3
    ·rw[g1,g2];exact .non
   |_=>cases hx
  |_=>cases h3
 |_=>cases h3
end
theorem OB:Bo "all"=some (.builtin "all"):=by decide+kernel
section
variable{X:Cx}{K:An}{ml:List Nat}{e a b c:Expr}{es:List Expr}{pa ta ia pb tb ib pc tc ic pu bt bi ps bs:Bool}{fa fb fc f:VF}{B B':Bs}{O:Nat->Option Addr}{H H0 H1 H':Hp}{σ:St}{δ δ':Ev}{v:V}{d:dL}{p:Addr}{pos:Pos}
theorem zBM{ks:List Bool}{us:List Value}(r:bJ (ks.map V.bl) us){i:Nat}{u:Value}(h:us[i]? =some u): ∃k,ks[i]? =some k/\u= .bool k:=by
 have hl:=r.length;rw[Bz] at hl;have hi:i<us.length:=(Ai.mp h).1;have e:(ks.map V.bl)[i]? =some (.bl ks[i]):=by simp[hl▸hi]
 obtain⟨w,h1,h2⟩:=r.get e;rw[h] at h1;cases h1;exact⟨ks[i],by simp[hl▸hi],h2⟩
theorem E2{ks:List Bool}:(Bt ks.length).all (fun i=>(ks[i]?).getD true)=ks.all id:=by
 induction ks with
 |nil=>rfl
 |cons k ks ih=>
  rw[Bg,Gi,Nc,Nk,Nc,<- ih];rfl
def GH(K:An)(g:List Bool->Bool):RC:=fun xs H Q=> ∃p ks,xs=[.ref p]/\WZ K H p (ks.map V.bl)/\Q (.bl (g ks)) H
theorem C4{prog:Bn}{w:World}{A:De}{ks:List Bool}{us:List Value}(r:bJ (ks.map V.bl) us):TruthOf prog w A (fun i v=>us.toArray[i]? =some v) fun i=>(ks[i]?).getD true:=by
 intro i v s Q E hP hQ;obtain⟨k,h1,rfl⟩:=zBM r (by simpa using hP);have hQ:Q ((ks[i]?).getD true) s:=hQ;rw[h1] at hQ;exact Dy hQ
theorem D3(hc:X.calm=true):Z6 X (.builtin "all") (GH X.K fun ks=>ks.all id):=by
 intro aa s σ H xs us Q I r h;obtain⟨l,ks,rfl,hq,q⟩:=h;obtain⟨u,rfl,rx⟩:=SD r;cases rx;obtain⟨its,rv,pl,hz⟩:=I.list hq;have hl:=pl.isList;have hne:l≠s.heap.objs.size:=by obtain⟨o,g,_⟩:=hl;exact Bq (Aq g)
 have am:=rv.length;rw[Bz] at am;refine call_all_walk (Gm hl ⟨_,_,_,_,_,_,_,rfl,Walks.list (show X.A.in1.handled=none from I.ok.hd hc) s.heap.objs.size l hne its.toArray,⟨⟨_,Az _ rfl,rfl,rfl⟩,?_⟩,C4 rv,fun h' tk hk=> ?_⟩)
 ·obtain⟨o,g,r⟩:=hl
  exact⟨o,Ae _ g,r⟩
 ·rw[Au,<- am,E2]
  exact⟨.bl _,H,I.kept (t':=tk) fun b o g=>hk b o (by simp;exact Bq (Aq g)) (Ae _ g),rfl,q⟩
theorem AW(h:X.K=K)(hc:X.calm=true):Z6 X (.builtin "all") (GH K fun ks=>ks.all id):=by subst h;exact D3 hc
noncomputable def P0:List dL->Option (List Bool)
 |[]=>some []
 | .bl k::ds=>(P0 ds).map fun ks=>k::ks
 |_=>none
theorem FP{N:Addr->Prop}: ∀{xs:List V} {ds:List dL} {ks:List Bool},cH K N H xs ds->P0 ds=some ks->xs=ks.map V.bl
 |_,_,_,.nil,h=>by cases h;rfl
 | _,_,_,@cH.cons _ _ _ v vs d ds h t,e => by
  cases d with
  |bl k=>
   cases h;have e:(P0 ds).map (fun ks=>k::ks)=some _:=e;cases h2:P0 ds with
   |none=>rw[h2] at e;cases e
   |some ks'=>
    rw[h2] at e;cases e;rw[FP t h2,Be]
  |_=>cases e
noncomputable def A8(g:List Bool->Bool):dL->Option dL
 | .lst ds=>(P0 ds).map fun ks=> .bl (g ks)
 |_=>none
abbrev ET:=A8 fun ks=>ks.all id
theorem zDO{g:List Bool->Bool}:DV K (GH K g) (A8 g):=by
 intro H N M x d c Q hx h k;cases d with
 |lst ds=>
  have h:(P0 ds).map (fun ks=>dL.bl (g ks))=some c:=h;obtain⟨ks,h1,h⟩:=Al.mp h;cases h;obtain⟨a,xs,rfl,sq,r⟩:=hx.lstE;have:=FP r h1;subst this;exact⟨a,ks,rfl,sq,k _ fun _ _ _=> .bl _⟩
 |_=>cases h
theorem KW:DV K (GH K fun ks=>ks.all id) ET:=zDO
noncomputable def WA:List dL->Option (List Int)
 |[]=>some []
 | .int i::ds=>(WA ds).map fun ns=>i::ns
 |_=>none
theorem JS{N:Addr->Prop}: ∀{xs:List V} {ds:List dL} {ns:List Int},cH K N H xs ds->WA ds=some ns->xs=ns.map V.int
 |_,_,_,.nil,h=>by cases h;rfl
 | _,_,_,@cH.cons _ _ _ v vs d ds h t,e => by
  cases d with
  |int k=>
   cases h;have e:(WA ds).map (fun ks=>k::ks)=some _:=e;cases h2:WA ds with
   |none=>rw[h2] at e;cases e
   |some ks'=>
    rw[h2] at e;cases e;rw[JS t h2,Be]
  |_=>cases e
theorem rngI{a:Int}{n:Nat}{acc:Array Value}(h:ItemsOf (fun i v=> ∃t,v= .int (a+i*1) t) acc n):bJ ((Bt n).map fun i:Nat=>V.int (a+i)) acc.toList:=by
 obtain⟨h1,h2⟩:=h;have go: ∀(m:Nat) (us:List Value),us.length=m-> ∀k:Nat,(∀(i:Nat) (v:Value),us[i]? =some v-> ∃t,v= .int (a+((k+i:Nat):Int)*1) t)->bJ ((Bt m).map fun i:Nat=>V.int (a+((k+i:Nat):Int))) us:=by
  intro m;induction m with
  |zero=>intro us hl k _;rw[Gf.mp hl];exact .nil
  |succ m ih=>
   intro us hl k hu;cases us with
   |nil=>cases hl
   |cons u us=>
    rw[Gi,Be,Dw];obtain⟨t,ht⟩:=hu 0 u rfl;refine .cons ⟨t,by rw[ht];simp⟩ ?_;have:=ih us (by simpa using hl) (k+1) fun i v e=>by
     obtain⟨t,h⟩:=hu (i+1) v (by simpa using e);exact⟨t,by rw[h,show k+(i+1)=k+1+i by lia]⟩
    have e:((fun i:Nat=>V.int (a+((k+i:Nat):Int)))∘Nat.succ)=fun i:Nat=>V.int (a+((k+1+i:Nat):Int)):=by
     funext i;simp only[Kt,Nat.succ_eq_add_one];rw[show k+(i+1)=k+1+i by lia]
    rw[e];exact this
 have:=go n acc.toList (by simpa using h1) 0 fun i v e=>by
  have:=h2 i v (by simpa using e);simpa using this
 simpa using this
theorem JG:Z6 X (.type "range") (fun xs H Q=> ∃j,xs=[.int j]/\ ∀p,H p=none->Q (.ref p) (aS H p (.ext (rngP p 0 j 1)))):=by
 intro aa s σ H xs us Q I r h;obtain⟨j,rfl,q⟩:=h;obtain⟨u,rfl,t,rfl⟩:=SD r;refine call_range_1 ?_;have hn:=I.hok.fresh (Aw s.heap.objs.size);refine⟨.ref s.heap.objs.size,_,I.laid (a:=s.heap.objs.size) (o:= .ext (rngP s.heap.objs.size 0 j 1)) (t':=s.toks+1+1) (fun _ _ z=>Ae _ z) (Aw _) ?_,rfl,q _ hn⟩;exact⟨⟨_,_,_,Nq ..⟩,⟨_,Az _ rfl⟩,fun h1 h2 ⟨t,u,v,z⟩ k=>⟨t,u,v,k _ z⟩⟩
theorem N2(hc:X.calm=true):Z6 X (.type "list") (fun xs H Q=> ∃(p:Addr) (j:Int),xs=[.ref p]/\H p=some (.ext (rngP p 0 j 1))/\(0<=j/\j<=16777216)/\ ∀l,H l=none->Q (.ref l) (aS H l (.lst ((Bt j.toNat).map fun i:Nat=>V.int (0+i))))):=by
 intro aa s σ H xs us Q I r h;obtain⟨p,j,rfl,hp,hj,q⟩:=h;obtain⟨u,rfl,rx⟩:=SD r;cases rx;obtain⟨⟨t,u,v,z⟩,_⟩:=I.hok p _ hp;have hn:Fw 0 j 1=(j.toNat:Int):=by
  unfold Fw;rw[if_pos (by decide)];split
  ·rw[Int.ediv_one]
   lia
  ·lia
 have p62:(2:Int) ^ 62=4611686018427387904:=by decide
 have p24:(2:Nat) ^ 24=16777216:=by decide
 have sm:Nt 0 j 1=true:=small_one (a:=0) (b:=j) (by rw[p62];decide) (by rw[p62];decide) (by rw[p62];lia) (by rw[p62];lia);refine call_list_range (I.ok.hd hc) z sm hn (by rw[p24];lia) fun h' tk acc c kp hS hI=> ?_;have rv:=rngI hI;refine⟨.ref s.heap.objs.size,_,I.laid (a:=s.heap.objs.size) (o:= .lst ((Bt j.toNat).map fun i:Nat=>V.int (0+i))) (t':=tk) kp (Aw _) ⟨?_,acc.toList,c,rv,by simpa using hS⟩,rfl,q _ (I.hok.fresh (Aw _))⟩;rw[Bz,Gq,Cj];lia
noncomputable def PM(f:VF):VF:=fun δ=>(f δ).bind fun p=>match p.1 with
 | .int j=>if 0<=j/\j<=16777216 then some (.lst (ZT 0 j.toNat),p.2) else none
 |_=>none
theorem zAE{N:Addr->Prop}(lo:Int)(n:Nat):cH K N H ((Bt n).map fun i:Nat=>V.int (lo+i)) (ZT lo n):=by
 unfold ZT;induction (Bt n) with
 |nil=>exact .nil
 |cons x xs ih=>exact .cons (.int _) ih
theorem FK{p1 p2 i3:Pos}(hc:X.calm=true)(hg:Gl X "list") (hm:X.mg "list"=none) (hv:Bo "list"=some (.type "list")) (hg2:Gl X "range") (hm2:X.mg "range"=none) (hv2:Bo "range"=some (.type "range")) (ha:PE X a (TV K ml pa ta ia fa))
  (he:Ag (a::[]) X.env=(false,eval a X.env)::Ag [] X.env:=by rfl) (he2:Ag (.Call (.Name "range" p2) [a] [] i3::[]) X.env=(false,eval (.Call (.Name "range" p2) [a] [] i3) X.env)::Ag [] X.env:=by rfl):
  PE X (.Call (.Name "list" p1) [.Call (.Name "range" p2) [a] [] i3] [] pos) (TN K ml pa (PM fa)):=
 (UL (N2 hc) hg hm hv (bR (UL JG hg2 hm2 hv2 (bR ha YV he) (by decide) (by decide) he) YV he2) (by decide) (by decide) he2).imp fun σ H Q hq0 => by
  obtain⟨B,O,δ,d,δ',S,q,k⟩:=hq0;unfold PM at q;obtain⟨⟨x,δ1⟩,h1,q⟩:=Aa.mp q;cases x with
  |int j=>
   have q:(if 0<=j/\j<=16777216 then some (dL.lst (ZT 0 j.toNat),δ1) else none)=some (d,δ'):=q;split at q
   ·rename_i hj
    cases q;refine⟨B,O,δ,_,_,S,h1,fun v1 H1 R1=> ?_⟩;have r1:=R1.rep;cases r1;refine⟨j,rfl,fun p hp=>⟨p,j,rfl,cG,hj,fun l hl=> ?_⟩⟩;have sm:aC H1 (aS H1 p (.ext (rngP p 0 j 1))):=dD hp;exact k l _ (mkN (R1.sta.same sm) (R1.frm.trans sm.fr) (fun z=>(R1.pur z).trans sm) hl (zAE 0 j.toNat))
   ·cases q
  |_=>cases q
end
section
variable{X:Cx}{K:An}{ml:List Nat}{e:Expr}{es:List Expr}{pu bt bi bs:Bool}{f:VF}{fs:Q8}
theorem dC(h:PE X e (TV K ml pu bt bi f))(hb:(bt && bi)=true:=by rfl):PE X e (TV K ml pu true true f):=by
 obtain⟨h1,h2⟩:=(Ad _ _).mp hb;subst h1 h2;exact h
theorem DC(h:PE X e (TV K ml pu bt bi f))(hb:bi=true:=by rfl):PE X e (TV K ml pu bt true f):=by
 subst hb;exact h
theorem b9(h:PA X es (DQ K ml pu bs fs))(hb:bs=true:=by rfl):PA X es (DQ K ml pu true fs):=by
 subst hb;exact h
theorem K4{st:Stmt}:PS X st (RE K ml fun _=>none):=fun _ _ _ _ _ _ ⟨_,_,_,_,_,q,_⟩=>nomatch q
variable{a b c:Expr}{pa ta ia pb tb ib pc tc ic:Bool}{fa fb fc:VF}{pos:Pos}{δ:Ev}
end
theorem SK: ∀(names:List (Str×NameKind)) (n:Nat) (acc:List (Str×Addr)),cellsFrom n names acc=cellsFrom n names []++acc
 |[],_,_=>rfl
 | (x,k) :: r,n,acc => by
  unfold cellsFrom;split
  ·rw[SK r (n+1) ((x,n)::acc),SK r (n+1) [(x,n)]]
   simp
  ·exact SK r n acc
theorem HH: ∀{names:List (Str×NameKind)} {n:Nat} {x:Str} {c:Addr},(x,c)∈cellsFrom n names []->(x,Cc)∈names
 |[],_,_,_,h=>nomatch h
 | (y,k) :: r,n,x,c,h => by
  unfold cellsFrom at h;split at h
  ·rename_i hk
   rw[SK] at h;rcases Bi.mp h with h|h
   ·exact Am _ (HH h)
   ·cases Ak.mp h
    rw[show k=Cc from beq_iff_eq.mp hk];exact Ax
  ·exact Am _ (HH h)
theorem HG: ∀{names:List (Str×NameKind)} {n:Nat} {x:Str},(x,Cc)∈names-> ∃c,(x,c)∈cellsFrom n names []
 | (y,k) :: r,n,x,h => by
  unfold cellsFrom;rcases Aj.mp h with e|h
  ·cases e
   rw[if_pos (by decide),SK];exact⟨n,Bh _ (Ak.mpr rfl)⟩
  ·split
   ·rw[SK]
    obtain⟨c,hc⟩:=HG (n:=n+1) h;exact⟨c,Bu _ hc⟩
   ·exact HG h
theorem OM: ∀{l:List (Str×Addr)} {x:Str} {c:Addr},(x,c)∈l-> ∃c',l.lookup x=some c'
 | (y,d) :: r,x,c,h => by
  rw[Cd];cases hb:x==y with
  |true=>exact⟨d,rfl⟩
  |false=>
   rcases Aj.mp h with e|h
   ·cases e
    simp at hb
   ·exact OM h
theorem YT: ∀{l m:List (Str×Addr)} {x:Str} {c:Addr},(l++m).lookup x=some c->l.lookup x=some c∨(l.lookup x=none/\m.lookup x=some c)
 |[],_,_,_,h=> .inr ⟨rfl,h⟩
 |(y,d)::r,m,x,c,h=>by
  rw[Dv,Cd] at h;rw[Cd];cases hb:x==y with
  |true=>rw[hb] at h;exact .inl h
  |false=>rw[hb] at h;exact YT h
theorem SJ: ∀{l m:List (Str×Addr)} {x:Str},l.lookup x=none->(l++m).lookup x=m.lookup x
 |[],_,_,_=>rfl
 |(y,d)::r,m,x,h=>by
  rw[Cd] at h;rw[Dv,Cd];cases hb:x==y with
  |true=>rw[hb] at h;cases h
  |false=>rw[hb] at h;exact SJ h
theorem J7{M:Model}{A:De}{E:Value->Ah->Prop}{s:Ah}{scope:Scope}{globals:Addr}{db:List (Str×Addr)}{qual:Str}{outer:Env}{Q:Env->Ah->Prop}
  (hQ:Q (newEnv scope s.heap.objs.size globals (cellsFrom (s.heap.objs.size+1) scope.names db) qual none .none (some outer) builtinsNs) {s with heap:=Mj (s.heap.push {cls:= .type "dict",data:= .dict #[]}) scope.names}):
  wpAny M A (Ke scope globals db [] qual none .none (some outer)) Q E s:=by
 simp only[Ke,Kq,if_true];refine Ac (wpAny_alloc ?_);refine Ac (wpAny_layCells _ (fun name kind cells=>by cases hkc:kind==Cc<;>simp[hkc]) _ _ _ _ ?_);rw[show({s with heap:=s.heap.push {cls:= .type "dict",data:= .dict #[]}}:Ah).heap.objs.size=s.heap.objs.size+1 from Dd ..];rw[Kc];exact Ac (Ao (Ao hQ))
theorem U3: ∀{l m:List (Str×Addr)} {x:Str} {c:Addr},l.lookup x=some c->(l++m).lookup x=some c
 |(y,d)::r,m,x,c,h=>by
  rw[Cd] at h;rw[Dv,Cd];cases hb:x==y with
  |true=>rw[hb] at h;exact h
  |false=>rw[hb] at h;exact U3 h
structure O9(X:Cx)(N':List Str)(ix:List Nat)(scope:Scope):Prop where
 kind:scope.kind= .function
 cel: ∀y∈scope.names,y.2= .cell->scope.names.lookup y.1=some .cell
 names: ∀y∈scope.names,y.2= .local->scope.names.lookup y.1=some .local
 free: ∀y∈scope.names,y.2= .free->X.env.kindOf y.1=some .cell∨X.env.kindOf y.1=some .free
 nd:N'.Nodup
 cap: ∀j,j<ix.length->N'[j]? =(ix[j]?).bind fun i=>X.N[i]?
 capf: ∀x∈N'.take ix.length,scope.names.lookup x=some .free
noncomputable def ZO(X:Cx)(N':List Str)(scope:Scope)(cl:List (Str×Addr))(s1:Ah)(H1:Hp)(fp:List Addr):Cx:=
 {X with N:=N',s₀:=s1,H₀:=H1,env:=compEnvC scope cl s1.heap.objs.size X.env,outer:=X.stack,stack:=X.stack,ex:=fp,fn:=fun x=>scope.names.lookup x==some Cc,pn:=[],xe:=fun _ _=>False}
theorem V6{env:Env}{x:Str}: ∀{l:List (Str×NameKind)},
  ((l.map fun(n,k)=>if(k==Bm && env.scope.kind== .function && env.kindOf n==some .cell) then(n,Cc) else(n,k)).lookup x=some .cell∨
  (l.map fun(n,k)=>if(k==Bm && env.scope.kind== .function && env.kindOf n==some .cell) then(n,Cc) else(n,k)).lookup x=some .free)->(x,Bm)∈l∨(x,Cc)∈l
 |[],h=>by rcases h with z|z<;>cases z
 | (n,k) :: r,h => by
  have h:Kj x ((if(k==Bm && env.scope.kind== .function && env.kindOf n==some .cell)=true then(n,Cc) else(n,k))::r.map fun(n,k)=>if(k==Bm && env.scope.kind== .function && env.kindOf n==some .cell) then(n,Cc) else(n,k))=some .cell∨
   Kj x ((if(k==Bm && env.scope.kind== .function && env.kindOf n==some .cell)=true then(n,Cc) else(n,k))::r.map fun(n,k)=>if(k==Bm && env.scope.kind== .function && env.kindOf n==some .cell) then(n,Cc) else(n,k))=some .free:=h
  by_cases hc:(k==Bm && env.scope.kind== .function && env.kindOf n==some .cell)=true
  ·rw[if_pos hc] at h
   by_cases hx:x=n
   ·subst hx
    have hk:k= .free:=by
     simp only[Ad] at hc;exact beq_iff_eq.mp hc.1.1
    subst hk;exact .inl Ax
   ·have hb:(x==n)=false:=beq_eq_false_iff_ne.mpr hx
    simp only[Cd,hb] at h;rcases V6 (env:=env) h with z|z
    ·exact .inl (Am _ z)
    ·exact .inr (Am _ z)
  ·rw[if_neg hc] at h
   by_cases hx:x=n
   ·subst hx
    rw[Db] at h;rcases h with z|z
    ·cases z;exact .inr Ax
    ·cases z;exact .inl Ax
   ·have hb:(x==n)=false:=beq_eq_false_iff_ne.mpr hx
    simp only[Cd,hb] at h;rcases V6 (env:=env) h with z|z
    ·exact .inl (Am _ z)
    ·exact .inr (Am _ z)
theorem OC{X:Cx}{aa:List (Addr×Obj)}{σ:St}{H2:Hp}{s2:Ah}{E:Value->Ah->Prop}{tg iter elt:Expr}{ifs:List Expr}{scope:Scope}{pos:Pos}{N':List Str}{ix:List Nat}{nl:Nat}{g:TG}{tt:TT}{te:TE}
  {cl:List (Str×Addr)} {J:It} {fp:List Addr} {it:Addr} {tn:Nat->Heap->Prop} {Q:V->Hp->Prop} {RR:Value->Addr->Result->Ah->Prop}
  (hc:X.calm=true) (S:O9 X N' ix scope) (hnl:N'.length=ix.length+nl)
  (d7: ∀x c,cl.lookup x=some c->X.env.cells.lookup x=some c) (lq: ∀x,(x,Bm)∈scope.names-> ∃c,cl.lookup x=some c)
  (blk: ∀(cl:List (Str×Addr)) (s1:Ah) (H1:Hp) (fp:List Addr),Blk (ZO X N' scope cl s1 H1 fp) tg ifs elt g tt te)
  (I2:cL X aa σ H2 s2) (T:G7 X.prog X.w X.K tg J fp it tn) (st2:tn 0 s2.heap) (f2: ∀b∈fp,NX X aa H2 b)
  (h: ∀D,H2 D=none->zCJ D ix nl J g tt te σ H2 fun H'=>Q (.ref D) H')
  (fin: ∀(D C:Addr) (s':Ah) (H':Hp),cL X aa σ H' s'->(∃m,s'.heap.Ns C m)->C≠X.env.locals->(∀x c,X.env.cells.lookup x=some c->c≠C)→
   (∀(σ':St) (s'':Ah) (h'':Heap),cL X aa σ' H' s''->Ew C s''.heap h''->cL X aa σ' H' {s'' with heap:=h''})->Q (.ref D) H'->RR (.ref D) C (.ok .next) s'):
  wpAny (model X.prog X.w) X.A (newList []) (fun acc s₃=>wpAny (model X.prog X.w) X.A (Ke scope X.env.globals cl [] X.env.qual none .none (some X.env)) (fun lx s₄=>
   Kw (model X.prog X.w) X.A (.compStart (.ListComp elt [⟨tg,iter,ifs,0⟩] scope pos) 0 (.ref it) acc {lx with scope:=relabel scope X.env}) (RR acc lx.locals) s₄) E s₃) E s2:=by
 refine Cw (J7 ?_);dsimp only;have I1:cL X aa σ (aS H2 s2.heap.objs.size (.lst [])) {s2 with heap:=s2.heap.push {cls:= .type "list",dict:=none,data:= .seq ([]:List Value).toArray}}:=
  I2.lnew (t':=s2.toks) (ys:=[]) (its:=[]) .nil (Du _)
 have hDn:H2 s2.heap.objs.size=none:=I2.hok.fresh (Aw _);obtain⟨W,⟨m0,w0⟩,turn⟩:=h _ hDn;generalize hs1:({s2 with heap:=s2.heap.push {cls:= .type "list",dict:=none,data:= .seq ([]:List Value).toArray}}:Ah)=s1 at I1;have dz:s2.heap.push {cls:= .type "list",dict:=none,data:= .seq ([]:List Value).toArray}=s1.heap:=by rw[<- hs1]
 rw[dz];have old: ∀b o,s1.heap.get? b=some o->(Mj (s1.heap.push {cls:= .type "dict",data:= .dict #[]}) scope.names).get? b=some o:=fun b o e=>pushCells_keeps _ _ _ _ (Ae _ e);have hns₁:(Mj (s1.heap.push {cls:= .type "dict",data:= .dict #[]}) scope.names).Ns s1.heap.objs.size (fun _=>none):=(Heap.Ns.new s1.heap (.type "dict")).keeps fun b o e=>pushCells_keeps _ _ _ _ e;have okc:=cellsFrom_ok scope.names (s1.heap.push {cls:= .type "dict",data:= .dict #[]}) (s1.heap.objs.size+1) [] ⟨fun _ _ hm=>(nomatch hm),La⟩ (by rw[Dd];exact Aw _);rw[Dd] at okc;generalize hz1:Mj (s1.heap.push {cls:= .type "dict",data:= .dict #[]}) scope.names=h₁ at old hns₁ okc;rw[SK];generalize hnc:cellsFrom (s1.heap.objs.size+1) scope.names []=nc at okc;have ncm: ∀x c,nc.lookup x=some c->(x,Cc)∈scope.names/\h₁.IsCell c none/\s1.heap.objs.size+1<=c:=fun x c e=>by
  have hm:=Ch e;exact⟨HH (n:=s1.heap.objs.size+1) (by rw[hnc];exact hm),okc.empty x c hm⟩
 have nch: ∀x,(x,Cc)∈scope.names-> ∃c,nc.lookup x=some c:=fun x h=>by
  obtain⟨c,hc⟩:=HG (n:=s1.heap.objs.size+1) h;rw[hnc] at hc;exact OM hc
 have ig: ∀b∈fp,b<s2.heap.objs.size:=fun b hb=>by
  obtain⟨o,e,_⟩:=T.obj _ _ st2 b hb;exact Aq e
 have lf:s1.heap.objs.size=s2.heap.objs.size+1:=by rw[<- dz,Dd]
 have md: ∀b o,s2.heap.get? b=some o->s1.heap.get? b=some o:=fun b o e=>by rw[<- dz];exact Ae _ e
 have eg: ∀x c,cl.lookup x=some c->c<s1.heap.objs.size:=fun x c e=>by
  obtain⟨v,q⟩:=I1.cell x c (d7 x c e);exact q.lt
 have nw: ∀b∈DS X.stack,b<s1.heap.objs.size:=fun b hb=>by
  obtain⟨_,o,ho,_⟩:=(I1.stack).mem hb;exact Aq ho
 have okY:(ZO X N' scope (nc++cl) s1 (aS H2 s2.heap.objs.size (.lst [])) fp).Ok:=by
  refine⟨I1.ok.mod,S.kind,I1.ok.glob,I1.ok.blt,Aw _,fun x y c e1 e2=> ?_,fun x hx=> ?_,fun x c hf e=> ?_,I1.ok.hd,I1.ok.frames,.inl rfl,fun b hb=>⟨?_,fun x c e=> ?_⟩,fun b o e=> ?_,
   Eh I1.ok.bsz I1.sz,fun b o e hb=> ?_,fun b hb hb2=> ?_,I1.stack,I1.stkFree⟩
  ·rcases YT e1 with n1|⟨_,o1⟩
   ·rcases YT e2 with n2|⟨_,o2⟩
    ·exact PySem.name_of_addr okc.apart (Ch n1) (Ch n2)
    ·exact absurd (Bf (eg y c o2) (Gs (ncm x c n1).2.2)) (Cp _)
   ·rcases YT e2 with n2|⟨_,o2⟩
    ·exact absurd (Bf (eg x c o1) (Gs (ncm y c n2).2.2)) (Cp _)
    ·exact I1.ok.inj x y c (d7 x c o1) (d7 y c o2)
  ·cases q:nc.lookup x with
   |some c=>exact⟨c,U3 q⟩
   |none=>
    rcases V6 hx with h|h
    ·obtain⟨c,hc⟩:=lq x h
     exact⟨c,(SJ q).trans hc⟩
    ·obtain⟨c,hc⟩:=nch x h
     rw[q] at hc;cases hc
  ·have hx:(x,Cc)∈scope.names:=Ch (beq_iff_eq.mp hf)
   obtain⟨c',hc'⟩:=nch x hx;have:=U3 (m:=cl) hc';have e:(nc++cl).lookup x=some c:=e;rw[this] at e;cases e;exact Gs (ncm x c hc').2.2
  ·exact Bq (Bf (ig b hb) (by show s2.heap.objs.size<=s1.heap.objs.size;rw[lf];exact Im _))
  ·rcases YT e with n1|⟨_,o1⟩
   ·have h1:=ig b hb
    have h2:=(ncm x c n1).2.2;rw[lf] at h2;exact fun z=>absurd (z▸h2) (Nat.not_le_of_lt (Bf h1 (Eh (Im _) (Im _))))
   ·exact(f2 b hb).2.2.2.2.1 x c (d7 x c o1)
  ·exact I1.bs b o e
  ·have:=(f2 b hb)
   obtain⟨o',e',_⟩:=T.obj _ _ st2 b hb;have hlt:=Bf (Aq e) I1.ok.bsz;rcases this.2.2.2.1 with z|z
   ·exact I1.ok.noex b o e z
   ·exact absurd (Bf hlt z) (Cp _)
  ·rcases Aj.mp (I1.stkSub b hb2) with z|z
   ·exact(f2 b hb).2.1 z
   ·exact(f2 b hb).2.2.1 z
 have gq:(YI ix σ++Bj nl none).length=N'.length:=by rw[Br,Jg,hnl];simp[YI]
 have IY:cL (ZO X N' scope (nc++cl) s1 (aS H2 s2.heap.objs.size (.lst [])) fp) [] (YI ix σ++Bj nl none) (aS H2 s2.heap.objs.size (.lst [])) {s2 with heap:=h₁}:=by
  refine⟨okY,?_,I2.bare,Un.kept old,⟨_,hns₁,fun j x v e1 e2 e3=> ?_⟩,fun x c e=> ?_,I1.hok.fresh (Aw _),fun x c e=> ?_,fun p hp=>absurd (show p∈([]:List (Addr×Obj)) from hp) (by simp),I1.hok.kept old,gq⟩
  ·show s2.os=s1.os
   rw[<- hs1]
  ·have hj:j<ix.length:=by
    by_cases hj:j<ix.length
    ·exact hj
    ·exfalso
     have hl:(YI ix σ).length=ix.length:=by simp[YI]
     rw[As (by rw[hl];lia),Df] at e2;split at e2<;>cases e2
   have hl:(YI ix σ).length=ix.length:=by simp[YI]
   rw[Af (by rw[hl];exact hj)] at e2;have hci:=S.cap j hj;obtain⟨i,hi⟩: ∃i,ix[j]? =some i:=⟨ix[j],by simp[hj]⟩;rw[hi] at hci;have hNi:X.N[i]? =some x:=by
    have:N'[j]? =X.N[i]? :=hci;rw[<- this];exact e1
   have hσ:σ[i]? =some (some v):=by
    unfold YI at e2;rw[Dz,hi] at e2;have e2':(σ[i]?).join=some v:=by simpa using e2
    cases q:σ[i]? with
    |none=>rw[q] at e2';cases e2'
    |some o=>rw[q] at e2';rw[show o=some v from e2']
   have hfl:scope.names.lookup x=some .free:=S.capf x (by
    rw[Jn];exact⟨j,by rw[Cn hj];exact e1⟩)
   have bj:(x,Bm)∈scope.names:=Ch hfl;have hpk:X.env.kindOf x=some .cell∨X.env.kindOf x=some .free:=by exact S.free (x,.free) bj rfl
   have mo:Vis X.env.scope x:=by
    rcases hpk with z|z
    ·exact .inr (.inl z)
    ·exact .inr (.inr z)
   obtain⟨m,hn,na⟩:=I1.loc;obtain⟨u,ru,l⟩:=na i x v hNi hσ mo;refine⟨u,ru,?_⟩;rcases l with⟨hk,_⟩|⟨hk,c,ec,z⟩
   ·rcases hpk with q|q<;>rw[hk] at q<;>cases q
   ·obtain⟨c',hc'⟩:=lq x bj
    have:c'=c:=by
     have:=d7 x c' hc';rw[ec] at this;exact(By this).symm
    subst this;have my:nc.lookup x=none:=by
     cases q:nc.lookup x with
     |none=>rfl
     |some d=>
      have:=S.cel (x,.cell) (ncm x d q).1 rfl;rw[hfl] at this;cases this
    refine .inr ⟨R0 hfl,c',(SJ my).trans hc',?_⟩
    ·obtain⟨o,ho,hd⟩:=z
     exact⟨o,old _ _ ho,hd⟩
  ·rcases YT e with n1|⟨_,o1⟩
   ·exact⟨none,(ncm x c n1).2.1⟩
   ·obtain⟨v,o,ho,hd⟩:=I1.cell x c (d7 x c o1)
    exact⟨v,o,old _ _ ho,hd⟩
  ·rcases YT e with n1|⟨_,o1⟩
   ·exact I1.hok.fresh (Gs (ncm x c n1).2.2)
   ·exact I1.freeC x c (d7 x c o1)
 have nq: ∀{pY:List (Addr×Obj)} {σ':St} {H':Hp} {s':Ah},cL (ZO X N' scope (nc++cl) s1 (aS H2 s2.heap.objs.size (.lst [])) fp) pY σ' H' s'->cL X aa σ H' s':=fun{pY σ' H' s'} J'=>
  I1.call' J'.os J'.base J'.hok J'.bare fun b hb=>⟨(f2 b hb).2.2.2.1,(f2 b hb).2.1,(f2 b hb).2.2.2.2.1,(f2 b hb).2.2.2.2.2⟩
 have stat: ∀{H':Hp} {pY:List (Addr×Obj)},(∀b∈fp,H' b=none)->pY=[]-> ∀b∈fp,NX (ZO X N' scope (nc++cl) s1 (aS H2 s2.heap.objs.size (.lst [])) fp) pY H' b:=fun{H' pY} hn hp b hb=>by
  subst hp;refine⟨hn b hb,(okY.exf b hb).1,okY.exfs b hb,.inl hb,(okY.exf b hb).2,fun p hp=>absurd (show p∈([]:List (Addr×Obj)) from hp) (by simp)⟩
 have st1:tn 0 h₁:=T.keep 0 s2.heap h₁ st2 fun b hb o e=>old b o (md b o e);have fr1: ∀b∈fp,(aS H2 s2.heap.objs.size (.lst [])) b=none:=fun b hb=>by
  rw[bN (Bq (ig b hb))];exact(f2 b hb).1
 have loop: ∀s₃:Ah,s₃={s2 with heap:=h₁}→
   Kw (model X.prog X.w) X.A (.compLoop (.ListComp elt [⟨tg,iter,ifs,0⟩] scope pos) 0 (.ref it) (.ref s2.heap.objs.size) (compEnvC scope (nc++cl) s1.heap.objs.size X.env)) (RR (.ref s2.heap.objs.size) s1.heap.objs.size) s₃:=by
  rintro s₃ rfl;refine D7 (fun n s'=> ∃i σ' H' acc,cL (ZO X N' scope (nc++cl) s1 (aS H2 s2.heap.objs.size (.lst [])) fp) [] σ' H' s'/\σ'.take ix.length=YI ix σ/\tn i s'.heap/\(∀b∈fp,H' b=none)/\W i n acc H') ?_ m0
   ⟨0,_,_,[],IY,by rw[Ez (by simp[YI])];exact Ck (by simp[YI]),st1,fr1,w0⟩
  rintro n s' ⟨i,σ',H',acc,J',hσ,st',fr',w'⟩;have Jc:cL (ZO X N' scope (nc++cl) s1 (aS H2 s2.heap.objs.size (.lst [])) fp) [] (YI ix σ++Bj nl none) H' s':=by
   refine J'.weak (by rw[gq];exact J'.len.symm) fun j v e=> ?_;have hl:(YI ix σ).length=ix.length:=by simp[YI]
   by_cases hj:j<ix.length
   ·rw [Af (by rw [hl];exact hj),<- hσ,Cn hj] at e
    exact e
   ·rw [As (by rw [hl];lia),Df] at e
    split at e<;>cases e
  rcases turn i n acc H' w' with⟨stop,q⟩|⟨go,N,hN,step⟩
  ·refine Cm (T.done (ZO X N' scope (nc ++ cl) s1 (aS H2 s2.heap.objs.size (.lst [])) fp) rfl rfl rfl hc i [] s' _ H' (fun _ _ => False) Jc (stat fr' rfl) st' stop) (fun r s4 ⟨hr,I4⟩ => ?_) fun _ _ z => z
   subst hr;have IX:=nq I4;obtain⟨m,hm,_⟩:=I4.loc;exact fin _ _ s4 H' IX ⟨m,hm⟩ (Fo I1.lt) (fun x c e z=>by
    obtain⟨v,q⟩:=I1.cell x c e;have:=q.lt;rw[z] at this;exact Cp _ this) (fun σ'' s'' h'' I'' sb=>cL.offNew I1 I'' I4.free fun b o hb e=>(sb.2 b hb).trans e) q
  ·refine Cm (T.item (ZO X N' scope (nc ++ cl) s1 (aS H2 s2.heap.objs.size (.lst [])) fp) rfl rfl rfl hc i [] s' _ H' (fun _ _ => False) Jc (stat fr' rfl) st' go) (fun r s4 ⟨u,hr,h4⟩ => ?_) fun _ _ z => z
   subst hr;refine Cm h4 (fun _ s5 ⟨x,H5,I5,r5,y5,st5,fr5⟩=> ?_) fun _ _ z=>z;have I5':=I5.pinned (stat fr5 rfl) (T.obj _ _ st5);obtain⟨btg,bts,bel⟩:=blk (nc++cl) s1 (aS H2 s2.heap.objs.size (.lst [])) fp;refine Cm (btg _ s5 _ H5 x u _ I5' r5 (step x H5 y5)) (fun _ s6 ⟨σ6,H6,I6,hσ6,q6⟩=> ?_) fun _ _ z=>z;have UU: ∀{H7:Hp} {s7:Ah} {aw:List V},cL (ZO X N' scope (nc++cl) s1 (aS H2 s2.heap.objs.size (.lst [])) fp) ([]++OS fp s5.heap) σ6 H7 s7->N aw H7→
     ∃m,m<n/\ ∃i σ' H' acc,cL (ZO X N' scope (nc++cl) s1 (aS H2 s2.heap.objs.size (.lst [])) fp) [] σ' H' s7/\σ'.take ix.length=YI ix σ/\tn i s7.heap/\(∀b∈fp,H' b=none)/\W i m acc H':=fun{H7 s7 aw} I7 n7=>by
    obtain⟨m',hm,w7⟩:=hN aw H7 n7;refine⟨m',hm,i+1,σ6,H7,aw,I7.unpinned,hσ6,T.keep _ _ _ st5 fun b hb o e=>(I7.pin (b,o) (Bh _ (Bh _ (V4 hb e)))).1,fun b hb=> ?_,w7⟩;obtain⟨o,e,d⟩:=T.obj _ _ st5 b hb;exact(I7.pin (b,o) (Bh _ (Bh _ (V4 hb e)))).2.1
   refine Cm (bts _ s6 σ6 H6 _ I6 q6) (fun okb s7 ⟨H7,I7,q7⟩=> ?_) fun _ _ z=>z;cases okb with
   |false=>exact UU I7 q7
   |true=>
    refine Cm (bel _ s7 σ6 H7 _ I7 q7) (fun v s8 ⟨y,H8,I8,r8,hD8,hz8,n8⟩=> ?_) fun _ _ z=>z;refine Cm (a8 (X:=ZO X N' scope (nc++cl) s1 (aS H2 s2.heap.objs.size (.lst [])) fp) _ s8 σ6 H8 (.ref s2.heap.objs.size) [y] (.ref s2.heap.objs.size) [v] (fun _ H9=>N (acc++[y]) H9) I8 rfl (.cons r8 .nil)
     ⟨s2.heap.objs.size,acc,y,rfl,rfl,hD8,hz8,n8⟩) (fun _ s9 ⟨_,H9,I9,_,n9⟩=>UU I9 n9) fun _ _ z=>z
 have he:({newEnv scope s1.heap.objs.size X.env.globals (nc++cl) X.env.qual none .none (some X.env) builtinsNs with scope:=relabel scope X.env}:Env)=compEnvC scope (nc++cl) s1.heap.objs.size X.env:=rfl;exact codeAny_compStart_list (loop _ rfl) (T.self _ 0 _ _ _ st1 (loop _ rfl))
theorem BM{X:Cx}{tg iter elt:Expr}{ifs:List Expr}{scope:Scope}{pos:Pos}{N':List Str}{ix:List Nat}{nl:Nat}{wi:TI}{g:TG}{tt:TT}{te:TE}
  (hc:X.calm=true) (S:O9 X N' ix scope) (hnl:N'.length=ix.length+nl) (hi:PI X tg iter wi)
  (blk: ∀(cl:List (Str×Addr)) (s1:Ah) (H1:Hp) (fp:List Addr),Blk (ZO X N' scope cl s1 H1 fp) tg ifs elt g tt te)
  (hs: ∀x,foldedSetIterable iter X.env x=pure x:=by intro _;rfl):PE X (.ListComp elt [⟨tg,iter,ifs,0⟩] scope pos) (CY ix nl wi g tt te):=by
 intro aa s σ H Q I h;rw[eval_ListComp];obtain⟨cl,e1,e2,e3⟩:=FT (env:=X.env) (scope:=scope) fun y hy hf=>I.ok.has y.1 (S.free y hy hf);refine Ie (use:=none) (cl:=cl) rfl hs e1 S.kind S.names (Cm (hi aa s σ H _ I h) (fun xv s₁ h₁=>Cm h₁ (fun itv s₂ h₂=> ?_) fun _ _ e=>e) fun _ _ e=>e);obtain⟨it,fp,tn,J,H2,e,I2,T,st2,f2,q⟩:=h₂;subst e;refine OC (Q:=Q) (RR:=fun acc C=>compPost (model X.prog X.w) X.A X.xe none (EP X aa σ Q) acc C) hc S hnl e2 e3 blk I2 T st2 f2 q ?_;intro D C s' H' I' hm hC1 hC2 hb hq;obtain⟨m,hm⟩:=hm;exact⟨m,hm,fun h'' sb=>⟨.ref D,H',hb σ s' h'' I' sb,rfl,hq⟩⟩
section
variable{X:Cx}{K:An}{ml:List Nat}{pi pt pe pu:Bool}{pos:Pos}{ix:List Nat}{nl:Nat}{f:VF}
noncomputable def LK(N N':List Str)(ix:List Nat)(names:List (Str×NameKind))(k:Str->Option NameKind):Bool:=
 names.all (fun y=>y.2 != .cell || names.lookup y.1==some .cell) && (names.all (fun y=>y.2 != .local || names.lookup y.1==some .local) && (names.all (fun y=>y.2 != .free || (k y.1==some .cell || k y.1==some .free)) &&
  (decide N'.Nodup && ((Bt ix.length).all (fun j=>N'[j]? ==(ix[j]?).bind fun i=>N[i]?) && (N'.take ix.length).all fun x=>names.lookup x==some .free))))
theorem UA{N':List Str}{scope:Scope}(hk:scope.kind= .function)(h:LK X.N N' ix scope.names X.env.kindOf=true):O9 X N' ix scope:=by
 unfold LK at h;simp only[Ad,Gz,Hk,bne_iff_ne,beq_iff_eq,decide_eq_true_eq,Ct] at h;obtain⟨h1,h2,h3,h4,h5,h6⟩:=h;exact⟨hk,fun y hy e=>(h1 y hy).resolve_left fun z=>z e,fun y hy e=>(h2 y hy).resolve_left fun z=>z e,fun y hy e=>(h3 y hy).resolve_left fun z=>z e,h4,h5,h6⟩
abbrev BlkC(X:Cx)(K:An)(N':List Str)(ix:List Nat)(scope:Scope)(tg:Expr)(ifs:List Expr)(elt:Expr)(gg:VG)(pt:Bool)(tb:VB)(pe:Bool)(fe:VF):Prop:=N'.Nodup-> ∀(cl:List (Str×Addr)) (s1:Ah) (H1:Hp) (fp:List Addr),Blk (ZO X N' scope cl s1 H1 fp) tg ifs elt (TGV K (Bt ix.length) gg) (TB K (Bt ix.length) pt tb) (TV K (Bt ix.length) pe true true fe)
theorem aJ{tg iter elt:Expr}{ifs:List Expr}{scope:Scope}{fi:VI}{gg:VG}{tb:VB}{fe:VF}(N':List Str)(ix:List Nat)(nl:Nat)(hi:PI X tg iter (TIV K ml pi fi))(blk:BlkC X K N' ix scope tg ifs elt gg pt tb pe fe)(hc:X.calm=true:=by rfl)(hk:scope.kind= .function:=by rfl)(hok:LK X.N N' ix scope.names X.env.kindOf=true:=by rfl)(hnl:N'.length=ix.length+nl:=by rfl)(hnd:ix.Nodup:=by decide)
  (hs: ∀x,foldedSetIterable iter X.env x=pure x:=by intro _;rfl):PE X (.ListComp elt [⟨tg,iter,ifs,0⟩] scope pos) (TN K ml (pi && pt && pe) (ZI ix nl fi gg tb fe)):=
 (BM hc (UA hk hok) hnl hi (blk (UA hk hok).nd) hs).imp fun _ _ _ h=>GR hnd h
theorem BS{i:Nat}{y:Str}{py dq:Pos}{tg iter elt:Expr}{ifs:List Expr}{scope:Scope}{N':List Str}{wi:TI}{g:TG}{tt:TT}{te:TE}
  (hN:X.N.Nodup) (hi':X.N[i]? =some y) (hy:X.env.scope.names.lookup y=some .local)
  (hc:X.calm=true) (S:O9 X N' ix scope) (hnl:N'.length=ix.length+nl) (hi:PI X tg iter wi)
  (blk: ∀(cl:List (Str×Addr)) (s1:Ah) (H1:Hp) (fp:List Addr),Blk (ZO X N' scope cl s1 H1 fp) tg ifs elt g tt te)
  (hsw:Gx (.ListComp elt [⟨tg,iter,ifs,0⟩] scope pos) (some (.Name y py)) dq.line X.env=pure true:=by rfl)
  (hs: ∀x,foldedSetIterable iter X.env x=pure x:=by intro _;rfl):PS X (.Assign [.Name y py] (.ListComp elt [⟨tg,iter,ifs,0⟩] scope pos) dq) (tAsg (CY ix nl wi g tt te) (FW i)):=by
 intro aa s σ H D I h;rw[exec_Assign_Name_used _ _ _ _ hsw];refine Ac (Ft (Ac ?_));show wpAny _ X.A (do let _<- comprehension (.ListComp elt [⟨tg,iter,ifs,0⟩] scope pos) scope X.env _ (newList []) false (eval iter X.env) (some (assign (.Name y py) X.env))) _ _ s;obtain⟨cl,e1,e2,e3⟩:=FT (env:=X.env) (scope:=scope) fun y hy hf=>I.ok.has y.1 (S.free y hy hf);refine Ac (Cm (Ie (use:=some (assign (.Name y py) X.env)) (cl:=cl) (Q:=fun _ s'=>SP X aa D .next s') rfl hs e1 S.kind S.names
  (Cm (hi aa s σ H _ I h) (fun xv s₁ h₁=>Cm h₁ (fun itv s₂ h₂=> ?_) fun _ _ e=>e) fun _ _ e=>e)) (fun _ s' hq=>Ao (Ao hq)) fun _ _ e=>e)
 obtain⟨it,fp,tn,J,H2,e,I2,T,st2,f2,q⟩:=h₂;subst e;refine OC (Q:=fun v H'=>D.nx (σ.set i (some v)) H') (RR:=fun acc C=>compPost (model X.prog X.w) X.A X.xe (some (assign (.Name y py) X.env)) (fun _ s'=>SP X aa D .next s') acc C) hc S hnl e2 e3 blk I2 T st2 f2 q ?_;intro Dl C s' H' I' hm hC1 hC2 hb hq;obtain⟨m,hm⟩:=hm;show wpAny _ X.A (assign (.Name y py) X.env (.ref Dl)) _ _ _;refine Gk (NR I' hN hi' (.inl hy) (v:= .ref Dl) rfl (fun s'' I'' ⟨a,hsb,ha⟩=> ?_) (.inr hy));have hCa:C≠a:=by
  rcases ha with z|z
  ·rw[z];exact hC1
  ·exact Cq (hC2 y a z)
 exact⟨m,hm.sameBut hsb hCa,fun h'' sb=>⟨_,H',hb _ s'' h'' I'' sb,hq⟩⟩
theorem K5{i:Nat}{y:Str}{py dq:Pos}{tg iter elt:Expr}{ifs:List Expr}{scope:Scope}{fi:VI}{gg:VG}{tb:VB}{fe:VF}(o:Bool)(hN:X.N.Nodup)(N':List Str)(ix:List Nat)(nl:Nat)(hi:PI X tg iter (TIV K ml pi fi))(blk:BlkC X K N' ix scope tg ifs elt gg pt tb pe fe)(hi':X.N[i]? =some y:=by rfl)(hy:X.env.scope.names.lookup y=some .local:=by rfl)
  (hc:X.calm=true:=by rfl) (hk:scope.kind= .function:=by rfl) (hok:LK X.N N' ix scope.names X.env.kindOf=true:=by rfl) (hnl:N'.length=ix.length+nl:=by rfl) (hnd:ix.Nodup:=by decide) (hm:i∉ml:=by decide)
  (hsw:Gx (.ListComp elt [⟨tg,iter,ifs,0⟩] scope pos) (some (.Name y py)) dq.line X.env=pure true:=by rfl)
  (hs: ∀x,foldedSetIterable iter X.env x=pure x:=by intro _;rfl):PS X (.Assign [.Name y py] (.ListComp elt [⟨tg,iter,ifs,0⟩] scope pos) dq) (RE K ml (Z2 i (if o then xO (ZI ix nl fi gg tb fe) else xV (ZI ix nl fi gg tb fe)))):=
 (BS hN hi' hy hc (UA hk hok) hnl hi (blk (UA hk hok).nd) hsw hs).imp fun D σ H h=>zCU (fun σ H Q z=>GR hnd (zGK (pu:=pi && pt && pe) z)) hm h
end
section
variable{X:Cx}{K:An}{H:Hp}
def W8:List Int->Int
 |[]=>0
 |[i]=>i
 |i::j::r=>let m:=W8 (j::r);if i<m then m else i
theorem F5: ∀{ns:List Int} {m:Int},m∈ns->(∀a∈ns,a<=m)->m=W8 ns
 |[i],m,h,_=>Ak.mp h
 | i :: j :: r,m,h,h2 => by
  have sp:W8 (j::r)∈j::r/\ ∀a∈j::r,a<=W8 (j::r):=spec (j::r) (by simp);have h3:=h2 (W8 (j::r)) (Am _ sp.1);have h4:=h2 i Ax;show m=if i<W8 (j::r) then W8 (j::r) else i
  rcases Aj.mp h with e|e
  ·split<;>lia
  ·have h5:=sp.2 m e
   split<;>lia
where
 spec: ∀ns:List Int,ns≠[]->W8 ns∈ns/\ ∀a∈ns,a<=W8 ns
  |[],h=>absurd rfl h
  |[i],_=>⟨Ak.mpr rfl,fun a h=>by rw[Ak.mp h];exact Int.le_refl _⟩
  | i :: j :: r,_ => by
   obtain⟨h1,h2⟩:=spec (j::r) (by simp);show(if i<W8 (j::r) then W8 (j::r) else i)∈_/\ ∀a∈i::j::r,a<=if i<W8 (j::r) then W8 (j::r) else i
   split
   ·refine ⟨Am _ h1,fun a h => ?_⟩
    rcases Aj.mp h with e|e
    ·lia
    ·exact h2 a e
   ·refine ⟨Ax,fun a h => ?_⟩
    rcases Aj.mp h with e|e
    ·lia
    ·have:=h2 a e
     lia
def B4(K:An)(g:List Int->Int):RC:=fun xs H Q=> ∃p ns,xs=[.ref p]/\WZ K H p (ns.map V.int)/\ns≠[]/\Q (.int (g ns)) H
theorem D5(hc:X.calm=true):Z6 X (.builtin "max") (B4 X.K W8):=by
 intro aa s σ H xs us Q I r h;obtain⟨l,ns,rfl,hq,hne,q⟩:=h;obtain⟨u,rfl,rx⟩:=SD r;cases rx;obtain⟨its,rv,pl,hz⟩:=I.list hq;have hi:=RQ rv;obtain⟨xs,ex⟩:=hi.allInts.items;have hns:ns=xs.toList.map (·.1):=by rw[<- hi.numsOf,<- nums_intItems,<- ex]
 have cz:0<ns.length:=List.length_pos_iff.mpr hne;have hsz:0<xs.size:=by rw[hns,Bz,Ea] at cz;exact cz
 have hl:=pl.isList;rw[ex] at hl;refine max_intList (I.ok.hd hc) hl hsz fun v h' tk hv hk=> ?_;obtain⟨t,rfl⟩:=intItems_at hv;obtain⟨b1,b2⟩:=argBest_gt (numAt xs) (xs.size - 1);have e:numAt xs (argBest (fun i j=>decide (numAt xs i>numAt xs j)) (xs.size - 1))=W8 ns:=by
  refine F5 ?_ fun a ha=> ?_
  ·rw[hns,numAt_eq]
   exact PySem.getD_mem (by rw[Bz,Ea];lia)
  ·rw[hns] at ha
   obtain⟨j,hj,rfl⟩:=PySem.mem_getD ha;rw[Bz,Ea] at hj;rw[<- numAt_eq];exact b2 j (by lia)
 exact⟨.int (W8 ns),H,I.kept (t':=tk) hk,⟨t,by rw[e]⟩,q⟩
theorem zIB(h:X.K=K)(hc:X.calm=true):Z6 X (.builtin "max") (B4 K W8):=by subst h;exact D5 hc
noncomputable def A9(g:List Int->Int):dL->Option dL
 | .lst (d::ds)=>(WA (d::ds)).map fun ns=> .int (g ns)
 |_=>none
theorem zDN{g:List Int->Int}:DV K (B4 K g) (A9 g):=by
 intro H N M x d c Q hx h k;cases d with
 |lst ds=>
  cases ds with
  |nil=>cases h
  |cons d ds=>
   have h:(WA (d::ds)).map (fun ns=>dL.int (g ns))=some c:=h;obtain⟨ns,h1,h⟩:=Al.mp h;cases h;obtain⟨a,xs,rfl,sq,r⟩:=hx.lstE;have e:=JS r h1;subst e;refine⟨a,ns,rfl,sq,fun z=> ?_,k _ fun _ _ _=> .int _⟩;subst z;have:=r.length;simp at this
 |_=>cases h
end
section
variable{X:Cx}{K:An}{ml:List Nat}{e a b c:Expr}{es:List Expr}{pa ta ia pb tb ib pc tc ic pu bt bi ps bs:Bool}{fa fb fc f:VF}{B B':Bs}{O:Nat->Option Addr}{H H1 H':Hp}{σ:St}{δ δ':Ev}{v:V}{d:dL}{p:Addr}{pos:Pos}
structure G2(K:An)(x qual:Str)(st:Stmt)(dV:Value)(f:Addr)(fd:Ee):Prop where
 ex: ∃(oc:Value) (od:Option Addr) (kV doc pm:Value) (an:Option Addr) (cdv ct:Value) (osl:Array (Option Value)),
  fd=Hh x qual (ZP st) (aQ st) (c9 st) dV kV doc pm an cdv ct/\K.lookup f=some ⟨oc,od,.func fd,osl⟩/\Hs K cdv qual=true
 kp:Ga K (.ref f)=true
theorem zBF{x qual:Str}{st:Stmt}{dV:Value}{f:Addr}{oc:Value}{od an:Option Addr}{osl:Array (Option Value)}{kV doc pm cdv ct:Value}(l:K.lookup f=some ⟨oc,od,.func (Hh x qual (ZP st) (aQ st) (c9 st) dV kV doc pm an cdv ct),osl⟩)
  (c:Hs K cdv qual=true) (k:Ga K (.ref f)=true):G2 K x qual st dV f (Hh x qual (ZP st) (aQ st) (c9 st) dV kV doc pm an cdv ct):=⟨⟨oc,od,kV,doc,pm,an,cdv,ct,osl,rfl,l,c⟩,k⟩
theorem G2.okV{P:Bn}{w:World}{mg:Str->Option Value}{base:Heap}{x qual:Str}{st:Stmt}{dV:Value}{f:Addr}{fd:Ee}{N ps:List Str}{k:Nat}{g:VS}(F:G2 K x qual st dV f fd)(S:cS N ps (c9 st))(hps:ps.length<=N.length)
  (bm: ∀(cdv:Value) (A:De) (outer:List Env) (s:Ah) (H:Hp) (E:XK),YH k (A.deeper (Ib qual (c9 st) s.heap.objs.size f cdv))→
   PB (LO CX0 P w K mg base N qual (c9 st) f cdv A outer s H E).nox (aQ st) (RE K ml g)):bC P w K mg base CX0 (k+1) f fd ps (spV K ml ps.length (aW N.length ml g)):=by
 obtain⟨oc,od,kV,doc,pm,an,cdv,ct,osl,rfl,lk,hcd⟩:=F.ex;refine zCG lk hcd S (fun vs H Q E h=> ?_) fun A outer s H vs Q E hr hsp=>⟨_,(bm cdv A outer s H E hr).nox,zCH hps hsp⟩;obtain⟨Z,ds,r,os,hn,AV,_⟩:=h;rw[AV.len,hn]
theorem G2.binds{x qual:Str}{st:Stmt}{T f:Addr}{fd:Ee}{ps:List Str}{o:Obj}{its:Array Value}{n m:Nat}{ds:List Value}(F:G2 K x qual st (.ref T) f fd)(ho:K.lookup T=some o)(hs:o.data= .seq its n)
  (h: ∀(kV doc pm:Value) (an:Option Addr) (cdv ct:Value) (us:List Value),us.length=m-> ∃k,bindArgs (Hh x qual (ZP st) (aQ st) (c9 st) (.ref T) kV doc pm an cdv ct) ⟨us,[]⟩=seqItems? (.ref T)>>=k/\k (some its)=pure (ps.zip (us++ds)))
  (hm:m+ds.length=ps.length:=by rfl):RA K fd ps ds:=by
 obtain⟨oc,od,kV,doc,pm,an,cdv,ct,osl,rfl,lk,hcd⟩:=F.ex;intro s us hK hl;obtain⟨k,h1,h2⟩:=h kV doc pm an cdv ct us (by rw[Br] at hl;lia);exact BindsTo.of_defaults rfl (hK _ _ ho) hs h1 h2
structure DefD(P:Bn)(w:World)(K:An)(mg:Str->Option Value)(base:Heap)(x:Str)(k:Nat)(ps:List Str)(sp:Sp)(f:Addr)(v0:V):Prop where
 at_:mg x=some (.ref f)
 ok: ∃fd u0,bC P w K mg base CX0 k f fd ps sp/\RA K fd ps [u0]/\b6 v0 u0
 kp:Ga K (.ref f)=true
def AF(F:b7)(d:dL):b7:=fun ds=>F (ds++[d])
theorem CL{mF:List Nat}{m:Nat}{F:b7}{vs:List V}{Q:VK}{E:XK}(hv: ∀N H M,bP K N H M v d)(hn: ∀a,v≠ .ref a)(h:spV K mF m (AF F d) vs H Q E):spV K mF (m+1) F (vs++[v]) H Q E:=by
 obtain⟨Z,ds,r,os,hl,A,hF,k⟩:=h;have dk: ∀(i:Nat) (a:Addr),(vs++[v])[i]? =some (.ref a)->vs[i]? =some (.ref a):=fun i a h=>by
  by_cases hi:i<vs.length
  ·rwa[Af hi] at h
  ·rw [As (by lia)] at h
   cases hj:i - vs.length with
   |zero=>rw[hj] at h;cases h;exact absurd rfl (hn a)
   |succ j=>rw[hj] at h;simp at h
 have gk: ∀(i:Nat) (u:V),vs[i]? =some u->(vs++[v])[i]? =some u:=fun i u h=>by
  rw[Af (Ai.mp h).1];exact h
 have hP: ∀a,VE mF (vs++[v]) a->VE mF vs a:=fun a ⟨i,hi,e⟩=>⟨i,hi,dk i a e⟩;have hP': ∀a,VE mF vs a->VE mF (vs++[v]) a:=fun a ⟨i,hi,e⟩=>⟨i,hi,gk i _ e⟩;have hZ: ∀a,Zp Z mF (vs++[v]) a->Zp Z mF vs a:=fun a h=>h.imp id (hP a);have hZ': ∀a,Zp Z mF vs a->Zp Z mF (vs++[v]) a:=fun a h=>h.imp id (hP' a);refine⟨Z,ds++[d],r,os,by simp[hl],⟨by simp[A.len],fun i hi=> ?_,fun i x hi e=> ?_,fun i x hi e=> ?_,fun i j a hi hj e1 e2=>A.inj i j a hi hj (dk i a e1) (dk j a e2),A.zin⟩,hF,fun u H' f w rr=>k u H' (f.mono hP) (fun kk i a o e1 e2 e3=>(w kk i a o e1 (gk i _ e2) e3).mono hZ') (rr.mono hZ' hZ')⟩
 ·have:=A.mem i hi
  simp;lia
 ·by_cases hi':i<ds.length
  ·rw[Af hi'] at e
   obtain⟨u,e1,r1⟩:=A.va i x hi e;exact⟨u,gk i u e1,r1.mono hZ hZ⟩
  ·rw [As (by lia)] at e
   cases hj:i - ds.length with
   |zero=>
    rw[hj] at e;cases e;have:i=vs.length:=by have:=A.len;lia
    subst this;exact⟨v,by rw[As (by lia)];simp,hv _ _ _⟩
   |succ j=>rw[hj] at e;simp at e
 ·have hi':=A.mem i hi
  rw[Af hi'] at e;obtain⟨u,e1,w1,z1⟩:=A.ow i x hi e;exact⟨u,gk i _ e1,w1.mono hZ,z1⟩
theorem C7{x:Str}{kk j m:Nat}{qs:List Str}{mF:List Nat}{F:b7}{ff:Addr}{p':Pos}{fs:Q7}(hK:X.K=K)(D:DefD X.prog X.w K X.mg X.base x kk qs (spV K mF (m+1) F) ff v)(hv: ∀N H M,bP K N H M v d)(hn: ∀a,v≠ .ref a)(hr:YH j X.A)(hk:kk<=j)(hg:Gl X x)(ha:PA X (e::es) (TAG K ml ps fs))(hdb:(x==("__debug__":Str))=false:=by decide)
  (he:Ag (e::es) X.env=(false,eval e X.env)::Ag es X.env:=by rfl) (hpl:(Er pos (Ag es X.env)).any (·.1)=false:=by rfl):
  PE X (.Call (.Name x p') (e::es) [] pos) (TV K ml (ps && mF.isEmpty) true true (cZ m mF (AF F d) fs)):=by
 subst hK;obtain⟨fd,u0,F',Bd,hd⟩:=D.ok;refine(GD F' (hr.mono hk) hg D.at_ D.kp Bd (.cons hd .nil) BI ha hdb he hpl).imp fun σ H Q h=> ?_;obtain⟨B,O,δ,as,δ',S,q,k⟩:=PX h;exact⟨B,O,δ,as,δ',S,q,fun vs H' R=>CL hv hn (by have z:spV X.K mF m (AF F d) (vs++[]) H' Q E0:=k vs H' R;rwa[Ca] at z)⟩
noncomputable def WW:List (Str×b7)->Str->Option b7
 |[],_=>none
 |(y,F)::r,x=>if y=x then some F else WW r x
def FN(X:Cx)(K:An)(mF:List Nat)(n:Nat)(tb:List (Str×b7)):Prop:= ∀x F a,WW tb x=some F->Iq K mainGlobals x=some (some (.ref a))->FnAt X a (spV K mF n F)
theorem zA8{mF:List Nat}{n:Nat}:FN X K mF n []:=fun _ _ _ h=>nomatch h
theorem XE{x:Str}{kk j n:Nat}{qs:List Str}{mF:List Nat}{F:b7}{ff:Addr}{tb:List (Str×b7)}(hK:X.K=K)(hm: ∀x a,Iq K mainGlobals x=some (some (.ref a))->X.mg x=some (.ref a))(hr:YH j X.A)
  (D:Def X.prog X.w K X.mg X.base x kk qs (spV K mF n F) ff) (hk:kk<=j) (t:FN X K mF n tb):FN X K mF n ((x,F)::tb):=fun y G a h1 h2=>by
 unfold WW at h1;split at h1
 ·rename_i hxy
  subst hxy;cases h1;have e:=(hm x a h2).symm.trans D.at_;cases e;subst hK;exact D.fnAt hr hk
 ·exact t y G a h1 h2
noncomputable def OE(n:Nat)(mF:List Nat)(tb:List (Str×b7))(i:Nat)(fs:Q7):VF:=fun δ=>match δ[i]? with
 |some (.va (.fn x))=>(WW tb x).bind fun F=>cZ n mF F fs δ
 |_=>none
theorem C9{y:Str}{i n:Nat}{mF:List Nat}{tb:List (Str×b7)}{p':Pos}{fs:Q7}(ht:FN X K mF n tb)(hf:PE X (.Name y p') (U7 i))(ha:PA X (e::es) (TAG K ml ps fs))
  (he:Ag (e::es) X.env=(false,eval e X.env)::Ag es X.env:=by rfl) (hpl:(Er pos (Ag es X.env)).any (·.1)=false:=by rfl):
  PE X (.Call (.Name y p') (e::es) [] pos) (TV K ml (ps && mF.isEmpty) true true (OE n mF tb i fs)):=(BJ hf ha he hpl).imp fun σ H Q h=>by
 obtain⟨B,O,δ,d,δ',S,q,k⟩:=h;unfold OE at q;split at q
 ·rename_i x hx
  obtain⟨F,hF,q⟩:=Aa.mp q;obtain⟨v,e1,r⟩:=S.va i _ hx;cases r with
  |fn h=>
   refine⟨_,e1,_,_,rfl,ht x F _ hF h,?_⟩;obtain⟨B,O,δ,as,δ',S,q,k⟩:=PX (F:=F) (fs:=fs) (K:=K) (ml:=ml) (ps:=ps) (n:=n) (mF:=mF) (σ:=σ) (H:=H) (Q:=Q) ⟨B,O,δ,d,δ',S,q,k⟩;exact⟨B,O,δ,as,δ',S,q,fun vs H' R=>by have z:spV K mF n F (vs++[]) H' Q E0:=k vs H' R;rwa[Ca] at z⟩
 ·cases q
end
section
variable{X:Cx}{K:An}{ml:List Nat}{e a b c:Expr}{es:List Expr}{pa ta ia pb tb ib pc tc ic pu bt bi ps bs:Bool}{fa fb fc f:VF}{B B':Bs}{O:Nat->Option Addr}{H H1 H':Hp}{σ:St}{δ δ':Ev}{v:V}{d:dL}{p:Addr}{pos:Pos}
noncomputable def EG(i:Nat)(F:b7):b7:=fun ds=>(F (ds.take i++ .dct [] []::ds.drop i)).map fun q=>(q.1,q.2.dropLast)
theorem SF.away{N N':Addr->Prop}{q:Addr}{o:HO}(hp:H p=none)(hN: ∀a,N' a->N a∨a=p)(w:SF K N H q d):SF K N' (aS H p o) q d:=by
 cases w with
 |lst q r=>exact .lst (dD hp _ _ q) ((r.away hp _ _ hN).same (dD hp))
 |dct q r=>exact .dct (dD hp _ _ q) ((r.away hp _ _ hN).same (dD hp))
 |dcn q r=>exact .dcn (dD hp _ _ q) ((r.away hp _ _ hN).same (dD hp))
theorem zAB{mF:List Nat}{i:Nat}{F:b7}{vs1:List V}{Q:VK}{E:XK}(hm: ∀j∈mF,j<i)(hp:H p=none)(h:spV K mF (i+1) (EG i F) (vs1++[v]) H Q E):spV K (mF++[i]) (i+2) F (vs1++[.ref p,v]) (aS H p (.dK [])) Q E:=by
 obtain⟨Z,ds,r,os,hl,A,hF,k⟩:=h;obtain⟨ds1,d,rfl⟩: ∃ds1 d,ds=ds1++[d]:=⟨ds.dropLast,ds.getLast (fun z=>by rw[z] at hl;cases hl),(List.dropLast_concat_getLast _).symm⟩;have hd1:ds1.length=i:=by simpa using hl
 have hv1:vs1.length=i:=by have:=A.len;simp at this;lia
 unfold EG at hF;rw[List.take_left' hd1,List.drop_left' hd1] at hF;obtain⟨⟨r',os0⟩,h0,hF⟩:=Al.mp hF;cases hF;have lo: ∀(j:Nat),j<i->(vs1++[.ref p,v])[j]? =(vs1++[v])[j]? :=fun j hj=>by rw[Af (by lia),Af (by lia)]
 have at1:(vs1++[.ref p,v])[i]? =some (.ref p):=by rw[As (by lia),hv1,Jo];rfl
 have at2:(vs1++[.ref p,v])[i+1]? =some v:=by rw[As (by lia),hv1,show i+1 - i=1 by lia];rfl
 have at3:(vs1++[v])[i]? =some v:=by rw[As (by lia),hv1,Jo];rfl
 have dlo: ∀(j:Nat),j<i->(ds1++ .dct [] []::[d])[j]? =(ds1++[d])[j]? :=fun j hj=>by rw[Af (by lia),Af (by lia)]
 have dt1:(ds1++ .dct [] []::[d])[i]? =some (.dct [] []):=by rw[As (by lia),hd1,Jo];rfl
 have dt2:(ds1++ .dct [] []::[d])[i+1]? =some d:=by rw[As (by lia),hd1,show i+1 - i=1 by lia];rfl
 have dt3:(ds1++[d])[i]? =some d:=by rw[As (by lia),hd1,Jo];rfl
 have hP: ∀a,VE (mF++[i]) (vs1++[.ref p,v]) a->VE mF (vs1++[v]) a∨a=p:=fun a q0=>by
  obtain⟨j,hj,e⟩:=q0;rcases Bi.mp hj with hj|hj
  ·exact .inl ⟨j,hj,by rw[<- lo j (hm j hj)];exact e⟩
  ·rw[Ak.mp hj,at1] at e
   cases e;exact .inr rfl
 have hP': ∀a,VE mF (vs1++[v]) a->VE (mF++[i]) (vs1++[.ref p,v]) a:=fun a ⟨j,hj,e⟩=>⟨j,Bu _ hj,by rw[lo j (hm j hj)];exact e⟩;have hZ: ∀a,Zp Z (mF++[i]) (vs1++[.ref p,v]) a->Zp Z mF (vs1++[v]) a∨a=p:=fun a h=>by
  rcases h with h|h
  ·exact .inl (.inl h)
  ·exact(hP a h).imp .inr id
 have hZ': ∀a,Zp Z mF (vs1++[v]) a->Zp Z (mF++[i]) (vs1++[.ref p,v]) a:=fun a h=>h.imp id (hP' a);have up: ∀{u:V} {x:dL},bP K (Zp Z mF (vs1++[v])) H (Zp Z mF (vs1++[v])) u x->bP K (Zp Z (mF++[i]) (vs1++[.ref p,v])) (aS H p (.dK [])) (Zp Z (mF++[i]) (vs1++[.ref p,v])) u x:=fun r=>(r.away hp _ _ hZ hZ).same (dD hp);have nop: ∀{j:Nat},j∈mF->(vs1++[v])[j]? ≠some (.ref p):=fun{j} hj e=>by
  have hj':=A.mem j hj;obtain⟨a,e1,w,_⟩:=A.ow j ((ds1++[d])[j]'hj') hj (by simp);rw[e] at e1;cases e1;obtain⟨o,q,_⟩:=w.soft;rw[hp] at q;cases q
 refine⟨Z,ds1++ .dct [] []::[d],_,os0,by simp[hd1],⟨by simp;lia,fun j hj=> ?_,fun j x hj e=> ?_,fun j x hj e=> ?_,fun j1 j2 a h1 h2 e1 e2=> ?_,fun a h=>let ⟨o,q⟩:=A.zin a h;⟨o,dD hp _ _ q⟩⟩,h0,fun u H' f w rr=>k u H' (fun b o hb hc=>f b o (dD hp _ _ hb) fun z=> ?_) (fun kk j a o e1 e2 e3=> ?_) (rr.mono hZ' hZ')⟩
 ·rcases Bi.mp hj with hj|hj
  ·have:=hm j hj
   simp;lia
  ·rw[Ak.mp hj]
   simp;lia
 ·have hjm : j ∉ mF := fun z => hj (Bu _ z)
  have hji:j≠i:=fun z=>hj (Bh _ (Ak.mpr z));by_cases h1:j<i
  ·rw[dlo j h1] at e
   obtain⟨u,e1,r1⟩:=A.va j x hjm e;exact⟨u,by rw[lo j h1];exact e1,up r1⟩
  ·have hjj:j=i+1:=by
    have:=(Ai.mp e).1;simp at this;lia
   subst hjj;rw[dt2] at e;cases e;obtain⟨u,e1,r1⟩:=A.va i d (fun z=>absurd (hm i z) (Cp _)) dt3;rw[at3] at e1;cases e1;exact⟨v,at2,up r1⟩
 ·rcases Bi.mp hj with hj|hj
  ·rw[dlo j (hm j hj)] at e
   obtain⟨u,e1,w1,z1⟩:=A.ow j x hj e;exact⟨u,by rw[lo j (hm j hj)];exact e1,w1.away hp hZ,z1⟩
  ·have:=Ak.mp hj
   subst this;rw[dt1] at e;cases e;exact⟨p,at1,.dct (kvs:=[]) cG .nil,fun z=>by
    obtain⟨o,q⟩:=A.zin p z;rw[hp] at q;cases q⟩
 ·rcases Bi.mp h1 with h1|h1
  ·rw[lo j1 (hm j1 h1)] at e1
   rcases Bi.mp h2 with h2|h2
   ·rw[lo j2 (hm j2 h2)] at e2
    exact A.inj j1 j2 a h1 h2 e1 e2
   ·rw[Ak.mp h2,at1] at e2
    cases e2;exact absurd e1 (nop h1)
  ·rcases Bi.mp h2 with h2|h2
   ·rw[lo j2 (hm j2 h2)] at e2
    rw[Ak.mp h1,at1] at e1;cases e1;exact absurd e2 (nop h2)
   ·rw[Ak.mp h1,Ak.mp h2]
 ·rcases hP b z with z|z
  ·exact hc z
  ·rw[z,hp] at hb
   cases hb
 ·refine(w kk j a o ?_ ?_ ?_).mono hZ'
  ·rw[Af (Ai.mp e1).1]
   exact e1
  ·rw[lo j (hm j (Di e1))]
   exact e2
  ·rw[List.getElem?_dropLast] at e3
   split at e3
   ·exact e3
   ·cases e3
def IZ(K:An)(ml:List Nat)(pu:Bool)(f:Q7):TA:=fun σ H Q=> ∃B O δ as δ',aR K ml B O H σ δ/\f δ=some (as,δ')/\ ∀vs H',ResG K ml B O H σ pu H' δ' vs as-> ∀vs1 v,vs=vs1++[v]-> ∀p,H' p=none->Q (vs1++[.ref p,v]) (aS H' p (.dK []))
theorem zA3{j:Nat}{ii:Pos}(hb:PE X b (U7 j))(hs:Ag (.Dict [] [] ii::b::[]) X.env=(false,eval (.Dict [] [] ii) X.env)::Ag (b::[]) X.env:=by rfl)(hs2:Ag (b::[]) X.env=(false,eval b X.env)::Ag [] X.env:=by rfl):
  PA X [.Dict [] [] ii,b] (IZ K ml true (aE (fV j) cI)):=(bR KI (bR hb YV hs2) hs).imp fun σ H Q hq0=>by
 obtain⟨B,O,δ,as,δ2,S,q,k⟩:=hq0;unfold aE at q;obtain⟨z,h1,q⟩:=Aa.mp q;cases q;unfold fV at h1;split at h1
 ·rename_i d hd
  cases h1;intro p hp;obtain⟨v,e,r⟩:=S.va j _ hd;exact⟨v,e,k [v] H ⟨S,Fr.refl _ _,fun _=>aC.refl _,.d r .nil⟩ [] v rfl p hp⟩
 ·cases h1
theorem zGI{fs:Q7}(ha:PE X a (TV K ml pa true true fa))(hr:PA X es (IZ K ml ps fs))(hs:Ag (a::es) X.env=(false,eval a X.env)::Ag es X.env:=by rfl):PA X (a::es) (IZ K ml (pa && ps) (aE fa fs)):=(bR ha hr hs).imp fun σ H Q hq0=>by
 obtain⟨B,O,δ,as,δ2,S,q,k⟩:=hq0;unfold aE at q;obtain⟨⟨x,δ1⟩,h1,q⟩:=Aa.mp q;have q:((fs δ1).map fun q=>(AV.d x::q.1,q.2))=some (as,δ2):=q;obtain⟨p2,h2,q⟩:=Al.mp q;cases q;refine⟨B,O,δ,x,δ1,S,h1,fun v1 H1 R1=>⟨B,O,δ1,_,_,R1.sta,h2,fun vs H2 R2 vs1 v hv p hp=>k (v1::vs) H2 ⟨R2.sta,R1.frm.trans R2.frm,fun z=> ?_,.d (R1.rep.fr R2.frm (fun a z=> .inr z) fun a z=> .inr z) R2.rep⟩ (v1::vs1) v (by rw[hv];rfl) p hp⟩⟩;obtain⟨z1,z2⟩:=(Ad _ _).mp z;exact(R1.pur z1).trans (R2.pur z2)
theorem zGH{fs:Q7}{j:Nat}(ha:PE X a (U7 j))(hr:PA X es (IZ K ml ps fs))(hs:Ag (a::es) X.env=(false,eval a X.env)::Ag es X.env:=by rfl):PA X (a::es) (IZ K ml ps (aO j fs)):=(bR ha hr hs).imp fun σ H Q hq0=>by
 obtain⟨B,O,δ,as,δ2,S,q,k⟩:=hq0;unfold aO at q;obtain⟨d,h1,q⟩:=Aa.mp q;have q:((fs δ).map fun q=>(AV.o j::q.1,q.2))=some (as,δ2):=q;obtain⟨p2,h2,q⟩:=Al.mp q;cases q;obtain⟨v,e⟩:=S.slot h1;exact⟨v,e,B,O,δ,_,_,S,h2,fun vs H2 R2 vs1 u hv p hp=>k (v::vs) H2 ⟨R2.sta,R2.frm,R2.pur,.o e R2.rep⟩ (v::vs1) u (by rw[hv];rfl) p hp⟩
def aIf(t:VB)(i j:Nat)(fs:Q7):Q7:=fun δ=>(t δ).bind fun p=>if p.1=true then aO i fs p.2 else aO j fs p.2
theorem zA0{fs:Q7}{j:Nat}{as:List AV}(q:aO j fs δ=some (as,δ')): ∃d as',slot δ j=some d/\fs δ=some (as',δ')/\as= .o j::as':=by
 unfold aO at q;cases h1:slot δ j with
 |none=>rw[h1] at q;cases q
 |some d=>
  rw[h1] at q;have q:((fs δ).map fun q=>(AV.o j::q.1,q.2))=some (as,δ'):=q;cases h2:fs δ with
  |none=>rw[h2] at q;cases q
  |some p2=>
   rw[h2] at q;cases q;exact⟨d,_,rfl,rfl,rfl⟩
theorem zCN{t:VB}{fs:Q7}{i j:Nat}{i4:Pos}(ht:PT X c (TB K ml pc t))(ha:PE X a (U7 i))(hb:PE X b (U7 j))(hr:PA X es (IZ K ml ps fs))(hs:Ag (.IfExp c a b i4::es) X.env=(false,eval (.IfExp c a b i4) X.env)::Ag es X.env:=by rfl):
  PA X (.IfExp c a b i4::es) (IZ K ml (pc && ps) (aIf t i j fs)):=(bR (KJ ht ha hb) hr hs).imp fun σ H Q hq0=>by
 obtain⟨B,O,δ,as,δ2,S,q,k⟩:=hq0;unfold aIf at q;obtain⟨⟨kk,δ1⟩,h1,q⟩:=Aa.mp q;have q:(if kk=true then aO i fs δ1 else aO j fs δ1)=some (as,δ2):=q;refine⟨B,O,δ,kk,δ1,S,h1,fun H1 R1=> ?_⟩;cases kk with
 |true=>
  obtain⟨d,as',e1,e2,rfl⟩:=zA0 q;obtain⟨v,e⟩:=R1.sta.slot e1;exact JX ⟨v,e,B,O,δ1,_,_,R1.sta,e2,fun vs H2 R2 vs1 u hv p hp=>k (v::vs) H2 ⟨R2.sta,R1.frm.trans R2.frm,fun z=>by
   obtain⟨z1,z2⟩:=(Ad _ _).mp z;exact(R1.pur z1).trans (R2.pur z2),.o e R2.rep⟩ (v::vs1) u (by rw[hv];rfl) p hp⟩
 |false=>
  obtain⟨d,as',e1,e2,rfl⟩:=zA0 q;obtain⟨v,e⟩:=R1.sta.slot e1;exact JW ⟨v,e,B,O,δ1,_,_,R1.sta,e2,fun vs H2 R2 vs1 u hv p hp=>k (v::vs) H2 ⟨R2.sta,R1.frm.trans R2.frm,fun z=>by
   obtain⟨z1,z2⟩:=(Ad _ _).mp z;exact(R1.pur z1).trans (R2.pur z2),.o e R2.rep⟩ (v::vs1) u (by rw[hv];rfl) p hp⟩
theorem C8{x:Str}{kk j i:Nat}{qs:List Str}{mF:List Nat}{F:b7}{ff:Addr}{p':Pos}{fs:Q7}(hK:X.K=K)(D:Def X.prog X.w K X.mg X.base x kk qs (spV K (mF++[i]) (i+2) F) ff)(hm: ∀j∈mF,j<i)(hr:YH j X.A)(hk:kk<=j)(hg:Gl X x)(ha:PA X (e::es) (IZ K ml ps fs))(hdb:(x==("__debug__":Str))=false:=by decide)
  (he:Ag (e::es) X.env=(false,eval e X.env)::Ag es X.env:=by rfl) (hpl:(Er pos (Ag es X.env)).any (·.1)=false:=by rfl):
  PE X (.Call (.Name x p') (e::es) [] pos) (TV K ml (ps && mF.isEmpty) true true (cZ (i+1) mF (EG i F) fs)):=by
 subst hK;refine(KH D hr hk hg ha hdb he hpl).imp fun σ H Q h=> ?_;obtain⟨B,O,δ,as,δ',S,q,k⟩:=PX h;refine⟨B,O,δ,as,δ',S,q,fun vs H' R vs1 v hv p hp=> ?_⟩;subst hv;have z:spV X.K mF (i+1) (EG i F) ((vs1++[v])++[]) H' Q E0:=k _ H' R;show spV X.K (mF++[i]) (i+2) F ((vs1++[.ref p,v])++[]) (aS H' p (.dK [])) Q E0;rw[Ca] at z⊢;exact zAB hm hp z
end
section
variable{X:Cx}{K:An}{ml:List Nat}{e a b c:Expr}{es:List Expr}{pa ta ia pb tb ib pc tc ic pu bt bi ps bs:Bool}{fa fb fc f:VF}{pos p':Pos}{d:dL}{x:Str}
theorem vv(i:Nat)(hN:X.N[i]? =some x:=by rfl)(hv:Vis X.env.scope x:=by first|exact Ht rfl|exact Jm (Ht rfl)|exact Jm (Jm rfl))(hd:(x==("__debug__":Str))=false:=by decide)
  (hcd:(x==("__classdict__":Str))=false:=by decide):PE X (.Name x pos) (TV K ml true true true (fV i)):=zCO (IB hN hv hd hcd)
theorem vo(i:Nat)(hN:X.N[i]? =some x:=by rfl)(hv:Vis X.env.scope x:=by first|exact Ht rfl|exact Jm (Ht rfl)|exact Jm (Jm rfl))(hd:(x==("__debug__":Str))=false:=by decide)
  (hcd:(x==("__classdict__":Str))=false:=by decide):PE X (.Name x pos) (TV K ml true false true (fO i)):=zCP (IB hN hv hd hcd)
theorem aM(hu:X.A.units+1<cLine)(ha:PE X a (TV K ml pa ta ia fa))(hb:PE X b (TV K ml pb tb ib fb))(hK:X.K=K:=by rfl)(hx:PC b:=by exact fun _ _=>rfl)(hs:(pb || (ta && ia))=true:=by rfl):PE X (.Subscript a b pos) (TV K ml (pa && pb) ia ia (f2 cT fa fb)):=
 zGJ (kIxA hK hu) zIG ha hb hx hs
theorem veq(hu:X.A.units+64<cLine)(ha:PE X a (TV K ml pa ta ia fa))(hb:PE X b (TV K ml pb tb ib fb))(hK:X.K=K:=by rfl)(hs:(pb || (ta && ia))=true:=by rfl):PE X (.Compare a [.Eq] [b] pos) (TV K ml (pa && pb) true true (f2 Y9 fa fb)):=
 Q4 (kEqD hK hu) s_eq ha hb (aV _) hs
theorem aA(hu:X.A.units+64<cLine)(ha:PE X a (TV K ml pa ta ia fa))(hb:PE X b (TV K ml pb tb ib fb))(hK:X.K=K:=by rfl)(hs:(pb || (ta && ia))=true:=by rfl):PT X (.Compare a [.Eq] [b] pos) (TB K ml (pa && pb) (fB (f2 Y9 fa fb))):=
 bS (kEqD hK hu) s_eq ha hb (aV _) hs
theorem b8{kk j n:Nat}{qs:List Str}{mF:List Nat}{F:b7}{ff:Addr}{fs:Q7}(D:Def X.prog X.w K X.mg X.base x kk qs (spV K mF n F) ff)(hr:YH j X.A)(ha:PA X (e::es) (TAG K ml ps fs))(hK:X.K=K:=by rfl)(hk:kk<=j:=by decide)(hg:Gl X x:=by rfl)(hdb:(x==("__debug__":Str))=false:=by decide)
  (he:Ag (e::es) X.env=(false,eval e X.env)::Ag es X.env:=by rfl) (hpl:(Er pos (Ag es X.env)).any (·.1)=false:=by rfl):
  PE X (.Call (.Name x p') (e::es) [] pos) (TV K ml (ps && mF.isEmpty) true true (cZ n mF F fs)):=zA5 hK D hr hk hg ha hdb he hpl
theorem XX(hm:X.mg "len"=none) (ha:PE X a (TV K ml pa ta ia fa)) (hK:X.K=K:=by rfl) (hg:Gl X "len":=by rfl) (he:Ag (a::[]) X.env=(false,eval a X.env)::Ag [] X.env:=by rfl):PE X (.Call (.Name "len" p') [a] [] pos) (TV K ml pa true true (f1 ZH fa)):=
 O7 (zID hK) zH2 hg hm zG8 ha (by decide) (by decide) he
theorem DH{n:String}(hm:X.mg x=none)(hv:Bo x=some (.type n))(hg:Gl X x:=by rfl)(hn:x≠ "__name__":=by decide) (hd:(x==("__debug__":Str))=false:=by decide):PE X (.Name x pos) (TV K ml true true true (fC (.ty n))):=
 FJ (zAU (v:= .ty n) hg hm hv rfl hn hd) fun _ _ _=> .ty _
theorem O8(hm:X.mg "isinstance"=none) (ha:PE X a (TV K ml pa ta ia fa)) (hb:PE X b (TV K ml pb tb ib fb)) (hK:X.K=K:=by rfl) (hg:Gl X "isinstance":=by rfl)
  (he:Ag (a::[b]) X.env=(false,eval a X.env)::Ag [b] X.env:=by rfl) (he2:Ag (b::[]) X.env=(false,eval b X.env)::Ag [] X.env:=by rfl) (hpl:(Er pos (Ag [b] X.env)).any (·.1)=false:=by rfl) (hs:(pb || (ta && ia))=true:=by rfl):
  PE X (.Call (.Name "isinstance" p') [a,b] [] pos) (TV K ml (pa && pb) true true (f2 VL fa fb)):=NU (kIsi hK) zH3 hg hm N0 ha hb (by decide) (by decide) he he2 hpl hs
end
def A4(K:An)(x:Str)(st:Stmt)(f:Addr):Prop:= ∃(oc:Value) (od:Option Addr) (kV doc pm:Value) (an:Option Addr) (cdv ct:Value) (osl:Array (Option Value)),Iq K mainGlobals x=some (some (.ref f))∧
 K.lookup f=some ⟨oc,od,.func (Hh x x (ZP st) (aQ st) (c9 st) .none kV doc pm an cdv ct),osl⟩/\Hs K cdv x=true/\Ga K (.ref f)=true
theorem a4{K:An}{x:Str}{st:Stmt}{f:Addr}{oc:Value}{od:Option Addr}{kV doc pm:Value}{an:Option Addr}{cdv ct:Value}{osl:Array (Option Value)}(a:Iq K mainGlobals x=some (some (.ref f)))
  (b:K.lookup f=some ⟨oc,od,.func (Hh x x (ZP st) (aQ st) (c9 st) .none kV doc pm an cdv ct),osl⟩) (c:Hs K cdv x=true) (d:Ga K (.ref f)=true):A4 K x st f:=⟨oc,od,kV,doc,pm,an,cdv,ct,osl,a,b,c,d⟩
theorem A4.ns{K:An}{x:Str}{st:Stmt}{f:Addr}(p:A4 K x st f):Iq K mainGlobals x=some (some (.ref f)):=by
 obtain⟨_,_,_,_,_,_,_,_,_,a,_⟩:=p;exact a
theorem Z8{P:Bn}{w:World}{K:An}{mg:Str->Option Value}{base h:Heap}{x:Str}{st:Stmt}{f:Addr}{ps:List Str}{sp:Sp}{k:Nat}(X:K.In h)(G:h.Ns mainGlobals mg)(p:A4 K x st f)(ok: ∀{fd:Ee},X4 K x x st f fd->bC P w K mg base CX0 k f fd ps sp)
  (hb: ∀{kV doc pm:Value} {an:Option Addr} {cdv ct:Value} (us:List Value),us.length=ps.length->bindArgs (Hh x x (ZP st) (aQ st) (c9 st) .none kV doc pm an cdv ct) ⟨us,[]⟩=pure (ps.zip us)):Def P w K mg base x k ps sp f:=by
 obtain⟨oc,od,kV,doc,pm,an,cdv,ct,osl,a,b,c,d⟩:=p;have U:=AM (st:=st) b c d;exact⟨Fg X G a,⟨_,ok U,U.binds fun _ _ _ _ _ _=>hb⟩,d⟩
theorem W0(P:Bn)(w:World)(K:An)(mg:Str->Option Value)(base:Heap){x qual:Str}{st:Stmt}{f:Addr}{fd:Ee}(N ps:List Str)(k:Nat)(g:VS)(ml:List Nat)(F:X4 K x qual st f fd)(S:cS N ps (c9 st))
  (bm: ∀(cdv:Value) (A:De) (outer:List Env) (s:Ah) (H:Hp) (E:XK) (hr:YH k (A.deeper (Ib qual (c9 st) s.heap.objs.size f cdv))) (_:(A.deeper (Ib qual (c9 st) s.heap.objs.size f cdv)).units+64<cLine) (_:(A.deeper (Ib qual (c9 st) s.heap.objs.size f cdv)).units+1<cLine),
   PB (LO CX0 P w K mg base N qual (c9 st) f cdv A outer s H E).nox (aQ st) (RE K ml g)) (hps:ps.length<=N.length:=by decide):bC P w K mg base CX0 (k+1) f fd ps (spV K ml ps.length (aW N.length ml g)):=
 X4.okV F S hps fun cdv A outer s H E hr=>bm cdv A outer s H E hr hr.units (zCE hr)
theorem aG{N P:List Str}{sc:Scope}(a:sc.kind= .function:=by rfl)(b:sc.isCoroutine=false:=by rfl)(c:sc.isGenerator=false:=by rfl)(d:N.Nodup:=by decide+kernel)(e:N.take P.length=P:=by rfl)
  (f: ∀x∈P,sc.names.lookup x=some .local∨sc.names.lookup x=some .cell:=by decide+kernel) (g: ∀y∈sc.names,y.2≠Bm:=by decide+kernel):cS N P sc:=⟨a,b,c,d,e,f,g⟩
variable{X:Cx}{K:An}{H:Hp}{σ:St}{s:Ah}{aa:List (Addr×Obj)}{ml:List Nat}{pa ta ia:Bool}{fa:VF}{a:Expr}{p' pos:Pos}
section
variable{X:Cx}{K:An}{ml:List Nat}{e a b c:Expr}{es:List Expr}{pa pb pu bs:Bool}{fv:VF}{fs:Q8}{B:Bs}{O:Nat->Option Addr}{H H1 H':Hp}{σ:St}{δ δ':Ev}{v:V}{d:dL}{pos p2:Pos}
noncomputable def kyD:dL->Option Ky
 | .non=>some none
 | .int i=>some (some (.inl i))
 | .str x=>some (some (.inr x))
 |_=>none
theorem bP.ky{N M:Addr->Prop}{k:Ky}(h:bP K N H M v d)(e:kyD d=some k):v=IP k:=by
 cases h<;>first
  |(cases e;rfl)
  |cases e
noncomputable def EM:List dL->Option (List Ky)
 |[]=>some []
 |d::ds=>(kyD d).bind fun k=>(EM ds).map fun ks=>k::ks
theorem L3{N:Addr->Prop}: ∀{xs:List V} {ds:List dL} {ks:List Ky},cH K N H xs ds->EM ds=some ks->xs=ks.map IP
 |_,_,_,.nil,h=>by cases h;rfl
 |_,_,ps,@cH.cons _ _ _ v vs d ds h t,e=>by
  have e:(kyD d).bind (fun p=>(EM ds).map fun ps=>p::ps)=some ps:=e;obtain⟨p,h1,e⟩:=Aa.mp e;obtain⟨qs,h2,e⟩:=Al.mp e;cases e;rw[Be,<- L3 t h2,h.ky h1]
noncomputable def OL(ks:List (List Ky))(ds:List dL)(k:List Ky):Option dL:=match ks,ds with
 |k'::ks,d::ds=>if k'=k then some d else OL ks ds k
 |_,_=>none
theorem NG{N:Addr->Prop}{k:List Ky}: ∀{kvs:List (List Ky×V)} {ds:List dL} {d:dL},cH K N H (kvs.map Ep) ds->OL (kvs.map Ds) ds k=some d-> ∃v,SZ kvs k=some v/\bP K N H N v d
 |[],_,_,.nil,e=>by cases e
 | (k',v) :: kvs,_,d,.cons h t,e => by
  by_cases hk:k'=k
  ·simp[OL,hk] at e
   subst e;exact⟨v,U9 (p:=(k',v)) hk,h⟩
  ·obtain ⟨w,h1,h2⟩ := NG (k := k) (d := d) t (by simpa [OL,hk] using e)
   exact⟨w,(WJ (p:=(k',v)) hk).trans h1,h2⟩
noncomputable def SX(δ:Ev)(i:Nat):Option (List (List Ky)×List dL):=match δ[i]? with
 |some (.ow (.dcn ks ds))=>some (ks,ds)
 |_=>none
theorem EV{i:Nat}{z:List (List Ky)×List dL}(h:SX δ i=some z):δ[i]? =some (.ow (.dcn z.1 z.2)):=by
 unfold SX at h;split at h
 ·cases h;assumption
 ·cases h
theorem aR.owN{i:Nat}{z:List (List Ky)×List dL}(S:aR K ml B O H σ δ)(h:SX δ i=some z): ∃(l:Addr) (kvs:List (List Ky×V)),O i=some l/\σ[i]? =some (some (.ref l))/\H l=some (.dT kvs)/\kvs.map Ds=z.1/\cH K (Nn B O) H (kvs.map Ep) z.2:=by
 obtain⟨z1,z2⟩:=z;obtain⟨l,e1,e2,w⟩:=S.ow i _ (EV h);have w:SF K (Nn B O) H l (.dcn z1 z2):=w;generalize hw:dL.dcn z1 z2=dd at w;cases w with
 |lst _ _=>cases hw
 |dct _ _=>cases hw
 |dcn q r=>cases hw;exact⟨l,_,e1,e2,q,rfl,r⟩
noncomputable def P1(i:Nat)(fs:Q8):VF:=fun δ=>(SX δ i).bind fun _=>(fs δ).bind fun p=>if p.1.length<=16777216 then(EM p.1).bind fun k=>(SX p.2 i).bind fun z=>(OL z.1 z.2 k).map fun d=>(d,p.2) else none
theorem vixN{i:Nat}{x1}(hu:X.A.units+1<cLine)(ho:PE X a (U7 i))(hb:PA X es (DQ K ml pu bs fs))(hx:PC (.Tuple es x1 p2):=by exact fun _ _=>rfl):PE X (.Subscript a (.Tuple es x1 p2) pos) (TV K ml pu true true (P1 i fs)):=(zC1 (zCB hu) ho (OR hb) hx).imp fun σ H Q hq0=>by
 obtain⟨B,O,δ,d,δ',S,q,k⟩:=hq0;unfold P1 at q;obtain⟨z0,h0,q⟩:=Aa.mp q;obtain⟨⟨ds,δ1⟩,h1,q⟩:=Aa.mp q;split at q
 ·rename_i hl
  obtain⟨ks,h2,q⟩:=Aa.mp q;obtain⟨z,h3,q⟩:=Aa.mp q;obtain⟨d',h4,q⟩:=Al.mp q;cases q;obtain⟨l,kv0,e1,e2,_⟩:=S.owN h0;refine⟨.ref l,e2,B,O,δ,ds,δ1,S,h1,fun vs H1 R=>⟨by rw[R.rep.length,Cj];exact hl,fun p hp=> ?_⟩⟩;have ev:=L3 R.rep h2;subst ev;obtain⟨l',kvs,g1,_,g3,g4,g5⟩:=R.sta.owN h3;rw[e1] at g1;cases g1;have g4:kvs.map Ds=z.1:=g4;rw[<- g4] at h4;obtain⟨w,h5,h6⟩:=NG g5 h4;have hne:l≠p:=fun z=>by rw[z] at g3;rw[g3] at hp;cases hp
  refine⟨l,w,rfl,h5▸TY.t (by rw[bN hne];exact g3) cG,k _ _ ⟨R.sta.same (dD hp),R.frm.trans (dD hp).fr,fun z=>(R.pur z).trans (dD hp),h6.same (dD hp)⟩⟩
 ·cases q
theorem DF:PE X (.Dict [] [] pos) (TN K ml true (fC (.dcn [] []))):=BO.imp fun σ H Q hq0=>by
 obtain⟨B,O,δ,d,δ',S,q,k⟩:=hq0;cases q;exact fun p hp=>k p _ ⟨S.laid hp,(Fr.refl _ _).trans (dD hp).fr,fun _=>(aC.refl _).trans (dD hp),.dcn (kvs:=[]) cG .nil,S.new hp,S.fresh hp⟩
noncomputable def N7:List (List Ky)->List dL->List Ky->dL->List (List Ky)×List dL
 |k'::ks,d::ds,k,v=>if k'=k then(k'::ks,v::ds) else let r:=N7 ks ds k v;(k'::r.1,d::r.2)
 |_,_,k,v=>([k],[v])
noncomputable def XB(i:Nat)(fs:Q8)(fv:VF):VS:=fun δ=>(fv δ).bind fun p=>(SX p.2 i).bind fun _=>(fs p.2).bind fun q=>if q.1.length<=16777216 then(EM q.1).bind fun k=>(SX q.2 i).bind fun z=>if z.1.length<16777216/\z.1.Nodup then some (.nx (q.2.set i (.ow (let r:=N7 z.1 z.2 k p.1;.dcn r.1 r.2)))) else none else none
theorem KP{N:Addr->Prop}{k:List Ky}{v:V}(h:bP K N H N v d): ∀{kvs:List (List Ky×V)} {ds:List dL},(kvs.map Ds).Nodup->cH K N H (kvs.map Ep) ds→
  (YJ kvs k v).map Ds=(N7 (kvs.map Ds) ds k d).1/\cH K N H ((YJ kvs k v).map Ep) (N7 (kvs.map Ds) ds k d).2
 |[],_,_,.nil=>⟨rfl,.cons h .nil⟩
 | (k',u) :: kvs,_,nd,.cons hu t => by
  obtain⟨n1,n2⟩:=Cb.mp nd;by_cases hk:k'=k
  ·subst hk
   have e:YJ ((k',u)::kvs) k' v=(k',v)::kvs:=by
    unfold YJ;rw[if_pos (by simp)];simp only[Be,if_true];congr 1;refine(Dq fun p hp=> ?_).trans (List.map_id _);have:p.1≠k':=fun z=>n1 (Ay.mpr ⟨p,hp,z⟩);simp[this]
   rw[e];exact⟨by simp[N7],by simpa[N7] using cH.cons h t⟩
  ·obtain⟨h1,h2⟩:=KP (k:=k) h n2 t
   have e:YJ ((k',u)::kvs) k v=(k',u)::YJ kvs k v:=by
    unfold YJ;simp only[Hc,hk,decide_false,Kr];split<;>simp[hk]
   rw[e];simp only[Be,N7,hk,if_false];exact⟨by rw[h1],.cons hu h2⟩
theorem MA{N:Addr->Prop}{l:Addr}{o:HO}{xs:List V}{ds:List dL}{kvs:List (List Ky×V)}(ho:H l=some (.dT kvs))(hN:N l)(h:cH K N H xs ds):cH K N (aS H l o) xs ds:=
 h.fr (P:=fun b=>b=l) (fun b u q n=>by
  by_cases hb:b=l
  ·subst hb
   rw[ho] at q;cases q;exact absurd (n rfl) fun z=>z
  ·rw[bN hb]
   exact q) fun a z=>z▸hN
theorem VA{i:Nat}{x1}{ar:Pos}(hu:X.A.units+1<cLine)(ho:PE X a (U7 i))(hk:PA X es (DQ K ml pa bs fs))(hv:PE X c (TV K ml pb true true fv))(hs:Gx c (some (.Subscript a (.Tuple es x1 p2) ar)) pos.line X.env=pure false):
  PS X (.Assign [.Subscript a (.Tuple es x1 p2) ar] c pos) (RE K ml (XB i fs fv)):=(GF hu ho (OR hk) hv hs).imp fun D σ H hq0=>by
 obtain⟨B,O,δ,o,S,q,k⟩:=hq0;unfold XB at q;obtain⟨⟨z,δ1⟩,h1,q⟩:=Aa.mp q;obtain⟨z0,h0,q⟩:=Aa.mp q;obtain⟨⟨ds,δ2⟩,h2,q⟩:=Aa.mp q;split at q
 ·rename_i hl
  obtain⟨ks,h3,q⟩:=Aa.mp q;obtain⟨zz,h4,q⟩:=Aa.mp q;split at q
  ·rename_i hz
   cases q;refine⟨B,O,δ,z,δ1,S,h1,fun v1 H1 R1=> ?_⟩;obtain⟨l,kv0,e1,e2,_⟩:=R1.sta.owN h0;refine⟨.ref l,e2,B,O,δ1,ds,δ2,R1.sta,h2,fun vs H2 R2=>⟨by rw[R2.rep.length,Cj];exact hl,fun p hp=> ?_⟩⟩;have ev:=L3 R2.rep h3;subst ev;have S3:=R2.sta.same (dD (o:= .tup (ks.map IP)) hp);obtain⟨l',kvs,g1,_,g3,g4,g5⟩:=S3.owN h4;rw[e1] at g1;cases g1;rw[<- g4] at hz;have rv:=(R1.rep.fr R2.frm (fun a z=> .inr z) fun a z=> .inr z).same (dD (o:= .tup (ks.map IP)) hp);obtain⟨w1,w2⟩:=KP (k:=ks) rv hz.2 g5;refine⟨l,_,rfl,IT.t g3 cG (by rw[Cj];simpa using hz.1),k σ _ O (S3.wrote e1 (fun z=>z) ?_)⟩;have w:SF K (Nn B O) (aS (aS H2 p (.tup (ks.map IP))) l (.dT (YJ kvs ks v1))) l (.dcn ((YJ kvs ks v1).map Ds) _):= .dcn cG (MA g3 (.inr ⟨i,e1⟩) w2);rw[w1,g4] at w;exact w
  ·cases q
 ·cases q
end
end L2
namespace L2
open PySem
section
variable{α β:Type}{d x y z c:dL}{δ δ1 δ':Ev}{fa fb fc:VF}{o o':dL->dL->Option dL}{i j k n:Nat}{s:Sl}{b:Bool}{ds:List dL}
def q0(r:Option α)(δ:Ev):Option (α×Ev):=r.map fun c=>(c,δ)
@[simp] theorem q0_s{a:α}:q0 (some a) δ=some (a,δ):=rfl
@[simp] theorem fC_e:fC d δ=some (d,δ):=rfl
noncomputable def qV:Option Sl->Ev->Option (dL×Ev)
 |some (.va d),δ=>some (d,δ)
 |_,_=>none
noncomputable def qO:Option Sl->Ev->Option (dL×Ev)
 |some (.va d),δ=>some (d,δ)
 |some (.ow d),δ=>some (d,δ)
 |_,_=>none
@[simp] theorem fV_e:fV i δ=qV δ[i]? δ:=by unfold fV qV;split<;>simp_all
@[simp] theorem fO_e:fO i δ=qO δ[i]? δ:=by unfold fO qO;split<;>simp_all
@[simp] theorem qV_s:qV (some (.va d)) δ=some (d,δ):=rfl
@[simp] theorem qO_v:qO (some (.va d)) δ=some (d,δ):=rfl
@[simp] theorem qO_o:qO (some (.ow d)) δ=some (d,δ):=rfl
def q1(o:dL->Option dL)(r:Option (dL×Ev)):Option (dL×Ev):=r.bind fun p=>q0 (o p.1) p.2
@[simp] theorem f1_e{o:dL->Option dL}:f1 o fa δ=q1 o (fa δ):=rfl
@[simp] theorem q1_s{o:dL->Option dL}:q1 o (some (x,δ))=q0 (o x) δ:=rfl
def q2(o:dL->dL->Option dL)(r:Option (dL×Ev))(fb:VF):Option (dL×Ev):=r.bind fun p=>(fb p.2).bind fun q=>q0 (o p.1 q.1) q.2
def q2b(o:dL->dL->Option dL)(x:dL)(r:Option (dL×Ev)):Option (dL×Ev):=r.bind fun q=>q0 (o x q.1) q.2
@[simp] theorem f2_e:f2 o fa fb δ=q2 o (fa δ) fb:=rfl
@[simp] theorem q2_s:q2 o (some (x,δ)) fb=q2b o x (fb δ):=rfl
@[simp] theorem zNP:q2b o x (some (y,δ))=q0 (o x y) δ:=rfl
noncomputable def q3(o o':dL->dL->Option dL)(r:Option (dL×Ev))(fb fc:VF):Option (dL×Ev):=r.bind fun p=>(fb p.2).bind fun q=>(o p.1 q.1).bind fun z=>match z with
 | .bl true=>(fc q.2).bind fun s=>(o' q.1 s.1).map fun u=>(u,s.2)
 | .bl false=>some (.bl false,q.2)
 |_=>none
def q3b(o o':dL->dL->Option dL)(x:dL)(r:Option (dL×Ev))(fc:VF):Option (dL×Ev):=q3 o o' (some (x,[])) (fun _=>r) fc
noncomputable def q3c(o':dL->dL->Option dL)(y:dL)(δ:Ev)(fc:VF):Option dL->Option (dL×Ev)
 |some (.bl true)=>q2b o' y (fc δ)
 |some (.bl false)=>some (.bl false,δ)
 |_=>none
@[simp] theorem f3_e:f3 o o' fa fb fc δ=q3 o o' (fa δ) fb fc:=rfl
@[simp] theorem q3_s:q3 o o' (some (x,δ)) fb fc=q3b o o' x (fb δ) fc:=rfl
@[simp] theorem zNO:q3b o o' x (some (y,δ)) fc=q3c o' y δ fc (o x y):=by
 simp only[q3b,q3,Ap];cases o x y with
 |none=>rfl
 |some z=>cases z with
  |bl b=>cases b<;>rfl
  |_=>rfl
@[simp] theorem zNM:q3c o' y δ fc (some (.bl true))=q2b o' y (fc δ):=rfl
@[simp] theorem zNN:q3c o' y δ fc (some (.bl false))=some (.bl false,δ):=rfl
noncomputable def qc(r:Option (dL×Ev))(fs:Q8):Option (List dL×Ev):=r.bind fun p=>(fs p.2).map fun q=>(p.1::q.1,q.2)
noncomputable def qcb(x:dL)(r:Option (List dL×Ev)):Option (List dL×Ev):=r.map fun q=>(x::q.1,q.2)
@[simp] theorem zM9:cK δ=some ([],δ):=rfl
@[simp] theorem zJR{fs:Q8}:dH fa fs δ=qc (fa δ) fs:=rfl
@[simp] theorem qc_s{fs:Q8}:qc (some (x,δ)) fs=qcb x (fs δ):=rfl
@[simp] theorem zN2:qcb x (some (ds,δ))=some (x::ds,δ):=rfl
noncomputable def qT(g:List dL->dL)(r:Option (List dL×Ev)):Option (dL×Ev):=r.bind fun p=>if p.1.length<=16777216 then some (g p.1,p.2) else none
@[simp] theorem zM8{fs:Q8}:aZ fs δ=qT .tup (fs δ):=rfl
@[simp] theorem zMA{fs:Q8}:W5 fs δ=qT .lst (fs δ):=rfl
@[simp] theorem qT_s{g:List dL->dL}:qT g (some (ds,δ))=if ds.length<=16777216 then some (g ds,δ) else none:=rfl
noncomputable def qB:Option (dL×Ev)->Option (Bool×Ev)
 |some (.bl k,δ)=>some (k,δ)
 |_=>none
@[simp] theorem fB_e:fB fa δ=qB (fa δ):=by
 unfold fB qB;cases fa δ with
 |none=>rfl
 |some p=>
  obtain⟨d,e⟩:=p;cases d<;>rfl
@[simp] theorem qB_s:qB (some (.bl b,δ))=some (b,δ):=rfl
variable{tb tb':VB}{g g':VS}
noncomputable def qAnd(r:Option (Bool×Ev))(y:VB):Option (Bool×Ev):=r.bind fun p=>if p.1=true then y p.2 else some (false,p.2)
noncomputable def qOr(r:Option (Bool×Ev))(y:VB):Option (Bool×Ev):=r.bind fun p=>if p.1=true then some (true,p.2) else y p.2
noncomputable def qNot(r:Option (Bool×Ev)):Option (Bool×Ev):=r.map fun p=>(!p.1,p.2)
@[simp] theorem zMK:JE tb tb' δ=qAnd (tb δ) tb':=rfl
@[simp] theorem zOE:LC tb tb' δ=qOr (tb δ) tb':=rfl
@[simp] theorem zMJ:V9 tb δ=qNot (tb δ):=rfl
@[simp] theorem AA:X5 δ=some (true,δ):=rfl
@[simp] theorem zL4:qAnd (some (true,δ)) tb=tb δ:=rfl
@[simp] theorem zL5:qAnd (some (false,δ)) tb=some (false,δ):=rfl
@[simp] theorem zN9:qOr (some (true,δ)) tb=some (true,δ):=rfl
@[simp] theorem zNA:qOr (some (false,δ)) tb=tb δ:=rfl
@[simp] theorem zKY:qNot (some (b,δ))=some (!b,δ):=rfl
noncomputable def qA(r:Option (dL×Ev))(y:VF):Option (dL×Ev):=r.bind fun p=>match p.1 with
 | .bl true=>y p.2
 | .bl false=>some (.bl false,p.2)
 |_=>none
@[simp] theorem zMB:N4 fa fb δ=qA (fa δ) fb:=rfl
@[simp] theorem qA_t:qA (some (.bl true,δ)) fb=fb δ:=rfl
@[simp] theorem qA_f:qA (some (.bl false,δ)) fb=some (.bl false,δ):=rfl
def qI(r:Option (Bool×Ev))(x y:VF):Option (dL×Ev):=r.bind fun p=>if p.1=true then x p.2 else y p.2
@[simp] theorem zOB:OF tb fa fb δ=qI (tb δ) fa fb:=rfl
@[simp] theorem qI_t:qI (some (true,δ)) fa fb=fa δ:=rfl
@[simp] theorem qI_f:qI (some (false,δ)) fa fb=fb δ:=rfl
def qS(r:Option Ou)(g:VS):Option Ou:=r.bind fun o=>match o with
 | .nx δ'=>g δ'
 |o=>some o
@[simp] theorem zKD:a6 δ=some (.nx δ):=rfl
@[simp] theorem zDP:cR g g' δ=qS (g δ) g':=rfl
@[simp] theorem qS_n:qS (some (.nx δ)) g=g δ:=rfl
@[simp] theorem qS_r:qS (some (.rt d δ)) g=some (.rt d δ):=rfl
@[simp] theorem qS_b:qS (some (.bk δ)) g=some (.bk δ):=rfl
@[simp] theorem qS_c:qS (some (.ct δ)) g=some (.ct δ):=rfl
def qJ(r:Option (Bool×Ev))(x y:VS):Option Ou:=r.bind fun p=>if p.1=true then x p.2 else y p.2
@[simp] theorem zMP:Y0 tb g g' δ=qJ (tb δ) g g':=rfl
@[simp] theorem qJ_t:qJ (some (true,δ)) g g'=g δ:=rfl
@[simp] theorem qJ_f:qJ (some (false,δ)) g g'=g' δ:=rfl
noncomputable def qRet(r:Option (dL×Ev)):Option Ou:=r.map fun p=> .rt p.1 p.2
@[simp] theorem zKC:cE fa δ=qRet (fa δ):=rfl
@[simp] theorem zKU:qRet (some (d,δ))=some (.rt d δ):=rfl
noncomputable def qx(f:dL->Sl)(r:Option (dL×Ev)):Option (Sl×Ev):=r.map fun p=>(f p.1,p.2)
@[simp] theorem xV_e:xV fa δ=qx .va (fa δ):=rfl
@[simp] theorem xO_e:xO fa δ=qx .ow (fa δ):=rfl
@[simp] theorem qx_s{f:dL->Sl}:qx f (some (d,δ))=some (f d,δ):=rfl
noncomputable def qSet(i:Nat)(r:Option (Sl×Ev)):Option Ou:=r.bind fun p=>if i<p.2.length then some (.nx (p.2.set i p.1)) else none
@[simp] theorem zKB{x:VX}:Z2 i x δ=qSet i (x δ):=rfl
@[simp] theorem zKR:qSet i (some (s,δ))=if i<δ.length then some (.nx (δ.set i s)) else none:=rfl
noncomputable def qP2(i j:Nat)(r:Option (Sl×Ev))(y:VX):Option Ou:=r.bind fun p=>(y p.2).bind fun q=>if i<q.2.length/\j<q.2.length then some (.nx ((q.2.set j q.1).set i p.1)) else none
noncomputable def qP2b(i j:Nat)(s:Sl)(r:Option (Sl×Ev)):Option Ou:=r.bind fun q=>if i<q.2.length/\j<q.2.length then some (.nx ((q.2.set j q.1).set i s)) else none
@[simp] theorem zIZ{x y:VX}:R9 i j x y δ=qP2 i j (x δ) y:=rfl
@[simp] theorem zN8{y:VX}:qP2 i j (some (s,δ)) y=qP2b i j s (y δ):=rfl
@[simp] theorem zKX{s':Sl}:qP2b i j s (some (s',δ))=if i<δ.length/\j<δ.length then some (.nx ((δ.set j s').set i s)) else none:=rfl
noncomputable def qP3(i j k:Nat)(r:Option (Sl×Ev))(y z:VX):Option Ou:=r.bind fun p=>(y p.2).bind fun q=>(z q.2).bind fun r=>if i<r.2.length/\j<r.2.length/\k<r.2.length then some (.nx (((r.2.set k r.1).set j q.1).set i p.1)) else none
noncomputable def qP3b(i j k:Nat)(s:Sl)(r:Option (Sl×Ev))(z:VX):Option Ou:=r.bind fun q=>(z q.2).bind fun r=>if i<r.2.length/\j<r.2.length/\k<r.2.length then some (.nx (((r.2.set k r.1).set j q.1).set i s)) else none
noncomputable def qP3c(i j k:Nat)(s s':Sl)(r:Option (Sl×Ev)):Option Ou:=r.bind fun r=>if i<r.2.length/\j<r.2.length/\k<r.2.length then some (.nx (((r.2.set k r.1).set j s').set i s)) else none
@[simp] theorem zIY{x y z:VX}:NN i j k x y z δ=qP3 i j k (x δ) y z:=rfl
@[simp] theorem zN7{y z:VX}:qP3 i j k (some (s,δ)) y z=qP3b i j k s (y δ) z:=rfl
@[simp] theorem zKW{s':Sl}{z:VX}:qP3b i j k s (some (s',δ)) z=qP3c i j k s s' (z δ):=rfl
@[simp] theorem zKV{s' s'':Sl}:qP3c i j k s s' (some (s'',δ))=if i<δ.length/\j<δ.length/\k<δ.length then some (.nx (((δ.set k s'').set j s').set i s)) else none:=rfl
@[simp] theorem P2:gN i d δ=some (δ.set i (.va d)):=rfl
def qg(r:Option Ev)(gs:DR)(ds:List dL):Option Ev:=r.bind fun δ1=>gs ds δ1
@[simp] theorem zJQ:YA [] δ=some δ:=rfl
@[simp] theorem zIJ{gg:VG}{gs:DR}:b4 gg gs (d::ds) δ=qg (gg d δ) gs ds:=rfl
@[simp] theorem qg_s{gs:DR}:qg (some δ) gs ds=gs ds δ:=rfl
@[simp] theorem zO8{gs:DR}:M9 n gs (.tup ds) δ=if ds.length=n then gs ds δ else none:=rfl
@[simp] theorem zO9{gs:DR}:M9 n gs (.lst ds) δ=if ds.length=n then gs ds δ else none:=rfl
noncomputable def qAsg(r:Option (dL×Ev))(gg:VG):Option Ou:=r.bind fun p=>(gg p.1 p.2).map Ou.nx
@[simp] theorem zKG{gg:VG}:P8 fa gg δ=qAsg (fa δ) gg:=rfl
@[simp] theorem zL3{gg:VG}:qAsg (some (d,δ)) gg=(gg d δ).map Ou.nx:=rfl
noncomputable def qM(i:Nat)(m:List dL->List dL->Option (List dL))(r:Option (List dL))(δ:Ev)(fs:Q8):Option Ou:=r.bind fun _=>(fs δ).bind fun p=>(W1 p.2 i).bind fun ds=>(m ds p.1).map fun ds'=> .nx (p.2.set i (.ow (.lst ds')))
noncomputable def qMb(i:Nat)(m:List dL->List dL->Option (List dL))(r:Option (List dL×Ev)):Option Ou:=r.bind fun p=>(W1 p.2 i).bind fun ds=>(m ds p.1).map fun ds'=> .nx (p.2.set i (.ow (.lst ds')))
noncomputable def qMc(i:Nat)(m:List dL->List dL->Option (List dL))(es:List dL)(δ:Ev)(r:Option (List dL)):Option Ou:=r.bind fun ds=>(m ds es).map fun ds'=> .nx (δ.set i (.ow (.lst ds')))
noncomputable def qMd(i:Nat)(δ:Ev)(r:Option (List dL)):Option Ou:=r.map fun ds'=> .nx (δ.set i (.ow (.lst ds')))
@[simp] theorem zKE{m:List dL->List dL->Option (List dL)}{fs:Q8}:WG i m fs δ=qM i m (W1 δ i) δ fs:=rfl
@[simp] theorem qM_s{m:List dL->List dL->Option (List dL)}{fs:Q8}:qM i m (some ds) δ fs=qMb i m (fs δ):=rfl
@[simp] theorem zNF{m:List dL->List dL->Option (List dL)}{es:List dL}:qMb i m (some (es,δ))=qMc i m es δ (W1 δ i):=rfl
@[simp] theorem zNE{m:List dL->List dL->Option (List dL)}{es:List dL}:qMc i m es δ (some ds)=qMd i δ (m ds es):=rfl
@[simp] theorem zND:qMd i δ (some ds)=some (.nx (δ.set i (.ow (.lst ds)))):=rfl
noncomputable def qOl:Option Sl->Option (List dL)
 |some (.ow (.lst ds))=>some ds
 |_=>none
@[simp] theorem zL8:W1 δ i=qOl δ[i]? :=by unfold W1 qOl;split<;>simp_all
@[simp] theorem zNB:qOl (some (.ow (.lst ds)))=some ds:=rfl
@[simp] theorem zLU:WC ds [d]=if ds.length<16777216 then some (ds++[d]) else none:=rfl
noncomputable def qOd:Option Sl->Option (List YY×List dL)
 |some (.ow (.dct ks ds))=>some (ks,ds)
 |_=>none
@[simp] theorem zL9:YF δ i=qOd δ[i]? :=by unfold YF qOd;split<;>simp_all
@[simp] theorem zNC{ks:List YY}:qOd (some (.ow (.dct ks ds)))=some (ks,ds):=rfl
noncomputable def qL(i:Nat)(r:Option (dL×Ev))(fi:VF):Option Ou:=r.bind fun p=>(W1 p.2 i).bind fun _=>(fi p.2).bind fun q=>(W1 q.2 i).bind fun ds=>match q.1 with
 | .int k=>(JY ds.length k).map fun j=> .nx (q.2.set i (.ow (.lst (ds.set j p.1))))
 |_=>none
noncomputable def qLb(i:Nat)(x:dL)(r:Option (List dL))(δ:Ev)(fi:VF):Option Ou:=r.bind fun _=>(fi δ).bind fun q=>(W1 q.2 i).bind fun ds=>match q.1 with
 | .int k=>(JY ds.length k).map fun j=> .nx (q.2.set i (.ow (.lst (ds.set j x))))
 |_=>none
noncomputable def qLc(i:Nat)(x:dL)(r:Option (dL×Ev)):Option Ou:=r.bind fun q=>(W1 q.2 i).bind fun ds=>match q.1 with
 | .int k=>(JY ds.length k).map fun j=> .nx (q.2.set i (.ow (.lst (ds.set j x))))
 |_=>none
noncomputable def qLd(i:Nat)(x:dL)(k:Int)(δ:Ev)(r:Option (List dL)):Option Ou:=r.bind fun ds=>(JY ds.length k).map fun j=> .nx (δ.set i (.ow (.lst (ds.set j x))))
@[simp] theorem zIX{fi fv:VF}:GP i fi fv δ=qL i (fv δ) fi:=rfl
@[simp] theorem qL_s{fi:VF}:qL i (some (x,δ)) fi=qLb i x (W1 δ i) δ fi:=rfl
@[simp] theorem zNI{fi:VF}:qLb i x (some ds) δ fi=qLc i x (fi δ):=rfl
@[simp] theorem zNH{k:Int}:qLc i x (some (.int k,δ))=qLd i x k δ (W1 δ i):=rfl
@[simp] theorem zNG{k:Int}:qLd i x k δ (some ds)=(JY ds.length k).map fun j=> .nx (δ.set i (.ow (.lst (ds.set j x)))):=rfl
noncomputable def qi(r:Option (dL×Ev)):Option (List dL×Ev):=r.bind fun p=>(XT p.1).map fun ds=>(ds,p.2)
@[simp] theorem zM7:T0 fa δ=qi (fa δ):=rfl
@[simp] theorem qi_t:qi (some (.tup ds,δ))=some (ds,δ):=rfl
@[simp] theorem qi_l:qi (some (.lst ds,δ))=some (ds,δ):=rfl
noncomputable def qr1:Option (dL×Ev)->Option (List dL×Ev)
 |some (.int j,δ)=>if -4611686018427387904<=j/\j<4611686018427387904 then some (ZT 0 j.toNat,δ) else none
 |_=>none
@[simp] theorem zO7:IN fa δ=qr1 (fa δ):=by
 unfold IN qr1;cases fa δ with
 |none=>rfl
 |some p=>
  obtain⟨d,e⟩:=p;cases d<;>rfl
@[simp] theorem zMW{j:Int}:qr1 (some (.int j,δ))=if -4611686018427387904<=j/\j<4611686018427387904 then some (ZT 0 j.toNat,δ) else none:=rfl
noncomputable def qe(r:Option (dL×Ev)):Option (List dL×Ev):=r.bind fun p=>(XT p.1).map fun ds=>(YS 0 ds,p.2)
@[simp] theorem zJP:JR fa δ=qe (fa δ):=rfl
@[simp] theorem qe_t:qe (some (.tup ds,δ))=some (YS 0 ds,δ):=rfl
@[simp] theorem qe_l:qe (some (.lst ds,δ))=some (YS 0 ds,δ):=rfl
noncomputable def qz(r:Option (dL×Ev))(g:VF):Option (List dL×Ev):=r.bind fun p=>(g p.2).bind fun q=>(XT p.1).bind fun ds=>(XT q.1).map fun es=>(T1 ds es,q.2)
noncomputable def qzb(x:dL)(r:Option (dL×Ev)):Option (List dL×Ev):=r.bind fun q=>(XT x).bind fun ds=>(XT q.1).map fun es=>(T1 ds es,q.2)
@[simp] theorem zM6:AT fa fb δ=qz (fa δ) fb:=rfl
@[simp] theorem qz_s:qz (some (x,δ)) fb=qzb x (fb δ):=rfl
@[simp] theorem zMQ:qzb x (some (y,δ))=(XT x).bind fun ds=>(XT y).map fun es=>(T1 ds es,δ):=rfl
@[simp] theorem zK9:XT (.tup ds)=some ds:=rfl
@[simp] theorem zKA:XT (.lst ds)=some ds:=rfl
def qF(r:Option (List dL×Ev))(gg:VG)(g:VS):Option Ou:=r.bind fun p=>aD gg g p.1 p.2
@[simp] theorem zKF{fi:VI}{gg:VG}:R8 fi gg g δ=qF (fi δ) gg g:=rfl
@[simp] theorem qF_s{gg:VG}:qF (some (ds,δ)) gg g=aD gg g ds δ:=rfl
noncomputable def qK(ix:List Nat)(nl:Nat)(r:Option (List dL×Ev))(gg:VG)(tb:VB)(fe:VF):Option (dL×Ev):=r.bind fun p=>(ZZ ix.length nl gg tb fe p.1 [] (bM ix p.2)).map fun q=>(.lst q.1,YZ ix q.2 p.2)
noncomputable def qKb(ix:List Nat)(δ:Ev)(r:Option (List dL×Ev)):Option (dL×Ev):=r.map fun q=>(.lst q.1,YZ ix q.2 δ)
@[simp] theorem zJS{ix:List Nat}{nl:Nat}{fi:VI}{gg:VG}:ZI ix nl fi gg tb fa δ=qK ix nl (fi δ) gg tb fa:=rfl
@[simp] theorem qK_s{ix:List Nat}{nl:Nat}{gg:VG}:qK ix nl (some (ds,δ)) gg tb fa=qKb ix δ (ZZ ix.length nl gg tb fa ds [] (bM ix δ)):=rfl
@[simp] theorem zNJ{ix:List Nat}:qKb ix δ (some (ds,δ1))=some (.lst ds,YZ ix δ1 δ):=rfl
variable{as:List AV}{fs:Q7}{mF:List Nat}{F:b7}
noncomputable def qa(r:Option (dL×Ev))(fs:Q7):Option (List AV×Ev):=r.bind fun p=>(fs p.2).map fun q=>(.d p.1::q.1,q.2)
noncomputable def qab(x:AV)(r:Option (List AV×Ev)):Option (List AV×Ev):=r.map fun q=>(x::q.1,q.2)
@[simp] theorem zGC:cI δ=some ([],δ):=rfl
@[simp] theorem JB:aE fa fs δ=qa (fa δ) fs:=rfl
@[simp] theorem BW:qa (some (x,δ)) fs=qab (.d x) (fs δ):=rfl
@[simp] theorem BX{a:AV}:qab a (some (as,δ))=some (a::as,δ):=rfl
def qao(j:Nat)(r:Option dL)(δ:Ev)(fs:Q7):Option (List AV×Ev):=r.bind fun _=>qab (.o j) (fs δ)
@[simp] theorem aO_e:aO j fs δ=qao j (slot δ j) δ fs:=rfl
@[simp] theorem zHH:qao j (some d) δ fs=qab (.o j) (fs δ):=rfl
noncomputable def qsl:Option Sl->Option dL
 |some (.va d)=>some d
 |some (.ow d)=>some d
 |_=>none
@[simp] theorem zK8:slot δ j=qsl δ[j]? :=by unfold slot qsl;split<;>simp_all
@[simp] theorem zMU:qsl (some (.va d))=some d:=rfl
@[simp] theorem zMV:qsl (some (.ow d))=some d:=rfl
def qaI(r:Option (Bool×Ev))(i j:Nat)(fs:Q7):Option (List AV×Ev):=r.bind fun p=>if p.1=true then aO i fs p.2 else aO j fs p.2
@[simp] theorem zOJ:aIf tb i j fs δ=qaI (tb δ) i j fs:=rfl
@[simp] theorem zN3:qaI (some (true,δ)) i j fs=aO i fs δ:=rfl
@[simp] theorem zN4:qaI (some (false,δ)) i j fs=aO j fs δ:=rfl
@[simp] theorem zK2:WS δ []=some []:=rfl
@[simp] theorem zK3:WS δ (.d d::as)=(WS δ as).map fun ds=>d::ds:=rfl
@[simp] theorem zK1:WS δ (.o j::as)=(slot δ j).bind fun d=>(WS δ as).map fun ds=>d::ds:=rfl
noncomputable def zBZ(n:Nat)(mF:List Nat)(F:b7)(r:Option (List AV×Ev)):Option (dL×Ev):=r.bind fun p=>(WS p.2 p.1).bind fun ds=>if ds.length=n/\VV mF p.1 p.2=true then(F ds).bind fun q=>if WK mF p.1 q.1 q.2=true then some (q.1,WF p.1 mF q.2 p.2) else none else none
noncomputable def qCb(n:Nat)(mF:List Nat)(F:b7)(as:List AV)(δ:Ev)(r:Option (List dL)):Option (dL×Ev):=r.bind fun ds=>if ds.length=n/\VV mF as δ=true then(F ds).bind fun q=>if WK mF as q.1 q.2=true then some (q.1,WF as mF q.2 δ) else none else none
noncomputable def qCc(mF:List Nat)(as:List AV)(δ:Ev)(r:Option (dL×List dL)):Option (dL×Ev):=r.bind fun q=>if WK mF as q.1 q.2=true then some (q.1,WF as mF q.2 δ) else none
@[simp] theorem PL:cZ n mF F fs δ=zBZ n mF F (fs δ):=rfl
@[simp] theorem zAF:zBZ n mF F (some (as,δ))=qCb n mF F as δ (WS δ as):=rfl
@[simp] theorem zHJ:qCb n mF F as δ (some ds)=if ds.length=n/\VV mF as δ=true then qCc mF as δ (F ds) else none:=rfl
@[simp] theorem zHI{os:List dL}:qCc mF as δ (some (d,os))=if WK mF as d os=true then some (d,WF as mF os δ) else none:=rfl
@[simp] theorem zJO:F6 δ as i=(match as[i]? with
 |some (.o j)=>match δ[j]? with
  |some (.ow _)=>true
  |_=>false
 |_=>false):=rfl
@[simp] theorem zLY:VH []=[]:=rfl
@[simp] theorem zLZ:VH (.d d::as)=VH as:=rfl
@[simp] theorem zLX:VH (.o j::as)=j::VH as:=rfl
@[simp] theorem zIS:VV mF as δ=(mF.all (F6 δ as) && decide (VH as).Nodup):=rfl
@[simp] theorem zK5:W3 mF [] i=true:=rfl
@[simp] theorem zK6:W3 mF (.d d::as) i=W3 mF as (i+1):=rfl
@[simp] theorem zK4:W3 mF (.o j::as) i=(decide (i∈mF) && W3 mF as (i+1)):=rfl
@[simp] theorem zIT{os:List dL}:WK mF as d os=((W3 mF as 0 || d.hard) && (W3 mF as 0 || os.all RT) && decide (mF.length=os.length)):=rfl
@[simp] theorem zL6{os:List dL}:WF as [] os δ=δ:=by cases os<;>rfl
@[simp] theorem zL7{os:List dL}{is:List Nat}:WF as (i::is) (d::os) δ=(match as[i]? with
  |some (.o j)=>WF as is os (δ.set j (.ow d))
  |_=>WF as is os δ):=rfl
@[simp] theorem zMF:AF F d ds=F (ds++[d]):=rfl
noncomputable def qins(r:Option (dL×List dL)):Option (dL×List dL):=r.map fun q=>(q.1,q.2.dropLast)
@[simp] theorem zM5:EG i F ds=qins (F (ds.take i++ .dct [] []::ds.drop i)):=rfl
@[simp] theorem zKO{os:List dL}:qins (some (d,os))=some (d,os.dropLast):=rfl
noncomputable def qH(n:Nat)(mF:List Nat)(tb:List (Str×b7))(fs:Q7)(δ:Ev):Option Sl->Option (dL×Ev)
 |some (.va (.fn x))=>(WW tb x).bind fun F=>cZ n mF F fs δ
 |_=>none
@[simp] theorem zIN{tb:List (Str×b7)}:OE n mF tb i fs δ=qH n mF tb fs δ δ[i]? :=by unfold OE qH;split<;>simp_all
@[simp] theorem qH_s{tb:List (Str×b7)}{x:Str}:qH n mF tb fs δ (some (.va (.fn x)))=(WW tb x).bind fun F=>cZ n mF F fs δ:=rfl
@[simp] theorem zNR:IA δ=some (none,δ):=rfl
noncomputable def qpS:Option (dL×Ev)->Option (Option Int×Ev)
 |some (.int i,δ)=>some (some i,δ)
 |_=>none
@[simp] theorem zNQ:KC fa δ=qpS (fa δ):=by
 unfold KC qpS;cases fa δ with
 |none=>rfl
 |some p=>
  obtain⟨d,e⟩:=p;cases d<;>rfl
@[simp] theorem zMX{i:Int}:qpS (some (.int i,δ))=some (some i,δ):=rfl
noncomputable def qSl(r:Option (dL×Ev))(fl fh:VP):Option (dL×Ev):=r.bind fun p=>(fl p.2).bind fun l=>(fh l.2).bind fun u=>(oSl p.1 l.1 u.1).map fun c=>(c,u.2)
noncomputable def qSlb(x:dL)(r:Option (Option Int×Ev))(fh:VP):Option (dL×Ev):=r.bind fun l=>(fh l.2).bind fun u=>(oSl x l.1 u.1).map fun c=>(c,u.2)
def qSlc(x:dL)(l:Option Int)(r:Option (Option Int×Ev)):Option (dL×Ev):=r.bind fun u=>q0 (oSl x l u.1) u.2
@[simp] theorem zOA{fl fh:VP}:JP fa fl fh δ=qSl (fa δ) fl fh:=rfl
@[simp] theorem zN6{fl fh:VP}:qSl (some (x,δ)) fl fh=qSlb x (fl δ) fh:=rfl
@[simp] theorem zKQ{l:Option Int}{fh:VP}:qSlb x (some (l,δ)) fh=qSlc x l (fh δ):=rfl
@[simp] theorem zKP{l u:Option Int}:qSlc x l (some (u,δ))=q0 (oSl x l u) δ:=rfl
@[simp] theorem zNV{l u:Option Int}:oSl (.tup ds) l u=some (.tup (SM ds l u)):=rfl
@[simp] theorem zNW{l u:Option Int}:oSl (.lst ds) l u=some (.lst (SM ds l u)):=rfl
noncomputable def qSt(i j:Nat):Option (dL×Ev)->Option Ou
 |some (.tup (d::ds),δ)=>some (.nx ((δ.set i (.va d)).set j (.va (.lst ds))))
 |_=>none
@[simp] theorem zIW:NO i j fa δ=qSt i j (fa δ):=by
 unfold NO qSt;cases fa δ with
 |none=>rfl
 |some p=>
  obtain⟨d,e⟩:=p;cases d with
  |tup ds=>cases ds<;>rfl
  |_=>rfl
@[simp] theorem zN5:qSt i j (some (.tup (d::ds),δ))=some (.nx ((δ.set i (.va d)).set j (.va (.lst ds)))):=rfl
noncomputable def qDg(i:Nat)(r:Option (List YY×List dL))(δ:Ev)(fk fx:VF):Option (dL×Ev):=r.bind fun _=>(fk δ).bind fun p=>(fx p.2).bind fun q=>(V2 p.1).bind fun k=>(YF q.2 i).map fun z=>((bO z.1 z.2 k).getD q.1,q.2)
noncomputable def qDgb(i:Nat)(r:Option (dL×Ev))(fx:VF):Option (dL×Ev):=r.bind fun p=>(fx p.2).bind fun q=>(V2 p.1).bind fun k=>(YF q.2 i).map fun z=>((bO z.1 z.2 k).getD q.1,q.2)
noncomputable def qDgc(i:Nat)(x:dL)(r:Option (dL×Ev)):Option (dL×Ev):=r.bind fun q=>(V2 x).bind fun k=>(YF q.2 i).map fun z=>((bO z.1 z.2 k).getD q.1,q.2)
@[simp] theorem zIM:LQ i fa fb δ=qDg i (YF δ i) δ fa fb:=rfl
@[simp] theorem zNL{z:List YY×List dL}:qDg i (some z) δ fa fb=qDgb i (fa δ) fb:=rfl
@[simp] theorem zL2:qDgb i (some (x,δ)) fb=qDgc i x (fb δ):=rfl
@[simp] theorem zL1:qDgc i x (some (y,δ))=(V2 x).bind fun k=>(YF δ i).map fun z=>((bO z.1 z.2 k).getD y,δ):=rfl
noncomputable def qDp(i:Nat)(r:Option (dL×Ev))(fk:VF):Option Ou:=r.bind fun p=>(YF p.2 i).bind fun _=>(fk p.2).bind fun q=>(V2 q.1).bind fun k=>(YF q.2 i).bind fun z=>if z.1.length<16777216/\z.1.Nodup then some (.nx (q.2.set i (.ow (let r:=Y2 z.1 z.2 k p.1;.dct r.1 r.2)))) else none
noncomputable def qDpb(i:Nat)(x:dL)(r:Option (List YY×List dL))(δ:Ev)(fk:VF):Option Ou:=r.bind fun _=>(fk δ).bind fun q=>(V2 q.1).bind fun k=>(YF q.2 i).bind fun z=>if z.1.length<16777216/\z.1.Nodup then some (.nx (q.2.set i (.ow (let r:=Y2 z.1 z.2 k x;.dct r.1 r.2)))) else none
noncomputable def qDpc(i:Nat)(x:dL)(r:Option (dL×Ev)):Option Ou:=r.bind fun q=>(V2 q.1).bind fun k=>(YF q.2 i).bind fun z=>if z.1.length<16777216/\z.1.Nodup then some (.nx (q.2.set i (.ow (.dct (Y2 z.1 z.2 k x).1 (Y2 z.1 z.2 k x).2)))) else none
@[simp] theorem zJ0{fk fv:VF}:OY i fk fv δ=qDp i (fv δ) fk:=rfl
@[simp] theorem zNK{fk:VF}:qDp i (some (x,δ)) fk=qDpb i x (YF δ i) δ fk:=rfl
@[simp] theorem zL0{z:List YY×List dL}{fk:VF}:qDpb i x (some z) δ fk=qDpc i x (fk δ):=rfl
@[simp] theorem zKZ:qDpc i x (some (y,δ))=(V2 y).bind fun k=>(YF δ i).bind fun z=>if z.1.length<16777216/\z.1.Nodup then some (.nx (δ.set i (.ow (.dct (Y2 z.1 z.2 k x).1 (Y2 z.1 z.2 k x).2)))) else none:=rfl
@[simp] theorem zLW{i:Int}:V2 (.int i)=some (.inl i):=rfl
@[simp] theorem zLV{s:Str}:V2 (.str s)=some (.inr s):=rfl
noncomputable def BV(ml:List Nat):Option Ou->Option (dL×List dL)
 |some (.rt d δ)=>(U4 ml δ).map fun os=>(d,os)
 |some (.nx δ)=>(U4 ml δ).map fun os=>(.non,os)
 |_=>none
theorem c5{ml:List Nat}:aW n ml g ds=BV ml (g (cV ml n ds)):=by
 unfold aW BV;cases g (cV ml n ds) with
 |none=>rfl
 |some o=>cases o<;>rfl
@[simp] theorem zKS{ml:List Nat}:BV ml (some (.rt d δ))=(U4 ml δ).map fun os=>(d,os):=rfl
@[simp] theorem zKT{ml:List Nat}:BV ml (some (.nx δ))=(U4 ml δ).map fun os=>(.non,os):=rfl
def qow:Option Sl->Option dL
 |some (.ow d)=>some d
 |_=>none
@[simp] theorem zLA:U4 [] δ=some []:=rfl
@[simp] theorem zLB{ml:List Nat}:U4 (i::ml) δ=(qow δ[i]?).bind fun d=>(U4 ml δ).map fun os=>d::os:=by
 unfold U4;rw[Mp];cases h:(δ[i]? :Option Sl) with
 |none=>rfl
 | some s => cases s with
  |no=>rfl
  |va d=>rfl
  |ow d=>
   show(Option.bind _ fun os=>some (d::os))=Option.map (fun os=>d::os) _;cases (List.mapM _ ml:Option (List dL))<;>rfl
@[simp] theorem zMY:qow (some (.ow d))=some d:=rfl
end
section
variable{i j:Int}{x y:Str}{ds es:List dL}
@[simp] theorem oI_e{C:Int->Int->Bool}{g:Int->Int->dL}:oI C g (.int i) (.int j)=if C i j=true then some (g i j) else none:=rfl
@[simp] theorem zJE:Z9 (.int i) (.int j)=some (.int (i+j)):=rfl
@[simp] theorem zB0:Z9 (.tup ds) (.tup es)=if ds.length+es.length<=16777216 then some (.tup (ds++es)) else none:=rfl
@[simp] theorem zJD:Z9 (.lst ds) (.lst es)=if ds.length+es.length<=16777216 then some (.lst (ds++es)) else none:=rfl
@[simp] theorem zNX{g:Int->Int->Int}:o2I g (.int i) (.int j)=some (.int (g i j)):=rfl
@[simp] theorem zLF:ZH (.tup ds)=some (.int ds.length):=rfl
@[simp] theorem zLG:ZH (.lst ds)=some (.int ds.length):=rfl
@[simp] theorem zJK:OP (.tup ds)=some (.lst ds):=rfl
@[simp] theorem zJL:OP (.lst ds)=some (.lst ds):=rfl
@[simp] theorem zI0:WR (.tup ds)=some (.tup ds):=rfl
@[simp] theorem zI1:WR (.lst ds)=some (.tup ds):=rfl
@[simp] theorem zLH:cT (.tup ds) (.int i)=W4 ds i:=rfl
@[simp] theorem zLI:cT (.lst ds) (.int i)=W4 ds i:=rfl
@[simp] theorem zB1{ks:List YY}:cT (.dct ks ds) (.int i)=bO ks ds (.inl i):=rfl
@[simp] theorem zJM{ks:List YY}:cT (.dct ks ds) (.str x)=bO ks ds (.inr x):=rfl
@[simp] theorem zNT:NI (.int i)=true:=rfl
@[simp] theorem zNS:NI .non=true:=rfl
@[simp] theorem zNU{b:Bool}:NI (.bl b)=true:=rfl
@[simp] theorem zM4:QT "int" "bool"=some false:=by decide+kernel
@[simp] theorem zM3:QT "int" "int"=some true:=by decide+kernel
@[simp] theorem zM2:QT "tuple" "tuple"=some true:=by decide+kernel
@[simp] theorem zM1:QT "str" "str"=some true:=by decide+kernel
@[simp] theorem zM0:QT "list" "list"=some true:=by decide+kernel
@[simp] theorem zLM{n:String}:VL (.int i) (.ty n)=(QT "int" n).map dL.bl:=rfl
@[simp] theorem zLJ{n:String}:VL (.tup ds) (.ty n)=(QT "tuple" n).map dL.bl:=rfl
@[simp] theorem zLL{n:String}:VL (.lst ds) (.ty n)=(QT "list" n).map dL.bl:=rfl
@[simp] theorem zLK{n:String}:VL (.str x) (.ty n)=(QT "str" n).map dL.bl:=rfl
@[simp] theorem zLP:L5 .non .non=some (.bl true):=rfl
@[simp] theorem zLQ:L5 (.int i) .non=some (.bl false):=rfl
@[simp] theorem zLO:L5 (.str x) .non=some (.bl false):=rfl
@[simp] theorem zLN:L5 (.tup ds) .non=some (.bl false):=rfl
@[simp] theorem zJH:WD .non .non=some (.bl false):=rfl
@[simp] theorem zJI:WD (.int i) .non=some (.bl true):=rfl
@[simp] theorem zJG:WD (.str x) .non=some (.bl true):=rfl
@[simp] theorem zJF:WD (.tup ds) .non=some (.bl true):=rfl
end
section
variable{d x:dL}{δ δ1:Ev}{r acc:List dL}{gg:VG}{tb:VB}{fe:VF}{n nl:Nat}{g:VS}
noncomputable def qk1(n nl:Nat)(gg:VG)(tb:VB)(fe:VF)(r acc:List dL)(o:Option Ev):Option (List dL×Ev):=o.bind fun δ1=>(tb δ1).bind fun p=>if p.1=true then(fe p.2).bind fun q=>if acc.length<16777216 then ZZ n nl gg tb fe r (acc++[q.1]) (q.2.take n) else none else ZZ n nl gg tb fe r acc (p.2.take n)
noncomputable def qk2(n nl:Nat)(gg:VG)(tb:VB)(fe:VF)(r acc:List dL)(o:Option (Bool×Ev)):Option (List dL×Ev):=o.bind fun p=>if p.1=true then(fe p.2).bind fun q=>if acc.length<16777216 then ZZ n nl gg tb fe r (acc++[q.1]) (q.2.take n) else none else ZZ n nl gg tb fe r acc (p.2.take n)
noncomputable def qk3(n nl:Nat)(gg:VG)(tb:VB)(fe:VF)(r acc:List dL)(o:Option (dL×Ev)):Option (List dL×Ev):=o.bind fun q=>if acc.length<16777216 then ZZ n nl gg tb fe r (acc++[q.1]) (q.2.take n) else none
@[simp] theorem zJV:ZZ n nl gg tb fe [] acc δ=some (acc,δ):=rfl
@[simp] theorem LM:ZZ n nl gg tb fe (d::r) acc δ=qk1 n nl gg tb fe r acc (gg d (δ++IQ nl)):=rfl
@[simp] theorem BY:qk1 n nl gg tb fe r acc (some δ)=qk2 n nl gg tb fe r acc (tb δ):=rfl
@[simp] theorem BZ:qk2 n nl gg tb fe r acc (some (true,δ))=qk3 n nl gg tb fe r acc (fe δ):=rfl
@[simp] theorem zHG:qk2 n nl gg tb fe r acc (some (false,δ))=ZZ n nl gg tb fe r acc (δ.take n):=rfl
@[simp] theorem B0:qk3 n nl gg tb fe r acc (some (x,δ))=if acc.length<16777216 then ZZ n nl gg tb fe r (acc++[x]) (δ.take n) else none:=rfl
def qf1(gg:VG)(g:VS)(r:List dL)(o:Option Ev):Option Ou:=o.bind fun δ1=>(g δ1).bind (UU (aD gg g r))
def qf2(gg:VG)(g:VS)(r:List dL)(o:Option Ou):Option Ou:=o.bind (UU (aD gg g r))
@[simp] theorem zFZ:aD gg g [] δ=some (.nx δ):=rfl
@[simp] theorem X6:aD gg g (d::r) δ=qf1 gg g r (gg d δ):=rfl
@[simp] theorem TL:qf1 gg g r (some δ)=qf2 gg g r (g δ):=rfl
@[simp] theorem TM:qf2 gg g r (some (.nx δ))=aD gg g r δ:=rfl
@[simp] theorem zMZ:qf2 gg g r (some (.ct δ))=aD gg g r δ:=rfl
@[simp] theorem zN0:qf2 gg g r (some (.bk δ))=some (.nx δ):=rfl
@[simp] theorem zBY:qf2 gg g r (some (.rt d δ))=some (.rt d δ):=rfl
@[simp] theorem zJZ{ss:Ev}:YZ [] ss δ=δ:=by cases ss<;>rfl
@[simp] theorem zJY{i:Nat}{is:List Nat}{ss:Ev}:YZ (i::is) (.ow d::ss) δ=YZ is ss (δ.set i (.ow d)):=rfl
@[simp] theorem zJX{i:Nat}{is:List Nat}{ss:Ev}:YZ (i::is) (.va d::ss) δ=YZ is ss δ:=rfl
@[simp] theorem zJW{i:Nat}{is:List Nat}{ss:Ev}:YZ (i::is) (.no::ss) δ=YZ is ss δ:=rfl
end
@[simp] theorem A7:IQ 1=[.no]:=rfl
@[simp] theorem zNZ:IQ 2=[.no,.no]:=rfl
@[simp] theorem zNY:IQ 3=[.no,.no,.no]:=rfl
@[simp] theorem zKL{i:Int}:ZT i 0=[]:=rfl
@[simp] theorem zKK:ZT 0 1=[.int 0]:=rfl
@[simp] theorem zKJ:ZT 0 2=[.int 0,.int 1]:=rfl
@[simp] theorem zKI:ZT 0 3=[.int 0,.int 1,.int 2]:=rfl
@[simp] theorem zKH:ZT 0 4=[.int 0,.int 1,.int 2,.int 3]:=rfl
theorem XQ{α:Type}{xs:List α}{i:Int}(h0:0<=i)(h1:i<xs.length):W4 xs i=xs[i.toNat]? :=by
 unfold W4 JY;rw[if_pos h0,if_pos h1];rfl
theorem G9{α:Type}{xs:List α}{i:Int}(h0:0<=i)(h1:i<xs.length): ∃x∈xs,W4 xs i=some x:=by
 rw[XQ h0 h1];have h:i.toNat<xs.length:=by lia
 exact⟨xs[i.toNat],Iu _,List.getElem?_eq_getElem h⟩
section
variable{F:b7}{fa fb fc:VF}{δ:Ev}{x y z d o:dL}{j:Nat}
noncomputable def E1(δ:Ev):Option (dL×List dL)->Option (dL×Ev)
 |some (d,[])=>some (d,δ)
 |_=>none
@[simp] theorem zN1:E1 δ (some (d,[]))=some (d,δ):=rfl
theorem HE{n:Nat}{ds:List dL}{as:List AV}(h:WS δ as=some ds)(hn:ds.length=n)(hj:VH as=[])(ha:W3 [] as 0=true):qCb n [] F as δ (some ds)=E1 δ (F ds):=by
 have hc:VV [] as δ=true:=by simp[hj]
 rw[zHJ,if_pos ⟨hn,hc⟩];cases F ds with
 |none=>rfl
 |some q=>
  obtain⟨r,os⟩:=q;rw[zHI];cases os with
  |nil=>simp[ha,E1]
  |cons o os=>simp[E1]
def qx1(F:b7)(r:Option (dL×Ev)):Option (dL×Ev):=r.bind fun p=>E1 p.2 (F [p.1])
@[simp] theorem zMR:qx1 F (some (x,δ))=E1 δ (F [x]):=rfl
@[simp high] theorem call1:cZ 1 [] F (aE fa cI) δ=qx1 F (fa δ):=by
 rw[PL,JB];cases fa δ with
 |none=>rfl
 |some p=>exact HE (as:=[.d p.1]) rfl rfl rfl rfl
noncomputable def qx2(F:b7)(r:Option (dL×Ev))(fb:VF):Option (dL×Ev):=r.bind fun p=>(fb p.2).bind fun q=>E1 q.2 (F [p.1,q.1])
noncomputable def qx2b(F:b7)(x:dL)(r:Option (dL×Ev)):Option (dL×Ev):=r.bind fun q=>E1 q.2 (F [x,q.1])
@[simp] theorem zHD:qx2 F (some (x,δ)) fb=qx2b F x (fb δ):=rfl
@[simp] theorem zKN:qx2b F x (some (y,δ))=E1 δ (F [x,y]):=rfl
@[simp high] theorem call2:cZ 2 [] F (aE fa (aE fb cI)) δ=qx2 F (fa δ) fb:=by
 rw[PL,JB];cases fa δ with
 |none=>rfl
 |some p=>
  rw[BW,JB,zHD];cases fb p.2 with
  |none=>rfl
  |some q=>exact HE (as:=[.d p.1,.d q.1]) rfl rfl rfl rfl
noncomputable def qx3(F:b7)(r:Option (dL×Ev))(fb fc:VF):Option (dL×Ev):=r.bind fun p=>(fb p.2).bind fun q=>(fc q.2).bind fun s=>E1 s.2 (F [p.1,q.1,s.1])
noncomputable def qx3b(F:b7)(x:dL)(r:Option (dL×Ev))(fc:VF):Option (dL×Ev):=r.bind fun q=>(fc q.2).bind fun s=>E1 s.2 (F [x,q.1,s.1])
noncomputable def qx3c(F:b7)(x y:dL)(r:Option (dL×Ev)):Option (dL×Ev):=r.bind fun s=>E1 s.2 (F [x,y,s.1])
@[simp] theorem zHC:qx3 F (some (x,δ)) fb fc=qx3b F x (fb δ) fc:=rfl
@[simp] theorem zDR:qx3b F x (some (y,δ)) fc=qx3c F x y (fc δ):=rfl
@[simp] theorem zKM:qx3c F x y (some (z,δ))=E1 δ (F [x,y,z]):=rfl
@[simp high] theorem call3:cZ 3 [] F (aE fa (aE fb (aE fc cI))) δ=qx3 F (fa δ) fb fc:=by
 rw[PL,JB];cases fa δ with
 |none=>rfl
 |some p=>
  rw[BW,JB,zHC];cases fb p.2 with
  |none=>rfl
  |some q=>
   rw[BW,JB,zDR];cases fc q.2 with
   |none=>rfl
   |some s=>exact HE (as:=[.d p.1,.d q.1,.d s.1]) rfl rfl rfl rfl
noncomputable def qw3(j:Nat)(δ:Ev):Option (dL×List dL)->Option (dL×Ev)
 |some (r,[o])=>some (r,δ.set j (.ow o))
 |_=>none
noncomputable def qw2(F:b7)(j:Nat)(x y:dL)(δ:Ev):Option Sl->Option (dL×Ev)
 |some (.ow d)=>qw3 j δ (F [x,d,y])
 |_=>none
def qwb(F:b7)(j:Nat)(x:dL)(r:Option (dL×Ev)):Option (dL×Ev):=r.bind fun q=>qw2 F j x q.1 q.2 q.2[j]?
def qwa(F:b7)(j:Nat)(x:dL)(δ:Ev)(fb:VF)(s:Option dL):Option (dL×Ev):=s.bind fun _=>qwb F j x (fb δ)
def qw(F:b7)(j:Nat)(r:Option (dL×Ev))(fb:VF):Option (dL×Ev):=r.bind fun p=>qwa F j p.1 p.2 fb (slot p.2 j)
@[simp] theorem zMS:qw3 j δ (some (x,[o]))=some (x,δ.set j (.ow o)):=rfl
@[simp] theorem zMT:qw2 F j x y δ (some (.ow d))=qw3 j δ (F [x,d,y]):=rfl
@[simp] theorem zHE:qwb F j x (some (y,δ))=qw2 F j x y δ δ[j]? :=rfl
@[simp] theorem zHF:qwa F j x δ fb (some d)=qwb F j x (fb δ):=rfl
@[simp] theorem qw_s:qw F j (some (x,δ)) fb=qwa F j x δ fb (slot δ j):=rfl
@[simp high] theorem callO:cZ 3 [1] F (aE fa (aO j (aE fb cI))) δ=qw F j (fa δ) fb:=by
 rw[PL,JB];cases fa δ with
 |none=>rfl
 |some p=>
  obtain⟨x,δ1⟩:=p;rw[BW,aO_e,qw_s];cases h:slot δ1 j with
  |none=>rfl
  |some d0=>
   rw[zHH,JB,zHF];cases fb δ1 with
   |none=>rfl
   |some q=>
    obtain⟨y,δ2⟩:=q;rw[zHE,BW,zGC,BX,BX,BX,zAF];cases h2:δ2[j]? with
    |none=>simp[h2,qsl,qCb,qw2]
    |some s=>
     cases s with
     |no=>simp[h2,qsl,qCb,qw2]
     |va d=>simp[h2,qw2]
     |ow d=>
      simp[h2];cases F [x,d,y] with
      |none=>rfl
      |some r=>
       obtain⟨v,os⟩:=r;cases os with
       |nil=>simp[qw3]
       |cons o os=>
        cases os with
        |nil=>simp
        |cons o2 os=>simp[qw3]
end
def bV:dL:= .int 999
def FQ:dL:= .tup [.str "plus",.str "minus",.str "times",.str "least",.str "most",.str "less",.str "over"]
def WL:dL:= .dct [.inr "plus",.inr "minus",.inr "times",.inr "least",.inr "most",.inr "less",.inr "over"] [.fn "plus",.fn "minus",.fn "times",.fn "least",.fn "most",.fn "less",.fn "over"]
def WT:dL:= .int 64
def XN:dL:= .int 63
def RJ:dL:= .tup [.str "row",.str "row"]
def TD:dL:= .dct [.inr "number",.inr "pick",.inr "load",.inr "take",.inr "store",.inr "put"] [.tup [.str "word"],.tup [.str "row",.str "row",.str "row"],.tup [.str "place"],.tup [.str "place",.str "row",.str "row"],.tup [.str "place",.str "row"],.tup [.str "place",.str "row",.str "row"]]
def YO:dL:= .tup [.str "load",.str "take"]
def bL:dL:= .tup [.str "store",.str "put"]
def XZ:dL:= .int 2
def XM:dL:= .int 4
def VT:dL:= .int 64
def Z0:dL:= .int 400
def SO:VS:=
   (cR (Y0 (LC (fB (f2 VL (fV 0) (fC (.ty "bool")))) (V9 (fB (f2 VL (fV 0) (fC (.ty "int"))))))
   (cE (fC (.bl false)))
   a6)
   (cE (f3 oLe oLe (fV 1) (fV 0) (fV 2))))
def cD:b7:=aW 3 [] SO
def HQ:VS:=
   (cE (f2 RX (f2 Z9 (fV 0) (fV 1)) (f2 Z9 (fC bV) (fC (.int 1)))))
def QK:b7:=aW 2 [] HQ
def LV:VS:=
   (cE (f2 RX (f2 N6 (fV 0) (fV 1)) (f2 Z9 (fC bV) (fC (.int 1)))))
def T3:b7:=aW 2 [] LV
def LX:VS:=
   (cE (f2 RX (f2 WQ (fV 0) (fV 1)) (f2 Z9 (fC bV) (fC (.int 1)))))
def T4:b7:=aW 2 [] LX
def LU:VS:=
   (cE (f2 oMin (fV 0) (fV 1)))
def T2:b7:=aW 2 [] LU
def HN:VS:=
   (cE (f2 oMax (fV 0) (fV 1)))
def QI:b7:=aW 2 [] HN
def HL:VS:=
   (cE (OF (fB (f2 oLt (fV 0) (fV 1))) (fC (.int 1)) (fC (.int 0))))
def QH:b7:=aW 2 [] HL
def LW:VS:=
   (cE (OF (fB (f2 Y9 (fV 1) (fC (.int 0)))) (fC .non) (f2 QE (fV 0) (fV 1))))
def US:b7:=aW 2 [] LW
def HP:VS:=
   (cE (OF (fB (f2 L6 (fV 0) (fC (.int 0)))) (fV 1) (fV 2)))
def QJ:b7:=aW 3 [] HP
def LS:VS:=
   (cR (Y0 (fB (f2 Y9 (fV 0) (fC (.str "pick"))))
   (cE (cZ 3 [] QJ (aE (f2 cT (fV 1) (fC (.int 0))) (aE (f2 cT (fV 1) (fC (.int 1))) (aE (f2 cT (fV 1) (fC (.int 2))) cI)))))
   a6)
   (cR (Z2 2 (xV (f2 cT (fC WL) (fV 0))))
   (cE (OE 2 [] [("plus",QK),("minus",T3),("times",T4),("least",T2),("most",QI),("less",QH),("over",US)] 2 (aE (f2 cT (fV 1) (fC (.int 0))) (aE (f2 cT (fV 1) (fC (.int 1))) cI))))))
def UR:b7:=aW 3 [] LS
def OH:VS:=
   (cR (Y0 (fB (f2 (YC false) (fV 0) (fC FQ)))
   (cE (fC RJ))
   a6)
   (cE (f2 zC4 (fC TD) (fV 0))))
def aX:b7:=aW 1 [] OH
def RM:VS:=
   (cE (f2 (YC true) (f2 cT (fV 0) (fC (.int 0))) (fC bL)))
def YD:b7:=aW 1 [] RM
def ZF:VS:=
   (cE (OF (LC (fB (f2 (YC false) (f2 cT (fV 0) (fC (.int 0))) (fC YO))) (fB (f2 (YC false) (f2 cT (fV 0) (fC (.int 0))) (fC bL)))) (f2 cT (fV 0) (fC (.int 1))) (fC .non)))
def bU:b7:=aW 1 [] ZF
def OG:VS:=
   (cR (NO 1 2 (fV 0))
   (cE (ZI [] 2 (AT (cZ 1 [] aX (aE (fV 1) cI)) (fV 2)) (M9 2 (b4 (gN 0) (b4 (gN 1) YA))) (fB (f2 Y9 (fV 0) (fC (.str "row")))) (fV 1))))
def aI:b7:=aW 3 [] OG
def SS:VS:=
   (cE (N4 (cZ 3 [] cD (aE (fV 0) (aE (fC (.int 0)) (aE (f2 N6 (f1 ZH (fV 1)) (fC (.int 1))) cI)))) (f2 cT (fV 1) (fV 0))))
def bA:b7:=aW 2 [] SS
def QQ:VS:=
   (cR (Y0 (fB (f2 Y9 (fV 0) (fC (.str "word"))))
   (cE (cZ 3 [] cD (aE (fV 1) (aE (fC (.int 0)) (aE (fC bV) cI)))))
   a6)
   (cR (Y0 (fB (f2 Y9 (fV 0) (fC (.str "place"))))
   (cE (cZ 3 [] cD (aE (fV 1) (aE (fC (.int 0)) (aE (fC XN) cI)))))
   a6)
   (cE (cZ 2 [] bA (aE (fV 1) (aE (fV 2) cI))))))
def X2:b7:=aW 3 [] QQ
def RL:VS:=
   (cR (Y0 (LC (V9 (fB (f2 VL (fV 0) (fC (.ty "tuple"))))) (fB (f2 Y9 (f1 ZH (fV 0)) (fC (.int 0)))))
   (cE (fC (.bl false)))
   a6)
   (cR (NO 2 3 (fV 0))
   (cR (Z2 4 (xV (OF (fB (f2 VL (fV 2) (fC (.ty "str")))) (cZ 1 [] aX (aE (fV 2) cI)) (fC .non))))
   (cR (Y0 (LC (fB (f2 L5 (fV 4) (fC .non))) (fB (f2 L6 (f1 ZH (fV 4)) (f1 ZH (fV 3)))))
   (cE (fC (.bl false)))
   a6)
   (cE (f1 ET (ZI [1] 2 (AT (fV 4) (fV 3)) (M9 2 (b4 (gN 1) (b4 (gN 2) YA))) X5 (cZ 3 [] X2 (aE (fV 1) (aE (fV 2) (aE (fV 0) cI)))))))))))
def Z7:b7:=aW 5 [] RL
def VY:VS:=
   (cE (cZ 3 [] cD (aE (fV 0) (aE (fC XZ) (aE (fC XM) cI)))))
def ZB:b7:=aW 1 [] VY
def SN:VS:=
   (cR (Y0 (LC (V9 (fB (f2 VL (fV 0) (fC (.ty "list"))))) (V9 (fB (f3 oLe oLe (fV 1) (f1 ZH (fV 0)) (fC VT)))))
   (cE (fC (.bl false)))
   a6)
   (cE (f1 ET (ZI [] 1 (T0 (fV 0)) (gN 0) X5 (cZ 3 [] cD (aE (fV 0) (aE (fC (.int 0)) (aE (fC bV) cI))))))))
def X3:b7:=aW 2 [] SN
def UE:VS:=
   (cR (Y0 (fB (f2 Y9 (fV 0) (fC (.str "take"))))
   (cE (f2 L6 (f2 cT (fV 1) (fC (.int 0))) (fC (.int 0))))
   a6)
   (cR (Y0 (fB (f2 Y9 (fV 0) (fC (.str "put"))))
   (cE (f2 L6 (f2 cT (fV 1) (fC (.int 1))) (fC (.int 0))))
   a6)
   (cE (fC (.bl true)))))
def ZM:b7:=aW 2 [] UE
def cN:VS:=
   (cR (Y0 (V9 (fB (cZ 2 [] ZM (aE (fV 0) (aE (fV 2) cI)))))
   (cE (aZ (dH (OF (fB (f2 Y9 (fV 0) (fC (.str "take")))) (f2 cT (fV 2) (fC (.int 1))) (fC .non)) (dH (fC .non) cK))))
   a6)
   (cR (Y0 (fB (f2 oGe (fV 1) (f1 ZH (fO 3))))
   (cE (aZ (dH (fC .non) (dH (fC (.str "beyond")) cK))))
   a6)
   (cR (Y0 (fB (f2 (YC false) (fV 0) (fC bL)))
   (cR (GP 3 (fV 1) (f2 cT (fV 2) (fC (.int 0))))
   (cE (aZ (dH (fC .non) (dH (fC .non) cK)))))
   a6)
   (cE (aZ (dH (f2 cT (fO 3) (fV 1)) (dH (fC .non) cK)))))))
def cQ:b7:=aW 4 [3] cN
def UX:VS:=
   (cR (Z2 4 (xV (f2 cT (fV 0) (fC (.int 0)))))
   (cR (Y0 (fB (f2 Y9 (fV 4) (fC (.str "number"))))
   (cE (aZ (dH (f2 cT (fV 0) (fC (.int 1))) (dH (fC .non) cK))))
   a6)
   (cR (Z2 5 (xV (cZ 1 [] bU (aE (fV 0) cI))))
   (cR (Y0 (fB (f2 WD (fV 5) (fC .non)))
   (cE (cZ 4 [3] cQ (aE (fV 4) (aE (f2 Z9 (fV 5) (fV 3)) (aE (fV 1) (aO 2 cI))))))
   a6)
   (cR (Z2 6 (xV (cZ 2 [] UR (aE (fV 4) (aE (fV 1) cI)))))
   (cE (aZ (dH (fV 6) (dH (OF (fB (f2 L5 (fV 6) (fC .non))) (fC (.str "nought")) (fC .non)) cK)))))))))
def a9:b7:=aW 7 [2] UX
def W6:VS:=
   (cE (N4 (f2 VL (fV 0) (fC (.ty "tuple"))) (f2 Y9 (f1 ZH (fV 0)) (fV 1))))
def bI:b7:=aW 2 [] W6
def UD:VS:=
   (cR (Y0 (JE (fB (f2 Y9 (f1 ZH (fV 0)) (fC (.int 2)))) (JE (fB (f2 VL (f2 cT (fV 0) (fC (.int 0))) (fC (.ty "str")))) (fB (f2 Y9 (f2 cT (fV 0) (fC (.int 0))) (fC (.str "number"))))))
   (cE (N4 (cZ 2 [] bI (aE (f2 cT (fV 0) (fC (.int 1))) (aE (fV 1) cI))) (f1 ET (ZI [] 1 (T0 (f2 cT (fV 0) (fC (.int 1)))) (gN 0) X5 (cZ 3 [] cD (aE (fV 0) (aE (fC (.int 0)) (aE (fC bV) cI))))))))
   a6)
   (cE (cZ 2 [] Z7 (aE (fV 0) (aE (fV 2) cI)))))
def YL:b7:=aW 3 [] UD
def UY:VS:=
   (cR (Y0 (LC (fB (f2 L6 (f1 ZH (fV 0)) (fC (.int 1)))) (V9 (fB (cZ 2 [] bI (aE (f2 cT (fV 0) (fC (.int 0))) (aE (fV 1) cI))))))
   (cE (fC (.bl false)))
   a6)
   (cE (f1 ET (ZI [2] 1 (T0 (f2 cT (fV 0) (fC (.int 0)))) (gN 1) X5 (cZ 2 [] bA (aE (fV 1) (aE (fV 0) cI)))))))
def YK:b7:=aW 3 [] UY
def VZ:VS:=
   (cR (Y0 (LC (fB (f2 L6 (f1 ZH (fV 0)) (fC (.int 3)))) (LC (V9 (fB (cZ 2 [] bA (aE (f2 cT (fV 0) (fC (.int 0))) (aE (fV 2) cI))))) (V9 (fB (cZ 2 [] bA (aE (f2 cT (fV 0) (fC (.int 1))) (aE (fV 2) cI)))))))
   (cE (fC (.bl false)))
   a6)
   (cE (N4 (cZ 2 [] bI (aE (f2 cT (fV 0) (fC (.int 2))) (aE (fV 1) cI))) (f1 ET (ZI [1] 1 (T0 (f2 cT (fV 0) (fC (.int 2)))) (gN 1) X5 (cZ 3 [] cD (aE (fV 1) (aE (fC (.int 0)) (aE (f2 N6 (f2 WQ (fC (.int 2)) (fV 0)) (fC (.int 1))) cI)))))))))
def Y5:b7:=aW 3 [] VZ
def QR:VS:=
   (cE (N4 (f2 Y9 (f1 ZH (fV 0)) (fC (.int 2))) (N4 (cZ 2 [] bA (aE (f2 cT (fV 0) (fC (.int 0))) (aE (fV 2) cI))) (cZ 3 [] cD (aE (f2 cT (fV 0) (fC (.int 1))) (aE (fC (.int 0)) (aE (f2 N6 (fV 1) (fC (.int 1))) cI)))))))
def XH:b7:=aW 3 [] QR
def Y6:VS:=
   (cR (Y0 (LC (V9 (fB (f2 VL (fV 0) (fC (.ty "tuple"))))) (LC (fB (f2 Y9 (f1 ZH (fV 0)) (fC (.int 0)))) (V9 (fB (f2 VL (f2 cT (fV 0) (fC (.int 0))) (fC (.ty "str")))))))
   (cE (fC (.bl false)))
   a6)
   (cR (R9 4 5 (xV (f2 cT (fV 0) (fC (.int 0)))) (xV (JP (fV 0) (KC (fC (.int 1))) IA)))
   (cR (Y0 (fB (f2 Y9 (fV 4) (fC (.str "wide"))))
   (cE (cZ 3 [] YL (aE (fV 5) (aE (fV 1) (aE (fV 3) cI)))))
   a6)
   (cR (Y0 (fB (f2 Y9 (fV 4) (fC (.str "gather"))))
   (cE (cZ 3 [] YK (aE (fV 5) (aE (fV 1) (aE (fV 2) cI)))))
   a6)
   (cR (Y0 (fB (f2 Y9 (fV 4) (fC (.str "shuffle"))))
   (cE (cZ 3 [] Y5 (aE (fV 5) (aE (fV 1) (aE (fV 3) cI)))))
   a6)
   (cR (Y0 (fB (f2 Y9 (fV 4) (fC (.str "lane"))))
   (cE (cZ 3 [] XH (aE (fV 5) (aE (fV 1) (aE (fV 3) cI)))))
   a6)
   (cE (cZ 2 [] Z7 (aE (fV 0) (aE (fV 2) cI))))))))))
def bD:b7:=aW 6 [] Y6
def QA:VS:=
   (cR (Y0 (fB (f2 Y9 (f2 cT (fV 0) (fC (.int 0))) (fC (.str "wide"))))
   (cE (OF (fB (cZ 1 [] YD (aE (JP (fV 0) (KC (fC (.int 1))) IA) cI))) (fC (.str "pack")) (fC .non)))
   a6)
   (cR (Y0 (fB (f2 (YC false) (f2 cT (fV 0) (fC (.int 0))) (aZ (dH (fC (.str "gather")) (dH (fC (.str "shuffle")) cK)))))
   (cE (fC (.str "pack")))
   a6)
   (cE (OF (fB (cZ 1 [] YD (aE (fV 0) cI))) (fC (.str "word")) (fC .non)))))
def XV:b7:=aW 1 [] QA
def cO:VS:=
   (cR (Y0 (V9 (fB (cZ 4 [] bD (aE (fV 4) (aE (fV 1) (aO 2 (aO 3 cI)))))))
   (cE (fC (.bl false)))
   a6)
   (cR (Z2 5 (xV (cZ 1 [] XV (aE (fV 4) cI))))
   (cR (WG 2 WC (dH (f2 Y9 (fV 5) (fC (.str "word"))) cK))
   (WG 3 WC (dH (f2 Y9 (fV 5) (fC (.str "pack"))) cK)))))
def ZQ:VS:=
   (cR (R9 2 3 (xO (W5 cK)) (xO (W5 cK)))
   (cR (R8 (T0 (fV 0)) (gN 4)
   cO)
   (cE (fC (.bl true)))))
def bT:b7:=aW 6 [] ZQ
def XO:VS:=
   (cR (Y0 (LC (V9 (fB (f2 VL (fV 0) (fC (.ty "tuple"))))) (fB (f2 L6 (f1 ZH (fV 0)) (fC (.int 3)))))
   (cE (fC (.bl false)))
   a6)
   (cR (P8 (fV 0) (M9 3 (b4 (gN 1) (b4 (gN 2) (b4 (gN 3) YA)))))
   (cR (Y0 (LC (V9 (fB (cZ 1 [] ZB (aE (fV 1) cI)))) (V9 (fB (cZ 3 [] cD (aE (fV 2) (aE (fC (.int 0)) (aE (fC WT) cI)))))))
   (cE (fC (.bl false)))
   a6)
   (cR (Y0 (LC (V9 (fB (f2 VL (fV 3) (fC (.ty "tuple"))))) (fB (f2 oGt (f1 ZH (fV 3)) (fC Z0))))
   (cE (fC (.bl false)))
   a6)
   (cE (cZ 2 [] bT (aE (fV 3) (aE (fV 1) cI))))))))
def bQ:b7:=aW 4 [] XO
def ZS:VS:=
   (cR (Z2 6 (xV (ZI [2,5] 1 (T0 (cZ 1 [] aI (aE (fV 0) cI))) (gN 2) X5 (f2 cT (f2 cT (fO 0) (fV 2)) (fV 1)))))
   (cR (P8 (cZ 4 [2] a9 (aE (fV 0) (aE (fV 6) (aO 3 (aE (fV 5) cI))))) (M9 2 (b4 (gN 7) (b4 (gN 8) YA))))
   (cR (Y0 (fB (f2 WD (fV 8) (fC .non)))
   (cE (aZ (dH (fO 4) (dH (fV 5) (dH (fV 8) cK)))))
   a6)
   (WG 4 WC (dH (fV 7) cK)))))
def UC:VS:=
   (cR (Y0 (fB (f2 Y9 (f2 cT (fV 0) (fC (.int 0))) (fC (.str "number"))))
   (cE (aZ (dH (f1 OP (f2 cT (fV 0) (fC (.int 1)))) (dH (fC .non) (dH (fC .non) cK)))))
   a6)
   (cR (Z2 4 (xO (W5 cK)))
   (cR (R8 (IN (fV 1)) (gN 5)
   ZS)
   (cE (aZ (dH (fO 4) (dH (fC .non) (dH (fC .non) cK))))))))
def Y4:b7:=aW 9 [2,3] UC
def RN:VS:=
   (cR (Y0 (fB (f2 Y9 (f2 cT (fV 0) (fC (.int 0))) (fC (.str "gather"))))
   (cE (ZI [1] 1 (T0 (f2 cT (fV 0) (fC (.int 1)))) (gN 1) X5 (f2 cT (fO 0) (fV 1))))
   a6)
   (cR (Y0 (fB (f2 Y9 (f2 cT (fV 0) (fC (.int 0))) (fC (.str "lane"))))
   (cE (f2 cT (f2 cT (fO 1) (f2 cT (fV 0) (fC (.int 1)))) (f2 cT (fV 0) (fC (.int 2)))))
   a6)
   (cR (Z2 2 (xV (f2 Z9 (f2 cT (fO 1) (f2 cT (fV 0) (fC (.int 1)))) (f2 cT (fO 1) (f2 cT (fV 0) (fC (.int 2)))))))
   (cE (ZI [2] 1 (T0 (f2 cT (fV 0) (fC (.int 3)))) (gN 1) X5 (f2 cT (fV 0) (fV 1)))))))
def XY:b7:=aW 3 [1] RN
def bE:VS:=
   (cR (Y0 (fB (f2 Y9 (f2 cT (fV 0) (fC (.int 0))) (fC (.str "wide"))))
   (cE (cZ 4 [2,3] Y4 (aE (JP (fV 0) (KC (fC (.int 1))) IA) (aE (fV 1) (aO 2 (aO 3 cI))))))
   a6)
   (cR (Y0 (fB (f2 (YC false) (f2 cT (fV 0) (fC (.int 0))) (aZ (dH (fC (.str "gather")) (dH (fC (.str "shuffle")) (dH (fC (.str "lane")) cK))))))
   (cE (aZ (dH (cZ 2 [1] XY (aE (fV 0) (aO 2 cI))) (dH (fC .non) (dH (fC .non) cK)))))
   a6)
   (cR (P8 (cZ 3 [2] (AF a9 (.int 0)) (aE (fV 0) (aE (ZI [2] 1 (T0 (cZ 1 [] aI (aE (fV 0) cI))) (gN 1) X5 (f2 cT (fO 0) (fV 1))) (aO 3 cI)))) (M9 2 (b4 (gN 4) (b4 (gN 5) YA))))
   (cE (aZ (dH (fV 4) (dH (fC .non) (dH (fV 5) cK))))))))
def cY:b7:=aW 6 [2,3] bE
def cX:VS:=
   (cR (P8 (cZ 4 [2,3] cY (aE (fV 8) (aE (fV 2) (aO 6 (aO 5 cI))))) (M9 3 (b4 (gN 9) (b4 (gN 10) (b4 (gN 11) YA)))))
   (cR (Y0 (fB (f2 WD (fV 11) (fC .non)))
   (cE (aZ (dH (fO 5) (dH (aZ (dH (fV 7) (dH (fV 10) (dH (fV 11) cK)))) cK))))
   a6)
   (WG 6 WC (dH (fV 9) cK))))
def WO:VS:=
   (cR (Y0 (V9 (fB (cZ 1 [] bQ (aE (fV 0) cI))))
   (fun _=>none)
   a6)
   (cR (P8 (fV 0) (M9 3 (b4 (gN 2) (b4 (gN 3) (b4 (gN 4) YA)))))
   (cR (Y0 (V9 (fB (cZ 2 [] X3 (aE (fV 1) (aE (fV 3) cI)))))
   (fun _=>none)
   a6)
   (cR (Z2 5 (xO (f1 OP (fV 1))))
   (cR (Z2 6 (xO (W5 cK)))
   (cR (R8 (JR (fV 4)) (M9 2 (b4 (gN 7) (b4 (gN 8) YA)))
   cX)
   (cE (aZ (dH (fO 5) (dH (fC .non) cK))))))))))
def aP:b7:=aW 12 [] WO
def VM:VS:=
   (Z2 2 (xV (f2 QE (fV 2) (fC (.int 1000003)))))
def WM:VS:=
   (cR (Y0 (fB (f2 oLt (fV 1) (f1 ZH (fV 0))))
   (cE (f2 cT (fV 0) (fV 1)))
   a6)
   (cR (Y0 (fB (f2 Y9 (fV 0) (W5 cK)))
   (cE (fC (.int 0)))
   a6)
   (cR (Z2 2 (xV (f2 cT (fV 0) (f2 RX (fV 1) (f1 ZH (fV 0))))))
   (cR (R8 (IN (f2 oMin (f2 QE (fV 1) (f1 ZH (fV 0))) (fC (.int 60)))) (gN 3)
   VM)
   (cE (f2 Z9 (f2 Z9 (f2 WQ (f2 cT (fV 0) (f2 RX (fV 1) (f1 ZH (fV 0)))) (fC (.int 31))) (fV 1)) (f2 WQ (fV 2) (fC (.int 101)))))))))
def aN:b7:=aW 4 [] WM
def U0:VS:=
   (cR (Z2 3 (xV (f2 RX (f2 Z9 (f2 Z9 (f2 WQ (cZ 2 [] aN (aE (fV 0) (aE (fV 1) cI))) (fC (.int 1103515245))) (f2 WQ (fC (.int 7919)) (fV 1))) (fC (.int 12345))) (fC (.int 2147483647)))))
   (cE (f2 RX (f2 RX (f2 RX (f2 oPow (fV 3) (fC (.int 5))) (fC (.int 2147483647))) (fC (.int 999983))) (fV 2))))
def YN:b7:=aW 4 [] U0
def SQ:VS:=
   (cR (WG 1 WC (dH (fC (.int 0)) cK))
   (cE (cZ 3 [] YN (aE (fV 0) (aE (f1 ZH (fO 1)) (aE (fV 2) cI))))))
def cP:b7:=aW 3 [1] SQ
def SR:VS:=
   (cE (f2 cT (fV 2) (cZ 3 [1] cP (aE (fV 0) (aO 1 (aE (f1 ZH (fV 2)) cI))))))
def bZ:b7:=aW 3 [1] SR
def U1:VS:=
   (cR (OY 2 (fV 3) (f2 RX (f2 Z9 (LQ 2 (fV 3) (cZ 3 [1] cP (aE (fV 0) (aO 1 (aE (fV 4) cI))))) (cZ 3 [1] bZ (aE (fV 0) (aO 1 (aE (W5 (dH (fC (.int 1)) (dH (fC (.int 1)) (dH (fC (.int 1)) (dH (fC (.int 0)) (dH (fC (.int 3)) cK)))))) cI))))) (fV 4)))
   (cE (f2 cT (fO 2) (fV 3))))
def aU:b7:=aW 5 [1,2] U1
def QS:VS:=
   (cR (Z2 5 (xV (cZ 3 [1] cP (aE (fV 0) (aO 1 (aE (fC (.int 13)) cI))))))
   (cR (Y0 (LC (fB (f2 Y9 (fV 2) (W5 cK))) (fB (f2 Y9 (fV 5) (fC (.int 0)))))
   (cR (Y0 (fB (f2 Y9 (cZ 3 [1] cP (aE (fV 0) (aO 1 (aE (fC (.int 2)) cI)))) (fC (.int 0))))
   (cE (aZ (dH (fC (.str "number")) (dH (cZ 3 [1] bZ (aE (fV 0) (aO 1 (aE (W5 (dH (fC (.int 0)) (dH (fC (.int 1)) (dH (fC (.int 2)) (dH (fC (.int 5)) (dH (fC (.int 999)) (dH (cZ 3 [1] cP (aE (fV 0) (aO 1 (aE (fC (.int 1000)) cI)))) cK))))))) cI)))) cK))))
   a6)
   (cE (aZ (dH (fC (.str "load")) (dH (cZ 5 [1,2] aU (aE (fV 0) (aO 1 (aO 3 (aE (fC (.str "load")) (aE (fV 4) cI)))))) cK)))))
   a6)
   (cR (P8 (ZI [0,1,2] 1 (IN (fC (.int 3))) (gN 3) X5 (f2 cT (fV 2) (f2 oMax (fC (.int 0)) (f2 N6 (f2 N6 (f1 ZH (fV 2)) (fC (.int 1))) (cZ 3 [1] cP (aE (fV 0) (aO 1 (aE (fC (.int 6)) cI)))))))) (M9 3 (b4 (gN 6) (b4 (gN 7) (b4 (gN 8) YA)))))
   (cR (Y0 (fB (f2 (YC false) (fV 5) (aZ (dH (fC (.int 1)) (dH (fC (.int 2)) cK)))))
   (cE (aZ (dH (fC (.str "load")) (dH (cZ 5 [1,2] aU (aE (fV 0) (aO 1 (aO 3 (aE (fC (.str "load")) (aE (fV 4) cI)))))) cK))))
   a6)
   (cR (Y0 (fB (f2 Y9 (fV 5) (fC (.int 3))))
   (cE (aZ (dH (fC (.str "take")) (dH (cZ 5 [1,2] aU (aE (fV 0) (aO 1 (aO 3 (aE (fC (.str "take")) (aE (fV 4) cI)))))) (dH (fV 8) (dH (fV 6) cK))))))
   a6)
   (cR (Y0 (fB (f2 (YC false) (fV 5) (aZ (dH (fC (.int 4)) (dH (fC (.int 5)) cK)))))
   (cE (aZ (dH (fC (.str "store")) (dH (cZ 5 [1,2] aU (aE (fV 0) (aO 1 (aO 3 (aE (fC (.str "store")) (aE (fV 4) cI)))))) (dH (fV 6) cK)))))
   a6)
   (cR (Y0 (fB (f2 Y9 (fV 5) (fC (.int 6))))
   (cE (aZ (dH (fC (.str "put")) (dH (cZ 5 [1,2] aU (aE (fV 0) (aO 1 (aO 3 (aE (fC (.str "put")) (aE (fV 4) cI)))))) (dH (fV 6) (dH (fV 8) cK))))))
   a6)
   (cR (Y0 (fB (f2 Y9 (fV 5) (fC (.int 7))))
   (cE (aZ (dH (fC (.str "pick")) (dH (fV 8) (dH (fV 6) (dH (fV 7) cK))))))
   a6)
   (cE (aZ (dH (f2 cT (W5 (dH (fC (.str "over")) (dH (fC (.str "plus")) (dH (fC (.str "minus")) (dH (fC (.str "times")) (dH (fC (.str "least")) (dH (fC (.str "most")) (dH (fC (.str "less")) cK)))))))) (cZ 3 [1] cP (aE (fV 0) (aO 1 (aE (fC (.int 7)) cI))))) (dH (fV 6) (dH (fV 7) cK)))))))))))))
def XI:b7:=aW 9 [1,3] QS
def UZ:VS:=
   (cR (Z2 3 (xV (cZ 3 [1] bZ (aE (fV 0) (aO 1 (aE (W5 (dH (fV 2) (dH (f2 oMin (fC (.int 64)) (f2 Z9 (fV 2) (cZ 3 [1] cP (aE (fV 0) (aO 1 (aE (fC (.int 9)) cI)))))) (dH (fC (.int 64)) cK)))) cI))))))
   (cR (Z2 4 (xV (cZ 3 [1] bZ (aE (fV 0) (aO 1 (aE (W5 (dH (fC (.int 2)) (dH (fC (.int 4)) (dH (fC (.int 1000)) cK)))) cI))))))
   (cE (ZI [0,1,4] 1 (IN (fV 3)) (gN 3) X5 (cZ 3 [1] cP (aE (fV 0) (aO 1 (aE (fV 2) cI))))))))
def YM:b7:=aW 5 [1] UZ
def QB:VS:=
   (cR (Y0 (fB (f2 Y9 (f2 cT (fV 0) (fC (.int 0))) (fC (.str "number"))))
   (cE (W5 cK))
   a6)
   (cE (OF (fB (f2 (YC false) (f2 cT (fV 0) (fC (.int 0))) (aZ (dH (fC (.str "load")) (dH (fC (.str "take")) (dH (fC (.str "store")) (dH (fC (.str "put")) cK))))))) (f1 OP (JP (fV 0) (KC (fC (.int 2))) IA)) (f1 OP (JP (fV 0) (KC (fC (.int 1))) IA)))))
def ZC:b7:=aW 1 [] QB
def XR:VS:=
   (cR (R9 9 10 (xV (cZ 3 [1] cP (aE (fV 0) (aO 1 (aE (fC (.int 6)) cI))))) (xV (f1 ZH (fO 5))))
   (cR (Y0 (fB (f2 Y9 (fV 9) (fC (.int 0))))
   (WG 5 WC (dH (aZ (dH (fC (.str "gather")) (dH (f1 WR (ZI [0,1,6] 1 (IN (fV 3)) (gN 3) X5 (cZ 3 [1] bZ (aE (fV 0) (aO 1 (aO 2 cI)))))) cK))) cK))
   (Y0 (fB (f2 Y9 (fV 9) (fC (.int 1))))
   (cR (Z2 11 (xV (f1 WR (ZI [0,1,3] 1 (IN (fV 3)) (gN 3) X5 (cZ 3 [1] cP (aE (fV 0) (aO 1 (aE (f2 WQ (fC (.int 2)) (fV 2)) cI))))))))
   (WG 5 WC (dH (aZ (dH (fC (.str "shuffle")) (dH (cZ 3 [1] bZ (aE (fV 0) (aO 1 (aO 7 cI)))) (dH (cZ 3 [1] bZ (aE (fV 0) (aO 1 (aO 7 cI)))) (dH (fV 11) cK))))) cK)))
   (Y0 (fB (f2 Y9 (fV 9) (fC (.int 2))))
   (WG 5 WC (dH (aZ (dH (fC (.str "lane")) (dH (cZ 3 [1] bZ (aE (fV 0) (aO 1 (aO 7 cI)))) (dH (cZ 3 [1] cP (aE (fV 0) (aO 1 (aE (fV 3) cI)))) cK)))) cK))
   (cR (Z2 12 (xV (cZ 4 [1] (EG 3 XI) (aE (fV 0) (aO 1 (aIf (fB (f2 Y9 (fV 9) (fC (.int 3)))) 6 7 (aE (fV 4) cI)))))))
   (WG 5 WC (dH (OF (LC (fB (f2 Y9 (fV 9) (fC (.int 3)))) (fB (f2 Y9 (f2 cT (fV 12) (fC (.int 0))) (fC (.str "number"))))) (fV 12) (f2 Z9 (aZ (dH (fC (.str "wide")) cK)) (fV 12))) cK))))))
   (cR (Z2 13 (xV (OF (fB (f2 Y9 (f2 cT (f2 cT (fO 5) (f1 N5 (fC (.int 1)))) (fC (.int 0))) (fC (.str "wide")))) (JP (f2 cT (fO 5) (f1 N5 (fC (.int 1)))) (KC (fC (.int 1))) IA) (f2 cT (fO 5) (f1 N5 (fC (.int 1)))))))
   (Y0 (fB (f2 (YC true) (f2 cT (fV 13) (fC (.int 0))) (aZ (dH (fC (.str "store")) (dH (fC (.str "put")) cK)))))
   (Y0 (fB (f2 (YC false) (f2 cT (f2 cT (fO 5) (f1 N5 (fC (.int 1)))) (fC (.int 0))) (aZ (dH (fC (.str "wide")) (dH (fC (.str "gather")) (dH (fC (.str "shuffle")) cK))))))
   (WG 7 WC (dH (fV 10) cK))
   (WG 6 WC (dH (fV 10) cK)))
   a6))))
def WN:VS:=
   (cR (R9 3 4 (xV (cZ 3 [1] bZ (aE (fV 0) (aO 1 (aE (W5 (dH (fC (.int 2)) (dH (fC (.int 3)) (dH (fC (.int 4)) cK)))) cI))))) (xV (cZ 3 [1] bZ (aE (fV 0) (aO 1 (aE (W5 (dH (fC (.int 4)) (dH (fC (.int 9)) (dH (fC (.int 64)) cK)))) cI))))))
   (cR (NN 5 6 7 (xO (W5 (dH (aZ (dH (fC (.str "number")) (dH (cZ 3 [1] cP (aE (fV 0) (aO 1 (aE (fC (.int 1000)) cI)))) cK))) cK))) (xO (W5 (dH (fC (.int 0)) cK))) (xO (W5 cK)))
   (cR (WG 5 WC (dH (aZ (dH (fC (.str "wide")) (dH (fC (.str "number")) (dH (f1 WR (ZI [0,1] 1 (IN (fV 3)) (gN 2) X5 (cZ 3 [1] cP (aE (fV 0) (aO 1 (aE (fC (.int 1000)) cI)))))) cK)))) cK))
   (cR (WG 7 WC (dH (fC (.int 1)) cK))
   (cR (R8 (IN (cZ 3 [1] cP (aE (fV 0) (aO 1 (aE (f2 Z9 (fV 2) (fC (.int 1))) cI))))) (gN 8)
   XR)
   (cE (aZ (dH (fV 3) (dH (cZ 3 [1] cP (aE (fV 0) (aO 1 (aE (f2 Z9 (fV 4) (fC (.int 1))) cI)))) (dH (f1 WR (fO 5)) cK))))))))))
def ZL:b7:=aW 14 [1] WN
def ZV:VS:=
   (cR (XB 5 (dH (fV 7) (dH (fV 9) cK)) (f1 ZH (fO 4)))
   (WG 4 WC (dH (aZ (dH (fC (.str "number")) (dH (f2 cT (f2 cT (fV 8) (fC (.int 2))) (fV 9)) cK))) cK)))
def ZW:VS:=
   (XB 5 (dH (fV 7) (dH (fV 9) cK)) (P1 5 (dH (f2 cT (f2 cT (fV 8) (fC (.int 1))) (fV 9)) (dH (fC .non) cK))))
def ZX:VS:=
   (cR (Z2 10 (xV (f2 cT (f2 cT (fV 8) (fC (.int 3))) (fV 9))))
   (XB 5 (dH (fV 7) (dH (fV 9) cK)) (P1 5 (dH (f2 cT (fV 8) (f2 Z9 (fC (.int 1)) (f2 QE (fV 10) (fV 1)))) (dH (f2 RX (fV 10) (fV 1)) cK)))))
def aK:VS:=
   (cR (Z2 12 (xV (f1 WR (ZI [5,9] 1 (T0 (cZ 1 [] ZC (aE (fV 11) cI))) (gN 2) X5 (P1 0 (dH (fV 2) (dH (fV 1) cK)))))))
   (cR (Z2 13 (xV (OF (fB (f2 (YC false) (f2 cT (fV 11) (fC (.int 0))) (aZ (dH (fC (.str "load")) (dH (fC (.str "take")) (dH (fC (.str "store")) (dH (fC (.str "put")) (dH (fC (.str "number")) cK)))))))) (JP (fV 11) IA (KC (fC (.int 2)))) (JP (fV 11) IA (KC (fC (.int 1)))))))
   (cR (Y0 (JE (fB (f2 Y9 (f1 ZH (fV 13)) (fC (.int 2)))) (fB (f2 L6 (f2 cT (fV 11) (fC (.int 0))) (fC (.str "number")))))
   (Z2 13 (xV (aZ (dH (f2 cT (fV 11) (fC (.int 0))) (dH (f2 Z9 (f2 cT (fV 11) (fC (.int 1))) (OF (fB (f2 WD (fV 9) (fC .non))) (fV 9) (fC (.int 0)))) cK)))))
   a6)
   (cR (XB 5 (dH (fV 7) (dH (fV 9) cK)) (f1 ZH (fO 4)))
   (cR (OY 6 (f1 ZH (fO 4)) (aZ (dH (fV 7) (dH (fV 9) cK))))
   (WG 4 WC (dH (f2 Z9 (fV 13) (fV 12)) cK)))))))
def cJ:VS:=
   (Y0 (fB (f2 Y9 (JP (fV 8) IA (KC (fC (.int 2)))) (aZ (dH (fC (.str "wide")) (dH (fC (.str "number")) cK)))))
   (R8 (IN (fV 1)) (gN 9)
   ZV)
   (Y0 (fB (f2 Y9 (f2 cT (fV 8) (fC (.int 0))) (fC (.str "gather"))))
   (R8 (IN (fV 1)) (gN 9)
   ZW)
   (Y0 (fB (f2 Y9 (f2 cT (fV 8) (fC (.int 0))) (fC (.str "shuffle"))))
   (R8 (IN (fV 1)) (gN 9)
   ZX)
   (Y0 (fB (f2 Y9 (f2 cT (fV 8) (fC (.int 0))) (fC (.str "lane"))))
   (XB 5 (dH (fV 7) (dH (fC .non) cK)) (P1 5 (dH (f2 cT (fV 8) (fC (.int 1))) (dH (f2 cT (fV 8) (fC (.int 2))) cK))))
   (cR (Z2 11 (xV (OF (fB (f2 Y9 (f2 cT (fV 8) (fC (.int 0))) (fC (.str "wide")))) (JP (fV 8) (KC (fC (.int 1))) IA) (fV 8))))
   (R8 (T0 (OF (fB (f2 Y9 (f2 cT (fV 8) (fC (.int 0))) (fC (.str "wide")))) (PM (fV 1)) (W5 (dH (fC .non) cK)))) (gN 9)
   aK))))))
def W7:VS:=
   (cR (P8 (fV 0) (M9 3 (b4 (gN 1) (b4 (gN 2) (b4 (gN 3) YA)))))
   (cR (NN 4 5 6 (xO (W5 cK)) (xO (fC (.dcn [] []))) (xO (fC (.dct [] []))))
   (cR (R8 (JR (fV 3)) (M9 2 (b4 (gN 7) (b4 (gN 8) YA)))
   cJ)
   (cE (aZ (dH (aZ (dH (fV 1) (dH (fV 2) (dH (f1 WR (fO 4)) cK)))) (dH (fO 6) cK)))))))
def ZU:b7:=aW 14 [] W7
def T6:VS:=
   (cR (Z2 7 (xV (cZ 3 [1] YM (aE (fV 0) (aO 1 (aE (f2 cT (fV 2) (fC (.int 1))) cI))))))
   (cR (P8 (cZ 2 [] aP (aE (fV 3) (aE (fV 7) cI))) (M9 2 (b4 (gN 8) (b4 (gN 9) YA))))
   (cR (Z2 10 (xV (OF (fB (f2 L5 (fV 9) (fC .non))) (fC .non) (f2 Z9 (f2 cT (fV 4) (f2 cT (fV 9) (fC (.int 0)))) (aZ (dH (f2 cT (fV 9) (fC (.int 2))) cK))))))
   (Y0 (fB (f2 L6 (cZ 2 [] aP (aE (fV 2) (aE (fV 7) cI))) (aZ (dH (fV 8) (dH (fV 10) cK)))))
   (cE (fC (.bl false)))
   a6))))
def AN:VS:=
   (cR (Z2 1 (xO (W5 cK)))
   (cR (Z2 2 (xV (cZ 3 [1] ZL (aE (fV 0) (aO 1 (aE (fC (.int 14)) cI))))))
   (cR (P8 (cZ 1 [] ZU (aE (fV 2) cI)) (M9 2 (b4 (gN 3) (b4 (gN 4) YA))))
   (cR (Z2 5 (xV (ZI [] 1 (T0 (f2 cT (fV 3) (fC (.int 2)))) (gN 0) (fB (f2 (YC false) (f2 cT (fV 0) (fC (.int 0))) (aZ (dH (fC (.str "load")) (dH (fC (.str "take")) (dH (fC (.str "store")) (dH (fC (.str "put")) cK))))))) (f2 cT (fV 0) (fC (.int 1))))))
   (cR (Y0 (fB (f2 oGt (f1 (A9 W8) (f2 Z9 (W5 (dH (fC (.int 0)) cK)) (fV 5))) (fC (.int 63))))
   (cE (N4 (f2 BC (cZ 1 [] bQ (aE (fV 2) cI)) (fC (.bl true))) (f2 BC (cZ 1 [] bQ (aE (fV 3) cI)) (fC (.bl false)))))
   a6)
   (cR (Y0 (fB (f2 F8 (cZ 1 [] bQ (aE (fV 3) cI)) (fC (.bl true))))
   (cE (fC (.bl false)))
   a6)
   (cR (R8 (IN (fC (.int 3))) (gN 6)
   T6)
   (cE (fC (.bl true))))))))))
def MP:b7:=aW 11 [] AN
end L2
namespace RR
open PySem L2
structure Txt(K:An)(mg:Str->Option Value):Prop where
 fnm: ∀x a,Iq K mainGlobals x=some (some (.ref a))->mg x=some (.ref a)
 n_len:mg "len"=none
 n_range:mg "range"=none
 n_min:mg "min"=none
 n_max:mg "max"=none
 W9:mg "list"=none
 n_tuple:mg "tuple"=none
 n_isinstance:mg "isinstance"=none
 n_bool:mg "bool"=none
 n_int:mg "int"=none
 n_str:mg "str"=none
 n_enumerate:mg "enumerate"=none
 n_zip:mg "zip"=none
 n_all:mg "all"=none
 v_DEEDS: ∃u v,mg "DEEDS"=some u/\b6 v u/\ ∀N H M,bP K N H M v FQ
 v_DEED_PARTS: ∃u v,mg "DEED_PARTS"=some u/\b6 v u/\ ∀N H M,bP K N H M v RJ
 v_LEAST_LANES: ∃u v,mg "LEAST_LANES"=some u/\b6 v u/\ ∀N H M,bP K N H M v XZ
 v_MADE: ∃u v,mg "MADE"=some u/\b6 v u/\ ∀N H M,bP K N H M v WL
 v_MOST_CELLS: ∃u v,mg "MOST_CELLS"=some u/\b6 v u/\ ∀N H M,bP K N H M v VT
 v_MOST_LANES: ∃u v,mg "MOST_LANES"=some u/\b6 v u/\ ∀N H M,bP K N H M v XM
 v_MOST_PLACE: ∃u v,mg "MOST_PLACE"=some u/\b6 v u/\ ∀N H M,bP K N H M v XN
 v_MOST_PROGRAM_ROWS: ∃u v,mg "MOST_PROGRAM_ROWS"=some u/\b6 v u/\ ∀N H M,bP K N H M v Z0
 v_MOST_SURE: ∃u v,mg "MOST_SURE"=some u/\b6 v u/\ ∀N H M,bP K N H M v WT
 v_MOST_WORD: ∃u v,mg "MOST_WORD"=some u/\b6 v u/\ ∀N H M,bP K N H M v bV
 v_OTHER_PARTS: ∃u v,mg "OTHER_PARTS"=some u/\b6 v u/\ ∀N H M,bP K N H M v TD
 v_READERS: ∃u v,mg "READERS"=some u/\b6 v u/\ ∀N H M,bP K N H M v YO
 v_WRITERS: ∃u v,mg "WRITERS"=some u/\b6 v u/\ ∀N H M,bP K N H M v bL
section
variable{P:Bn}{w:World}{K:An}{mg:Str->Option Value}{base:Heap}{f:Addr}{fd:Ee}
noncomputable abbrev Nx0:List Str:=["thing","low","high"]
abbrev DP:List Str:=["thing","low","high"]
theorem zGZ:cS Nx0 DP (c9 (top 7)):=aG
theorem zHZ(F:X4 K "is_whole" "is_whole" (top 7) f fd) (T:Txt K mg):
  bC P w K mg base CX0 1 f fd DP (spV K [] 3 cD):=
 W0 P w K mg base Nx0 DP 0 SO [] F zGZ fun _ _ _ _ _ _ hr hu hu1=>by
  refine(dG ?_ (dF ?_))
  ·exact(cA (S9 (XG (Z5 (O8 T.n_isinstance (vv 0) (DH T.n_bool zBL))) (X9 (ZG (Z5 (O8 T.n_isinstance (vv 0) (DH T.n_int zG9)))))))
   (dF (c7 YG))
   cU)
  ·exact(c7 (DA GB GB s_le s_le (vv 1) (vv 0) (vv 2)))
abbrev Nx1:List Str:=["a","b"]
abbrev Qx1:List Str:=["a","b"]
theorem zGY:cS Nx1 Qx1 (c9 (top 8)):=aG
theorem zHY(F:X4 K "plus" "plus" (top 8) f fd) (T:Txt K mg):
  bC P w K mg base CX0 1 f fd Qx1 (spV K [] 2 QK):=
 W0 P w K mg base Nx1 Qx1 0 HQ [] F zGY fun _ _ _ _ _ _ hr hu hu1=>by exact(dF (c7 (Y3 XA U5 (aY (YQ (K:=K) rfl) ZY (vv 0) (vv 1)) (aY (YQ (K:=K) rfl) ZY (bG (by rfl) T.v_MOST_WORD) dI))))
abbrev Nx2:List Str:=["a","b"]
abbrev Qx2:List Str:=["a","b"]
theorem zGX:cS Nx2 Qx2 (c9 (top 9)):=aG
theorem zHX(F:X4 K "minus" "minus" (top 9) f fd) (T:Txt K mg):
  bC P w K mg base CX0 1 f fd Qx2 (spV K [] 2 T3):=
 W0 P w K mg base Nx2 Qx2 0 LV [] F zGX fun _ _ _ _ _ _ hr hu hu1=>by exact(dF (c7 (Y3 XA U5 (Y3 Q0 NP (vv 0) (vv 1)) (aY (YQ (K:=K) rfl) ZY (bG (by rfl) T.v_MOST_WORD) dI))))
abbrev Nx3:List Str:=["a","b"]
abbrev Qx3:List Str:=["a","b"]
theorem zGW:cS Nx3 Qx3 (c9 (top 10)):=aG
theorem zHW(F:X4 K "times" "times" (top 10) f fd) (T:Txt K mg):
  bC P w K mg base CX0 1 f fd Qx3 (spV K [] 2 T4):=
 W0 P w K mg base Nx3 Qx3 0 LX [] F zGW fun _ _ _ _ _ _ hr hu hu1=>by exact(dF (c7 (Y3 XA U5 (aY (SU (K:=K) rfl) VU (vv 0) (vv 1)) (aY (YQ (K:=K) rfl) ZY (bG (by rfl) T.v_MOST_WORD) dI))))
abbrev Nx4:List Str:=["a","b"]
abbrev Qx4:List Str:=["a","b"]
theorem zGV:cS Nx4 Qx4 (c9 (top 11)):=aG
theorem zHV(F:X4 K "least" "least" (top 11) f fd) (T:Txt K mg):
  bC P w K mg base CX0 1 f fd Qx4 (spV K [] 2 T2):=
 W0 P w K mg base Nx4 Qx4 0 LU [] F zGV fun _ _ _ _ _ _ hr hu hu1=>by exact(dF (c7 (NU (QO rfl) CF (by rfl) T.n_min HB (vv 0) (vv 1))))
abbrev Nx5:List Str:=["a","b"]
abbrev Qx5:List Str:=["a","b"]
theorem zGU:cS Nx5 Qx5 (c9 (top 12)):=aG
theorem zHU(F:X4 K "most" "most" (top 12) f fd) (T:Txt K mg):
  bC P w K mg base CX0 1 f fd Qx5 (spV K [] 2 QI):=
 W0 P w K mg base Nx5 Qx5 0 HN [] F zGU fun _ _ _ _ _ _ hr hu hu1=>by exact(dF (c7 (NU (MY rfl) zBS (by rfl) T.n_max HA (vv 0) (vv 1))))
abbrev Nx6:List Str:=["a","b"]
abbrev Qx6:List Str:=["a","b"]
theorem zGT:cS Nx6 Qx6 (c9 (top 13)):=aG
theorem zHT(F:X4 K "less" "less" (top 13) f fd) (T:Txt K mg):
  bC P w K mg base CX0 1 f fd Qx6 (spV K [] 2 QH):=
 W0 P w K mg base Nx6 Qx6 0 HL [] F zGT fun _ _ _ _ _ _ hr hu hu1=>by exact(dF (c7 (XW (bS zC2 s_lt (vv 0) (vv 1) (aV _)) dI dI)))
abbrev Nx7:List Str:=["a","b"]
abbrev Qx7:List Str:=["a","b"]
theorem zGS:cS Nx7 Qx7 (c9 (top 14)):=aG
theorem zHS(F:X4 K "over" "over" (top 14) f fd) (T:Txt K mg):
  bC P w K mg base CX0 1 f fd Qx7 (spV K [] 2 US):=
 W0 P w K mg base Nx7 Qx7 0 LW [] F zGS fun _ _ _ _ _ _ hr hu hu1=>by exact(dF (c7 (XW (aA hu (vv 1) dI) bK (Y3 PQ MC (vv 0) (vv 1)))))
abbrev Nx8:List Str:=["c","a","b"]
abbrev Qx8:List Str:=["c","a","b"]
theorem zGR:cS Nx8 Qx8 (c9 (top 15)):=aG
theorem zHR(F:X4 K "pick" "pick" (top 15) f fd) (T:Txt K mg):
  bC P w K mg base CX0 1 f fd Qx8 (spV K [] 3 QJ):=
 W0 P w K mg base Nx8 Qx8 0 HP [] F zGR fun _ _ _ _ _ _ hr hu hu1=>by exact(dF (c7 (XW (bS (L1 (K:=K) rfl hu) MD (vv 0) dI (aV _)) (vv 1) (vv 2))))
noncomputable abbrev Nx9:List Str:=["deed","words","made"]
abbrev Qx9:List Str:=["deed","words"]
theorem zBR:cS Nx9 Qx9 (c9 (top 17)):=aG
theorem zHQ(F:X4 K "done" "done" (top 17) f fd) (T:Txt K mg) (iw:cM P w K mg base "plus" 1 Qx1 [] QK f_x1) (iu:cM P w K mg base "minus" 1 Qx2 [] T3 f_x2) (iq:cM P w K mg base "times" 1 Qx3 [] T4 f_x3) (ip:cM P w K mg base "least" 1 Qx4 [] T2 f_x4) (io:cM P w K mg base "most" 1 Qx5 [] QI f_x5) (im:cM P w K mg base "less" 1 Qx6 [] QH f_x6) (il:cM P w K mg base "over" 1 Qx7 [] US f_x7) (ik:cM P w K mg base "pick" 1 Qx8 [] QJ f_x8):
  bC P w K mg base CX0 2 f fd Qx9 (spV K [] 2 UR):=
 W0 P w K mg base Nx9 Qx9 1 LS [] F zBR fun _ _ _ _ _ _ hr hu hu1=>by
  refine(dG ?_ (dG ?_ (dF ?_)))
  ·exact(cA (aA hu (vv 0) c0)
   (dF (c7 (b8 ik hr (dE (dC (aM hu1 (vv 1) dI)) (dE (dC (aM hu1 (vv 1) dI)) (dE (dC (aM hu1 (vv 1) dI)) c8))))))
   cU)
  ·exact(a7 zBR.nd (aF (dC (aM hu1 (bG (by rfl) T.v_MADE) (vv 0)))))
  ·exact(c7 (C9 (XE (K:=K) rfl T.fnm hr iw (by decide) (XE (K:=K) rfl T.fnm hr iu (by decide) (XE (K:=K) rfl T.fnm hr iq (by decide) (XE (K:=K) rfl T.fnm hr ip (by decide) (XE (K:=K) rfl T.fnm hr io (by decide) (XE (K:=K) rfl T.fnm hr im (by decide) (XE (K:=K) rfl T.fnm hr il (by decide) zA8))))))) (pv 2) (dE (dC (aM hu1 (vv 1) dI)) (dE (dC (aM hu1 (vv 1) dI)) c8))))
abbrev Nx10:List Str:=["deed"]
abbrev DX:List Str:=["deed"]
theorem zDL:cS Nx10 DX (c9 (top 25)):=aG
theorem zFF(F:X4 K "parts_of" "parts_of" (top 25) f fd) (T:Txt K mg):
  bC P w K mg base CX0 1 f fd DX (spV K [] 1 aX):=
 W0 P w K mg base Nx10 DX 0 OH [] F zDL fun _ _ _ _ _ _ hr hu hu1=>by
  refine(dG ?_ (dF ?_))
  ·exact (cA (bS (P6 (K := K) rfl hu) (WV (neg := false)) (vv 0) (bG (by rfl) T.v_DEEDS) (by with_unfolding_all rfl))
   (dF (c7 (bG (by rfl) T.v_DEED_PARTS)))
   cU)
  ·exact(c7 (zA4 rfl hu1 (bG (by rfl) T.v_OTHER_PARTS) (vv 0) ⟨rfl,rfl,rfl,rfl⟩))
abbrev Nx11:List Str:=["row"]
abbrev Qx11:List Str:=["row"]
theorem zDK:cS Nx11 Qx11 (c9 (top 26)):=aG
theorem zFE(F:X4 K "makes_word" "makes_word" (top 26) f fd) (T:Txt K mg):
  bC P w K mg base CX0 1 f fd Qx11 (spV K [] 1 YD):=
 W0 P w K mg base Nx11 Qx11 0 RM [] F zDK fun _ _ _ _ _ _ hr hu hu1=>by exact(dF (c7 (Q4 (F0 (K:=K) rfl hu) (WV (neg:=true)) (aM hu1 (vv 0) dI) (bG (by rfl) T.v_WRITERS) (by with_unfolding_all rfl))))
abbrev Nx12:List Str:=["row"]
abbrev Qx12:List Str:=["row"]
theorem zDJ:cS Nx12 Qx12 (c9 (top 27)):=aG
theorem zFD(F:X4 K "place_of" "place_of" (top 27) f fd) (T:Txt K mg):
  bC P w K mg base CX0 1 f fd Qx12 (spV K [] 1 bU):=
 W0 P w K mg base Nx12 Qx12 0 ZF [] F zDJ fun _ _ _ _ _ _ hr hu hu1=>by exact(dF (c7 (XW (S9 (XG (bS (P6 (K:=K) rfl hu) (WV (neg:=false)) (aM hu1 (vv 0) dI) (bG (by rfl) T.v_READERS) (by with_unfolding_all rfl)) (X9 (bS (P6 (K:=K) rfl hu) (WV (neg:=false)) (aM hu1 (vv 0) dI) (bG (by rfl) T.v_WRITERS) (by with_unfolding_all rfl))))) (aM hu1 (vv 0) dI) bK)))
abbrev Nx13:List Str:=["row","deed","rest"]
abbrev DY:List Str:=["row"]
theorem CG:cS Nx13 DY (c9 (top 28)):=aG
theorem zFC(F:X4 K "names_of" "names_of" (top 28) f fd) (T:Txt K mg) (cg:cM P w K mg base "parts_of" 1 DX [] aX f_x10):
  bC P w K mg base CX0 2 f fd DY (spV K [] 1 aI):=
 W0 P w K mg base Nx13 DY 1 OG [] F CG fun _ _ _ _ _ _ hr hu hu1=>by
  refine(dG ?_ (dF ?_))
  ·exact(GX (i:=1) (j:=2) rfl rfl CG.nd rfl rfl (by decide) (Ht rfl) (Ht rfl) (vv 0))
  ·exact(c7 (bH (aJ ["part","given"] [] 2 (DD rfl (by rfl) T.n_zip (dC (b8 cg hr (dE (vv 1) c8))) (vv 2)) (fun hn _ _ _ _=>⟨(X8 (K:=K) rfl rfl (cC (cW hn) (cC (cW hn) Y8))),(C6 (aA hu (vv 0) c0)),(vv 1)⟩))))
abbrev Nx14:List Str:=["thing","able"]
abbrev IU:List Str:=["thing","able"]
theorem zDI:cS Nx14 IU (c9 (top 29)):=aG
theorem zFB(F:X4 K "may_name" "may_name" (top 29) f fd) (T:Txt K mg) (aq:cM P w K mg base "is_whole" 1 DP [] cD f_x0):
  bC P w K mg base CX0 2 f fd IU (spV K [] 2 bA):=
 W0 P w K mg base Nx14 IU 1 SS [] F zDI fun _ _ _ _ _ _ hr hu hu1=>by exact(dF (c7 (S8 (b8 aq hr (dE (vv 0) (dE dI (dE (dC (Y3 Q0 NP (XX T.n_len (vv 1)) dI)) c8)))) (Q5 (aM hu1 (vv 1) (vv 0))))))
abbrev Nx15:List Str:=["part","thing","able"]
abbrev Qx15:List Str:=["part","thing","able"]
theorem zDH:cS Nx15 Qx15 (c9 (top 30)):=aG
theorem zFA(F:X4 K "fits" "fits" (top 30) f fd) (T:Txt K mg) (aq:cM P w K mg base "is_whole" 1 DP [] cD f_x0) (au:cM P w K mg base "may_name" 2 IU [] bA f_x14):
  bC P w K mg base CX0 3 f fd Qx15 (spV K [] 3 X2):=
 W0 P w K mg base Nx15 Qx15 2 QQ [] F zDH fun _ _ _ _ _ _ hr hu hu1=>by
  refine(dG ?_ (dG ?_ (dF ?_)))
  ·exact(cA (aA hu (vv 0) c0)
   (dF (c7 (b8 aq hr (dE (vv 1) (dE dI (dE (dC (bG (by rfl) T.v_MOST_WORD)) c8))))))
   cU)
  ·exact(cA (aA hu (vv 0) c0)
   (dF (c7 (b8 aq hr (dE (vv 1) (dE dI (dE (dC (bG (by rfl) T.v_MOST_PLACE)) c8))))))
   cU)
  ·exact(c7 (b8 au hr (dE (vv 1) (dE (vv 2) c8))))
noncomputable abbrev Nx16:List Str:=["thing","able","deed","rest","parts"]
abbrev DZ:List Str:=["thing","able"]
theorem IE:cS Nx16 DZ (c9 (top 31)):=aG
theorem zF9(F:X4 K "is_row" "is_row" (top 31) f fd) (T:Txt K mg) (cg:cM P w K mg base "parts_of" 1 DX [] aX f_x10) (gf:cM P w K mg base "fits" 3 Qx15 [] X2 f_x15):
  bC P w K mg base CX0 4 f fd DZ (spV K [] 2 Z7):=
 W0 P w K mg base Nx16 DZ 3 RL [] F IE fun _ _ _ _ _ _ hr hu hu1=>by
  refine(dG ?_ (dG ?_ (dG ?_ (dG ?_ (dF ?_)))))
  ·exact(cA (S9 (XG (ZG (Z5 (O8 T.n_isinstance (vv 0) (DH T.n_tuple ZD)))) (X9 (aA hu (XX T.n_len (vv 0)) dI))))
   (dF (c7 YG))
   cU)
  ·exact(GX (i:=2) (j:=3) rfl rfl IE.nd rfl rfl (by decide) (Ht rfl) (Ht rfl) (vv 0))
  ·exact(a7 IE.nd (aF (dC (XW (Z5 (O8 T.n_isinstance (vv 2) (DH T.n_str HC))) (b8 cg hr (dE (vv 2) c8)) bK))))
  ·exact(cA (S9 (XG (bS HZ CD (vv 4) bK (aV _)) (X9 (bS (L1 (K:=K) rfl hu) MD (XX T.n_len (vv 4)) (XX T.n_len (vv 3)) (aV _)))))
   (dF (c7 YG))
   cU)
  ·exact(c7 (O7 (AW (K:=K) rfl rfl) KW (by rfl) T.n_all OB (bH (aJ ["able","part","given"] [1] 2 (DD rfl (by rfl) T.n_zip (vv 4) (vv 3)) (fun hn _ _ _ _=>⟨(X8 (K:=K) rfl rfl (cC (cW hn) (cC (cW hn) Y8))),YW,(dC (b8 gf hr (dE (vv 1) (dE (vv 2) (dE (vv 0) c8)))))⟩)))))
abbrev Nx17:List Str:=["thing"]
abbrev Qx17:List Str:=["thing"]
theorem zDG:cS Nx17 Qx17 (c9 (top 35)):=aG
theorem zF8(F:X4 K "is_lanes" "is_lanes" (top 35) f fd) (T:Txt K mg) (aq:cM P w K mg base "is_whole" 1 DP [] cD f_x0):
  bC P w K mg base CX0 2 f fd Qx17 (spV K [] 1 ZB):=
 W0 P w K mg base Nx17 Qx17 1 VY [] F zDG fun _ _ _ _ _ _ hr hu hu1=>by exact(dF (c7 (b8 aq hr (dE (vv 0) (dE (dC (bG (by rfl) T.v_LEAST_LANES)) (dE (dC (bG (by rfl) T.v_MOST_LANES)) c8))))))
abbrev Nx18:List Str:=["thing","sure"]
abbrev Qx18:List Str:=["thing","sure"]
theorem zDF:cS Nx18 Qx18 (c9 (top 38)):=aG
theorem zF7(F:X4 K "is_cells" "is_cells" (top 38) f fd) (T:Txt K mg) (aq:cM P w K mg base "is_whole" 1 DP [] cD f_x0):
  bC P w K mg base CX0 2 f fd Qx18 (spV K [] 2 X3):=
 W0 P w K mg base Nx18 Qx18 1 SN [] F zDF fun _ _ _ _ _ _ hr hu hu1=>by
  refine(dG ?_ (dF ?_))
  ·exact (cA (S9 (XG (ZG (Z5 (O8 T.n_isinstance (vv 0) (DH T.W9 T8)))) (X9 (ZG (DG GB GB s_le s_le (vv 1) (XX T.n_len (vv 0)) (bG (by rfl) T.v_MOST_CELLS))))))
   (dF (c7 YG))
   cU)
  ·exact(c7 (O7 (AW (K:=K) rfl rfl) KW (by rfl) T.n_all OB (bH (aJ ["word"] [] 1 (XU rfl (vv 0)) (fun hn _ _ _ _=>⟨(cW hn),YW,(dC (b8 aq hr (dE (vv 0) (dE dI (dE (dC (bG (by rfl) T.v_MOST_WORD)) c8)))))⟩)))))
abbrev Nx19:List Str:=["deed","words"]
abbrev Qx19:List Str:=["deed","words"]
theorem zDE:cS Nx19 Qx19 (c9 (top 39)):=aG
theorem zF6(F:X4 K "touches" "touches" (top 39) f fd) (T:Txt K mg):
  bC P w K mg base CX0 1 f fd Qx19 (spV K [] 2 ZM):=
 W0 P w K mg base Nx19 Qx19 0 UE [] F zDE fun _ _ _ _ _ _ hr hu hu1=>by
  refine(dG ?_ (dG ?_ (dF ?_)))
  ·exact(cA (aA hu (vv 0) c0)
   (dF (c7 (Q4 (L1 (K:=K) rfl hu) MD (aM hu1 (vv 1) dI) dI (aV _))))
   cU)
  ·exact(cA (aA hu (vv 0) c0)
   (dF (c7 (Q4 (L1 (K:=K) rfl hu) MD (aM hu1 (vv 1) dI) dI (aV _))))
   cU)
  ·exact(c7 YG)
noncomputable abbrev Nx20:List Str:=["deed","place","words","cells"]
abbrev Qx20:List Str:=["deed","place","words","cells"]
theorem zDD:cS Nx20 Qx20 (c9 (top 40)):=aG
theorem zF5(F:X4 K "do_on_cell" "do_on_cell" (top 40) f fd) (T:Txt K mg) (gb:cM P w K mg base "touches" 1 Qx19 [] ZM f_x19):
  bC P w K mg base CX0 2 f fd Qx20 (spV K [3] 4 cQ):=
 W0 P w K mg base Nx20 Qx20 1 cN [3] F zDD fun _ _ _ _ _ _ hr hu hu1=>by
  refine(dG ?_ (dG ?_ (dG ?_ (dF ?_))))
  ·exact(cA (ZG (Z5 (b8 gb hr (dE (vv 0) (dE (vv 2) c8)))))
   (dF (c7 (cB (dJ (XW (aA hu (vv 0) c0) (aM hu1 (vv 2) dI) bK) (dJ bK c6)))))
   cU)
  ·exact(cA (bS zHP s_ge (vv 1) (XX T.n_len (vo 3)) (aV _))
   (dF (c7 (cB (dJ bK (dJ c0 c6)))))
   cU)
  ·exact (cA (bS (P6 (K := K) rfl hu) (WV (neg := false)) (vv 0) (bG (by rfl) T.v_WRITERS) (by with_unfolding_all rfl))
   (dG (zCM rfl (pv 3) (vv 1) (dC (aM hu1 (vv 2) dI)))
   (dF (c7 (cB (dJ bK (dJ bK c6))))))
   cU)
  ·exact(c7 (cB (dJ (aM hu1 (vo 3) (vv 1)) (dJ bK c6))))
noncomputable abbrev Nx21:List Str:=["row","words","cells","shift","deed","place","word"]
abbrev NY:List Str:=["row","words","cells","shift"]
theorem MF:cS Nx21 NY (c9 (top 41)):=aG
theorem BE{Td:Addr}(F:G2 K "do_row" "do_row" (top 41) (.ref Td) f fd) (T:Txt K mg) (gn:cM P w K mg base "done" 2 Qx9 [] UR f_x9) (dh:cM P w K mg base "place_of" 1 Qx12 [] bU f_x12) (dg:cM P w K mg base "do_on_cell" 2 Qx20 [3] cQ f_x20):
  bC P w K mg base CX0 3 f fd NY (spV K [2] 4 a9):=
 G2.okV (P:=P) (w:=w) (mg:=mg) (base:=base) (K:=K) (N:=Nx21) (ps:=NY) (k:=2) (g:=UX) (ml:=[2]) F MF (by decide) fun cdv A outer s H E hr=>by
  have hu:=hr.units;have hu1:=zCE hr;refine(dG ?_ (dG ?_ (dG ?_ (dG ?_ (dG ?_ (dF ?_))))))
  ·exact(a7 MF.nd (aF (dC (aM hu1 (vv 0) dI))))
  ·exact(cA (aA hu (vv 4) c0)
   (dF (c7 (cB (dJ (aM hu1 (vv 0) dI) (dJ bK c6)))))
   cU)
  ·exact(a7 MF.nd (aF (dC (b8 dh hr (dE (vv 0) c8)))))
  ·exact(cA (bS PU ME (vv 5) bK (aV _))
   (dF (c7 (b8 dg hr (dE (vv 4) (dE (dC (aY (YQ (K:=K) rfl) ZY (vv 5) (vv 3))) (dE (vv 1) (bY (pv 2) c8)))))))
   cU)
  ·exact(a7 MF.nd (aF (dC (b8 gn hr (dE (vv 4) (dE (vv 1) c8))))))
  ·exact(c7 (cB (dJ (vv 6) (dJ (XW (bS HZ CD (vv 6) bK (aV _)) c0 bK) c6))))
abbrev Nx22:List Str:=["thing","lanes"]
abbrev G5:List Str:=["thing","lanes"]
theorem zDC:cS Nx22 G5 (c9 (top 44)):=aG
theorem zF4(F:X4 K "is_for_lanes" "is_for_lanes" (top 44) f fd) (T:Txt K mg):
  bC P w K mg base CX0 1 f fd G5 (spV K [] 2 bI):=
 W0 P w K mg base Nx22 G5 0 W6 [] F zDC fun _ _ _ _ _ _ hr hu hu1=>by exact(dF (c7 (S8 (O8 T.n_isinstance (vv 0) (DH T.n_tuple ZD)) (Q5 (veq hu (XX T.n_len (vv 0)) (vv 1))))))
abbrev Nx23:List Str:=["rest","lanes","packs"]
abbrev Qx23:List Str:=["rest","lanes","packs"]
theorem zDB:cS Nx23 Qx23 (c9 (top 45)):=aG
theorem zF3(F:X4 K "is_wide" "is_wide" (top 45) f fd) (T:Txt K mg) (aq:cM P w K mg base "is_whole" 1 DP [] cD f_x0) (cb:cM P w K mg base "is_row" 4 DZ [] Z7 f_x16) (bn:cM P w K mg base "is_for_lanes" 1 G5 [] bI f_x22):
  bC P w K mg base CX0 5 f fd Qx23 (spV K [] 3 YL):=
 W0 P w K mg base Nx23 Qx23 4 UD [] F zDB fun _ _ _ _ _ _ hr hu hu1=>by
  refine(dG ?_ (dF ?_))
  ·exact(cA (S9 (IM (aA hu (XX T.n_len (vv 0)) dI) (IM (Z5 (O8 T.n_isinstance (aM hu1 (vv 0) dI) (DH T.n_str HC))) (GZ (aA hu (aM hu1 (vv 0) dI) c0)))))
   (dF (c7 (S8 (b8 bn hr (dE (dC (aM hu1 (vv 0) dI)) (dE (vv 1) c8))) (Q5 (O7 (AW (K:=K) rfl rfl) KW (by rfl) T.n_all OB (bH (aJ ["word"] [] 1 (XU rfl (dC (aM hu1 (vv 0) dI))) (fun hn _ _ _ _=>⟨(cW hn),YW,(dC (b8 aq hr (dE (vv 0) (dE dI (dE (dC (bG (by rfl) T.v_MOST_WORD)) c8)))))⟩))))))))
   cU)
  ·exact(c7 (b8 cb hr (dE (vv 0) (dE (vv 2) c8))))
abbrev Nx24:List Str:=["rest","lanes","words"]
abbrev Qx24:List Str:=["rest","lanes","words"]
theorem zDA:cS Nx24 Qx24 (c9 (top 46)):=aG
theorem zF2(F:X4 K "is_gather" "is_gather" (top 46) f fd) (T:Txt K mg) (au:cM P w K mg base "may_name" 2 IU [] bA f_x14) (bn:cM P w K mg base "is_for_lanes" 1 G5 [] bI f_x22):
  bC P w K mg base CX0 3 f fd Qx24 (spV K [] 3 YK):=
 W0 P w K mg base Nx24 Qx24 2 UY [] F zDA fun _ _ _ _ _ _ hr hu hu1=>by
  refine(dG ?_ (dF ?_))
  ·exact(cA (S9 (XG (bS (L1 (K:=K) rfl hu) MD (XX T.n_len (vv 0)) dI (aV _)) (X9 (ZG (Z5 (b8 bn hr (dE (dC (aM hu1 (vv 0) dI)) (dE (vv 1) c8))))))))
   (dF (c7 YG))
   cU)
  ·exact(c7 (O7 (AW (K:=K) rfl rfl) KW (by rfl) T.n_all OB (bH (aJ ["words","row"] [2] 1 (XU rfl (dC (aM hu1 (vv 0) dI))) (fun hn _ _ _ _=>⟨(cW hn),YW,(dC (b8 au hr (dE (vv 1) (dE (vv 0) c8))))⟩)))))
abbrev Nx25:List Str:=["rest","lanes","packs"]
abbrev Qx25:List Str:=["rest","lanes","packs"]
theorem zD9:cS Nx25 Qx25 (c9 (top 47)):=aG
theorem zF1(F:X4 K "is_shuffle" "is_shuffle" (top 47) f fd) (T:Txt K mg) (aq:cM P w K mg base "is_whole" 1 DP [] cD f_x0) (au:cM P w K mg base "may_name" 2 IU [] bA f_x14) (bn:cM P w K mg base "is_for_lanes" 1 G5 [] bI f_x22):
  bC P w K mg base CX0 3 f fd Qx25 (spV K [] 3 Y5):=
 W0 P w K mg base Nx25 Qx25 2 VZ [] F zD9 fun _ _ _ _ _ _ hr hu hu1=>by
  refine(dG ?_ (dF ?_))
  ·exact(cA (S9 (XG (bS (L1 (K:=K) rfl hu) MD (XX T.n_len (vv 0)) dI (aV _)) (XG (ZG (Z5 (b8 au hr (dE (dC (aM hu1 (vv 0) dI)) (dE (vv 2) c8))))) (X9 (ZG (Z5 (b8 au hr (dE (dC (aM hu1 (vv 0) dI)) (dE (vv 2) c8)))))))))
   (dF (c7 YG))
   cU)
  ·exact(c7 (S8 (b8 bn hr (dE (dC (aM hu1 (vv 0) dI)) (dE (vv 1) c8))) (Q5 (O7 (AW (K:=K) rfl rfl) KW (by rfl) T.n_all OB (bH (aJ ["lanes","at"] [1] 1 (XU rfl (dC (aM hu1 (vv 0) dI))) (fun hn _ _ _ _=>⟨(cW hn),YW,(dC (b8 aq hr (dE (vv 1) (dE dI (dE (dC (Y3 Q0 NP (aY (SU (K:=K) rfl) VU dI (vv 0)) dI)) c8)))))⟩)))))))
abbrev Nx26:List Str:=["rest","lanes","packs"]
abbrev Qx26:List Str:=["rest","lanes","packs"]
theorem zD8:cS Nx26 Qx26 (c9 (top 48)):=aG
theorem zF0(F:X4 K "is_lane" "is_lane" (top 48) f fd) (T:Txt K mg) (aq:cM P w K mg base "is_whole" 1 DP [] cD f_x0) (au:cM P w K mg base "may_name" 2 IU [] bA f_x14):
  bC P w K mg base CX0 3 f fd Qx26 (spV K [] 3 XH):=
 W0 P w K mg base Nx26 Qx26 2 QR [] F zD8 fun _ _ _ _ _ _ hr hu hu1=>by exact(dF (c7 (S8 (veq hu (XX T.n_len (vv 0)) dI) (S8 (b8 au hr (dE (dC (aM hu1 (vv 0) dI)) (dE (vv 2) c8))) (Q5 (b8 aq hr (dE (dC (aM hu1 (vv 0) dI)) (dE dI (dE (dC (Y3 Q0 NP (vv 1) dI)) c8)))))))))
abbrev Nx27:List Str:=["thing","lanes","words","packs","deed","rest"]
abbrev Qx27:List Str:=["thing","lanes","words","packs"]
theorem CH:cS Nx27 Qx27 (c9 (top 49)):=aG
theorem zEZ(F:X4 K "is_program_row" "is_program_row" (top 49) f fd) (T:Txt K mg) (cb:cM P w K mg base "is_row" 4 DZ [] Z7 f_x16) (ga:cM P w K mg base "is_wide" 5 Qx23 [] YL f_x23) (g9:cM P w K mg base "is_gather" 3 Qx24 [] YK f_x24) (g8:cM P w K mg base "is_shuffle" 3 Qx25 [] Y5 f_x25) (fw:cM P w K mg base "is_lane" 3 Qx26 [] XH f_x26):
  bC P w K mg base CX0 6 f fd Qx27 (spV K [] 4 bD):=
 W0 P w K mg base Nx27 Qx27 5 Y6 [] F CH fun _ _ _ _ _ _ hr hu hu1=>by
  refine(dG ?_ (dG ?_ (dG ?_ (dG ?_ (dG ?_ (dG ?_ (dF ?_)))))))
  ·exact(cA (S9 (XG (ZG (Z5 (O8 T.n_isinstance (vv 0) (DH T.n_tuple ZD)))) (XG (aA hu (XX T.n_len (vv 0)) dI) (X9 (ZG (Z5 (O8 T.n_isinstance (aM hu1 (vv 0) dI) (DH T.n_str HC))))))))
   (dF (c7 YG))
   cU)
  ·exact(MM (i:=4) (j:=5) rfl CH.nd rfl rfl (by decide) rfl rfl (aF (dC (aM hu1 (vv 0) dI))) (aF (dC (TR rfl (vv 0) (TW dI) TU))) rfl)
  ·exact(cA (aA hu (vv 4) c0)
   (dF (c7 (b8 ga hr (dE (vv 5) (dE (vv 1) (dE (vv 3) c8))))))
   cU)
  ·exact(cA (aA hu (vv 4) c0)
   (dF (c7 (b8 g9 hr (dE (vv 5) (dE (vv 1) (dE (vv 2) c8))))))
   cU)
  ·exact(cA (aA hu (vv 4) c0)
   (dF (c7 (b8 g8 hr (dE (vv 5) (dE (vv 1) (dE (vv 3) c8))))))
   cU)
  ·exact(cA (aA hu (vv 4) c0)
   (dF (c7 (b8 fw hr (dE (vv 5) (dE (vv 1) (dE (vv 3) c8))))))
   cU)
  ·exact(c7 (b8 cb hr (dE (vv 0) (dE (vv 2) c8))))
abbrev Nx28:List Str:=["row"]
abbrev Qx28:List Str:=["row"]
theorem zD7:cS Nx28 Qx28 (c9 (top 50)):=aG
theorem zEY(F:X4 K "kind_made" "kind_made" (top 50) f fd) (T:Txt K mg) (di:cM P w K mg base "makes_word" 1 Qx11 [] YD f_x11):
  bC P w K mg base CX0 2 f fd Qx28 (spV K [] 1 XV):=
 W0 P w K mg base Nx28 Qx28 1 QA [] F zD7 fun _ _ _ _ _ _ hr hu hu1=>by
  refine(dG ?_ (dG ?_ (dF ?_)))
  ·exact(cA (aA hu (aM hu1 (vv 0) dI) c0)
   (dF (c7 (XW (Z5 (b8 di hr (dE (dC (TR rfl (vv 0) (TW dI) TU)) c8))) c0 bK)))
   cU)
  ·exact (cA (bS (P6 (K := K) rfl hu) (WV (neg := false)) (aM hu1 (vv 0) dI) (cB (dJ c0 (dJ c0 c6))) (by with_unfolding_all rfl))
   (dF (c7 c0))
   cU)
  ·exact(c7 (XW (Z5 (b8 di hr (dE (vv 0) c8))) c0 bK))
noncomputable abbrev Nx29:List Str:=["rows","lanes","words","packs","row","kind"]
abbrev Qx29:List Str:=["rows","lanes"]
theorem MG:cS Nx29 Qx29 (c9 (top 51)):=aG
theorem zEX(F:X4 K "are_program_rows" "are_program_rows" (top 51) f fd) (T:Txt K mg) (fu:cM P w K mg base "is_program_row" 6 Qx27 [] bD f_x27) (fo:cM P w K mg base "kind_made" 2 Qx28 [] XV f_x28):
  bC P w K mg base CX0 7 f fd Qx29 (spV K [] 2 bT):=
 W0 P w K mg base Nx29 Qx29 6 ZQ [] F MG fun _ _ _ _ _ _ hr hu hu1=>by
  refine(dG ?_ (dG ?_ (dF ?_)))
  ·exact(MM (i:=2) (j:=3) rfl MG.nd rfl rfl (by decide) rfl rfl (VO (Z4 (b9 c6))) (VO (Z4 (b9 c6))) rfl)
  ·exact(XF Cu rfl (XU rfl (vv 0)) (cW MG.nd)
   (dG (cA (ZG (Z5 (b8 fu hr (dE (vv 4) (dE (vv 1) (bY (pv 2) (bY (pv 3) c8)))))))
   (dF (c7 YG))
   cU)
   (dG (a7 MG.nd (aF (dC (b8 fo hr (dE (vv 4) c8)))))
   (dG (YX (K:=K) rfl Ba Bb a8 YU (pv 2) (b9 (dJ (veq hu (vv 5) c0) c6)))
   (dF (YX (K:=K) rfl Ba Bb a8 YU (pv 3) (b9 (dJ (veq hu (vv 5) c0) c6))))))))
  ·exact(c7 YG)
abbrev Nx30:List Str:=["thing","lanes","sure","rows"]
abbrev D0:List Str:=["thing"]
theorem MH:cS Nx30 D0 (c9 (top 52)):=aG
theorem zEW(F:X4 K "is_program" "is_program" (top 52) f fd) (T:Txt K mg) (aq:cM P w K mg base "is_whole" 1 DP [] cD f_x0) (gd:cM P w K mg base "is_lanes" 2 Qx17 [] ZB f_x17) (fm:cM P w K mg base "are_program_rows" 7 Qx29 [] bT f_x29):
  bC P w K mg base CX0 8 f fd D0 (spV K [] 1 bQ):=
 W0 P w K mg base Nx30 D0 7 XO [] F MH fun _ _ _ _ _ _ hr hu hu1=>by
  refine(dG ?_ (dG ?_ (dG ?_ (dG ?_ (dF ?_)))))
  ·exact(cA (S9 (XG (ZG (Z5 (O8 T.n_isinstance (vv 0) (DH T.n_tuple ZD)))) (X9 (bS (L1 (K:=K) rfl hu) MD (XX T.n_len (vv 0)) dI (aV _)))))
   (dF (c7 YG))
   cU)
  ·exact(V8 (vv 0) (X8 (K:=K) rfl rfl (cC (cW MH.nd) (cC (cW MH.nd) (cC (cW MH.nd) Y8)))))
  ·exact (cA (S9 (XG (ZG (Z5 (b8 gd hr (dE (vv 1) c8)))) (X9 (ZG (Z5 (b8 aq hr (dE (vv 2) (dE dI (dE (dC (bG (by rfl) T.v_MOST_SURE)) c8)))))))))
   (dF (c7 YG))
   cU)
  ·exact (cA (S9 (XG (ZG (Z5 (O8 T.n_isinstance (vv 3) (DH T.n_tuple ZD)))) (X9 (bS zC3 s_gt (XX T.n_len (vv 3)) (bG (by rfl) T.v_MOST_PROGRAM_ROWS) (aV _)))))
   (dF (c7 YG))
   cU)
  ·exact(c7 (b8 fm hr (dE (vv 3) (dE (vv 1) c8))))
noncomputable abbrev Nx31:List Str:=["row","lanes","made","cells","pack","lane","words","word","why"]
abbrev Qx31:List Str:=["row","lanes","made","cells"]
theorem Q2:cS Nx31 Qx31 (c9 (top 53)):=aG
theorem zEV(F:X4 K "do_wide" "do_wide" (top 53) f fd) (T:Txt K mg) (cf:cM P w K mg base "names_of" 2 DY [] aI f_x13) (cy:cM P w K mg base "do_row" 3 NY [2] a9 f_x21):
  bC P w K mg base CX0 4 f fd Qx31 (spV K [2,3] 4 Y4):=
 W0 P w K mg base Nx31 Qx31 3 UC [2,3] F Q2 fun _ _ _ _ _ _ hr hu hu1=>by
  refine(dG ?_ (dG ?_ (dG ?_ (dF ?_))))
  ·exact(cA (aA hu (aM hu1 (vv 0) dI) c0)
   (dF (c7 (cB (dJ (bH (GV (L0 (K:=K) rfl) W9 (by rfl) T.W9 T8 (DC (aM hu1 (vv 0) dI)))) (dJ bK (dJ bK c6))))))
   cU)
  ·exact(a7 Q2.nd (VO (Z4 (b9 c6))))
  ·exact (XF Cu rfl (aB (by rfl) T.n_range (vv 1)) (cW Q2.nd)
   (dG (K5 false Q2.nd ["made","lane","name"] [2,5] 1 (XU rfl (dC (b8 cf hr (dE (vv 0) c8)))) (fun hn _ _ _ _=>⟨(cW hn),YW,(dC (aM hu1 (aM hu1 (vo 0) (vv 2)) (vv 1)))⟩))
   (dG (V8 (dC (b8 cy hr (dE (vv 0) (dE (vv 6) (bY (pv 3) (dE (vv 5) c8)))))) (X8 (K:=K) rfl rfl (cC (cW Q2.nd) (cC (cW Q2.nd) Y8))))
   (dG (cA (bS PU ME (vv 8) bK (aV _))
   (dF (c7 (cB (U8 (pv 4) (dJ (vv 5) (dJ (vv 8) c6))))))
   cU)
   (dF (YX (K:=K) rfl Ba Bb a8 YU (pv 4) (b9 (dJ (vv 7) c6))))))))
  ·exact(c7 (cB (U8 (pv 4) (dJ bK (dJ bK c6)))))
abbrev Nx32:List Str:=["row","made","both"]
abbrev Qx32:List Str:=["row","made"]
theorem CI:cS Nx32 Qx32 (c9 (top 54)):=aG
theorem zEU(F:X4 K "moved" "moved" (top 54) f fd) (T:Txt K mg):
  bC P w K mg base CX0 1 f fd Qx32 (spV K [1] 2 XY):=
 W0 P w K mg base Nx32 Qx32 0 RN [1] F CI fun _ _ _ _ _ _ hr hu hu1=>by
  refine(dG ?_ (dG ?_ (dG ?_ (dF ?_))))
  ·exact(cA (aA hu (aM hu1 (vv 0) dI) c0)
   (dF (c7 (bH (aJ ["made","name"] [1] 1 (XU rfl (dC (aM hu1 (vv 0) dI))) (fun hn _ _ _ _=>⟨(cW hn),YW,(dC (aM hu1 (vo 0) (vv 1)))⟩)))))
   cU)
  ·exact(cA (aA hu (aM hu1 (vv 0) dI) c0)
   (dF (c7 (aM hu1 (aM hu1 (vo 1) (aM hu1 (vv 0) dI)) (aM hu1 (vv 0) dI))))
   cU)
  ·exact(a7 CI.nd (aF (dC (aY (YQ (K:=K) rfl) ZY (aM hu1 (vo 1) (aM hu1 (vv 0) dI)) (aM hu1 (vo 1) (aM hu1 (vv 0) dI))))))
  ·exact(c7 (bH (aJ ["both","at"] [2] 1 (XU rfl (dC (aM hu1 (vv 0) dI))) (fun hn _ _ _ _=>⟨(cW hn),YW,(dC (aM hu1 (vv 0) (vv 1)))⟩))))
abbrev Nx33:List Str:=["row","lanes","made","cells","word","why"]
abbrev Qx33:List Str:=["row","lanes","made","cells"]
theorem IF:cS Nx33 Qx33 (c9 (top 55)):=aG
theorem zET(F:X4 K "do_program_row" "do_program_row" (top 55) f fd) (T:Txt K mg) (cf:cM P w K mg base "names_of" 2 DY [] aI f_x13) (cy:cM P w K mg base "do_row" 3 NY [2] a9 f_x21) (fj:cM P w K mg base "do_wide" 4 Qx31 [2,3] Y4 f_x31) (fg:cM P w K mg base "moved" 1 Qx32 [1] XY f_x32) (d8:DefD P w K mg base "do_row" 3 NY (spV K [2] 4 a9) f_x21 (.int 0)):
  bC P w K mg base CX0 5 f fd Qx33 (spV K [2,3] 4 cY):=
 W0 P w K mg base Nx33 Qx33 4 bE [2,3] F IF fun _ _ _ _ _ _ hr hu hu1=>by
  refine(dG ?_ (dG ?_ (dG ?_ (dF ?_))))
  ·exact(cA (aA hu (aM hu1 (vv 0) dI) c0)
   (dF (c7 (b8 fj hr (dE (dC (TR rfl (vv 0) (TW dI) TU)) (dE (vv 1) (bY (pv 2) (bY (pv 3) c8)))))))
   cU)
  ·exact (cA (bS (P6 (K := K) rfl hu) (WV (neg := false)) (aM hu1 (vv 0) dI) (cB (dJ c0 (dJ c0 (dJ c0 c6)))) (by with_unfolding_all rfl))
   (dF (c7 (cB (dJ (b8 fg hr (dE (vv 0) (bY (pv 2) c8))) (dJ bK (dJ bK c6))))))
   cU)
  ·exact(V8 (dC (C7 (K:=K) (v:=(.int 0)) (d:=(.int 0)) rfl d8 (fun _ _ _=>(.int _)) (fun _=>nofun) hr (by decide) (by rfl) (dE (vv 0) (dE (bH (aJ ["made","name"] [2] 1 (XU rfl (dC (b8 cf hr (dE (vv 0) c8)))) (fun hn _ _ _ _=>⟨(cW hn),YW,(dC (aM hu1 (vo 0) (vv 1)))⟩))) (bY (pv 3) c8))))) (X8 (K:=K) rfl rfl (cC (cW IF.nd) (cC (cW IF.nd) Y8))))
  ·exact(c7 (cB (dJ (vv 4) (dJ bK (dJ (vv 5) c6)))))
noncomputable abbrev Nx34:List Str:=["program","cells","lanes","sure","rows","then","made","at","row","told","lane","why"]
abbrev Qx34:List Str:=["program","cells"]
theorem XC:cS Nx34 Qx34 (c9 (top 56)):=aG
theorem zES(F:X4 K "run_program" "run_program" (top 56) f fd) (T:Txt K mg) (gc:cM P w K mg base "is_cells" 2 Qx18 [] X3 f_x18) (bq:cM P w K mg base "is_program" 8 D0 [] bQ f_x30) (f9:cM P w K mg base "do_program_row" 5 Qx33 [2,3] cY f_x33):
  bC P w K mg base CX0 9 f fd Qx34 (spV K [] 2 aP):=
 W0 P w K mg base Nx34 Qx34 8 WO [] F XC fun _ _ _ _ _ _ hr hu hu1=>by
  refine(dG ?_ (dG ?_ (dG ?_ (dG ?_ (dG ?_ (dG ?_ (dF ?_)))))))
  ·exact(cA (ZG (Z5 (b8 bq hr (dE (vv 0) c8))))
   (dF K4)
   cU)
  ·exact(V8 (vv 0) (X8 (K:=K) rfl rfl (cC (cW XC.nd) (cC (cW XC.nd) (cC (cW XC.nd) Y8)))))
  ·exact(cA (ZG (Z5 (b8 gc hr (dE (vv 1) (dE (vv 3) c8)))))
   (dF K4)
   cU)
  ·exact(a7 XC.nd (VO (GV (L0 (K:=K) rfl) W9 (by rfl) T.W9 T8 (vv 1))))
  ·exact(a7 XC.nd (VO (Z4 (b9 c6))))
  ·exact (XF Cu rfl (GU rfl (by rfl) T.n_enumerate (vv 4)) (X8 (K := K) rfl rfl (cC (cW XC.nd) (cC (cW XC.nd) Y8)))
   (dG (V8 (dC (b8 f9 hr (dE (vv 8) (dE (vv 2) (bY (pv 6) (bY (pv 5) c8)))))) (X8 (K:=K) rfl rfl (cC (cW XC.nd) (cC (cW XC.nd) (cC (cW XC.nd) Y8)))))
   (dG (cA (bS PU ME (vv 11) bK (aV _))
   (dF (c7 (cB (U8 (pv 5) (dJ (cB (dJ (vv 7) (dJ (vv 10) (dJ (vv 11) c6)))) c6)))))
   cU)
   (dF (YX (K:=K) rfl Ba Bb a8 YU (pv 6) (b9 (dJ (vv 9) c6)))))))
  ·exact(c7 (cB (U8 (pv 5) (dJ bK c6))))
noncomputable abbrev Nx35:List Str:=["_law_script","_law_k","_law_rest","_law_again"]
abbrev Qx35:List Str:=["_law_script","_law_k"]
theorem MI:cS Nx35 Qx35 (c9 (top 58)):=aG
theorem zER(F:X4 K "_law_cell_at" "_law_cell_at" (top 58) f fd) (T:Txt K mg):
  bC P w K mg base CX0 1 f fd Qx35 (spV K [] 2 aN):=
 W0 P w K mg base Nx35 Qx35 0 WM [] F MI fun _ _ _ _ _ _ hr hu hu1=>by
  refine(dG ?_ (dG ?_ (dG ?_ (dG ?_ (dF ?_)))))
  ·exact(cA (bS zC2 s_lt (vv 1) (XX T.n_len (vv 0)) (aV _))
   (dF (c7 (aM hu1 (vv 0) (vv 1))))
   cU)
  ·exact(cA (aA hu (vv 0) (bH (Z4 (b9 c6))))
   (dF (c7 dI))
   cU)
  ·exact(a7 MI.nd (aF (dC (aM hu1 (vv 0) (Y3 XA U5 (vv 1) (XX T.n_len (vv 0)))))))
  ·exact (XF Cu rfl (aB (by rfl) T.n_range (NU (QO rfl) CF (by rfl) T.n_min HB (Y3 PQ MC (vv 1) (XX T.n_len (vv 0))) dI)) (cW MI.nd)
   (dF (a7 MI.nd (aF (dC (Y3 PQ MC (vv 2) dI))))))
  ·exact(c7 (aY (YQ (K:=K) rfl) ZY (aY (YQ (K:=K) rfl) ZY (aY (SU (K:=K) rfl) VU (aM hu1 (vv 0) (Y3 XA U5 (vv 1) (XX T.n_len (vv 0)))) dI) (vv 1)) (aY (SU (K:=K) rfl) VU (vv 2) dI)))
noncomputable abbrev Nx36:List Str:=["_law_script","_law_k","_law_bound","_law_drawn"]
abbrev Qx36:List Str:=["_law_script","_law_k","_law_bound"]
theorem CJ:cS Nx36 Qx36 (c9 (top 59)):=aG
theorem zEQ(F:X4 K "_law_mixed" "_law_mixed" (top 59) f fd) (T:Txt K mg) (f8:cM P w K mg base "_law_cell_at" 1 Qx35 [] aN f_x35):
  bC P w K mg base CX0 2 f fd Qx36 (spV K [] 3 YN):=
 W0 P w K mg base Nx36 Qx36 1 U0 [] F CJ fun _ _ _ _ _ _ hr hu hu1=>by
  refine(dG ?_ (dF ?_))
  ·exact(a7 CJ.nd (aF (dC (Y3 XA U5 (aY (YQ (K:=K) rfl) ZY (aY (YQ (K:=K) rfl) ZY (aY (SU (K:=K) rfl) VU (b8 f8 hr (dE (vv 0) (dE (vv 1) c8))) dI) (aY (SU (K:=K) rfl) VU dI (vv 1))) dI) dI))))
  ·exact(c7 (Y3 XA U5 (Y3 XA U5 (Y3 XA U5 (Y3 zEB zH0 (vv 3) dI) dI) dI) (vv 2)))
abbrev Nx37:List Str:=["_law_script","_law_town","_law_bound"]
abbrev LA:List Str:=["_law_script","_law_town","_law_bound"]
theorem zD6:cS Nx37 LA (c9 (top 60)):=aG
theorem zEP(F:X4 K "_law_draw" "_law_draw" (top 60) f fd) (T:Txt K mg) (f7:cM P w K mg base "_law_mixed" 2 Qx36 [] YN f_x36):
  bC P w K mg base CX0 3 f fd LA (spV K [1] 3 cP):=
 W0 P w K mg base Nx37 LA 2 SQ [1] F zD6 fun _ _ _ _ _ _ hr hu hu1=>by
  refine(dG ?_ (dF ?_))
  ·exact(YX (K:=K) rfl Ba Bb a8 YU (pv 1) (b9 (dJ dI c6)))
  ·exact(c7 (b8 f7 hr (dE (vv 0) (dE (dC (XX T.n_len (vo 1))) (dE (vv 2) c8)))))
abbrev Nx38:List Str:=["_law_script","_law_town","_law_some"]
abbrev IV:List Str:=["_law_script","_law_town","_law_some"]
theorem zD5:cS Nx38 IV (c9 (top 61)):=aG
theorem zEO(F:X4 K "_law_pick" "_law_pick" (top 61) f fd) (T:Txt K mg) (al:cM P w K mg base "_law_draw" 3 LA [1] cP f_x37):
  bC P w K mg base CX0 4 f fd IV (spV K [1] 3 bZ):=
 W0 P w K mg base Nx38 IV 3 SR [1] F zD5 fun _ _ _ _ _ _ hr hu hu1=>by exact(dF (c7 (aM hu1 (vv 2) (b8 al hr (dE (vv 0) (bY (pv 1) (dE (dC (XX T.n_len (vv 2))) c8)))))))
noncomputable abbrev Nx39:List Str:=["_law_script","_law_town","_law_seen","_law_deed","_law_room"]
abbrev Qx39:List Str:=["_law_script","_law_town","_law_seen","_law_deed","_law_room"]
theorem zD4:cS Nx39 Qx39 (c9 (top 62)):=aG
theorem zEN(F:X4 K "_law_place" "_law_place" (top 62) f fd) (T:Txt K mg) (al:cM P w K mg base "_law_draw" 3 LA [1] cP f_x37) (ao:cM P w K mg base "_law_pick" 4 IV [1] bZ f_x38):
  bC P w K mg base CX0 5 f fd Qx39 (spV K [1,2] 5 aU):=
 W0 P w K mg base Nx39 Qx39 4 U1 [1,2] F zD4 fun _ _ _ _ _ _ hr hu hu1=>by
  refine(dG ?_ (dF ?_))
  ·exact(GW hu1 (pv 2) (vv 3) (dC (Y3 XA U5 (aY (YQ (K:=K) rfl) ZY (DB hu1 (pv 2) (vv 3) (dC (b8 al hr (dE (vv 0) (bY (pv 1) (dE (vv 4) c8))))) ⟨rfl,rfl,rfl,rfl⟩) (b8 ao hr (dE (vv 0) (bY (pv 1) (dE (bH (Z4 (b9 (dJ dI (dJ dI (dJ dI (dJ dI (dJ dI c6)))))))) c8))))) (vv 4))) rfl)
  ·exact(c7 (aM hu1 (vo 2) (vv 3)))
noncomputable abbrev Nx40:List Str:=["_law_script","_law_town","_law_made","_law_seen","_law_room","_law_kind","_law_a","_law_b","_law_c"]
abbrev Qx40:List Str:=["_law_script","_law_town","_law_made","_law_seen","_law_room"]
theorem OZ:cS Nx40 Qx40 (c9 (top 63)):=aG
theorem zEM(F:X4 K "_law_row" "_law_row" (top 63) f fd) (T:Txt K mg) (al:cM P w K mg base "_law_draw" 3 LA [1] cP f_x37) (ao:cM P w K mg base "_law_pick" 4 IV [1] bZ f_x38) (bu:cM P w K mg base "_law_place" 5 Qx39 [1,2] aU f_x39):
  bC P w K mg base CX0 6 f fd Qx40 (spV K [1,3] 5 XI):=
 W0 P w K mg base Nx40 Qx40 5 QS [1,3] F OZ fun _ _ _ _ _ _ hr hu hu1=>by
  refine(dG ?_ (dG ?_ (dG ?_ (dG ?_ (dG ?_ (dG ?_ (dG ?_ (dG ?_ (dF ?_)))))))))
  ·exact(a7 OZ.nd (aF (dC (b8 al hr (dE (vv 0) (bY (pv 1) (dE dI c8)))))))
  ·exact(cA (S9 (XG (aA hu (vv 2) (bH (Z4 (b9 c6)))) (X9 (aA hu (vv 5) dI))))
   (dG (cA (aA hu (b8 al hr (dE (vv 0) (bY (pv 1) (dE dI c8)))) dI)
   (dF (c7 (cB (dJ c0 (dJ (b8 ao hr (dE (vv 0) (bY (pv 1) (dE (bH (Z4 (b9 (dJ dI (dJ dI (dJ dI (dJ dI (dJ dI (dJ (b8 al hr (dE (vv 0) (bY (pv 1) (dE dI c8)))) c6))))))))) c8)))) c6)))))
   cU)
   (dF (c7 (cB (dJ c0 (dJ (b8 bu hr (dE (vv 0) (bY (pv 1) (bY (pv 3) (dE c0 (dE (vv 4) c8)))))) c6))))))
   cU)
  ·exact(V8 (bH (aJ ["_law_script","_law_town","_law_made","_law_k"] [0,1,2] 1 (aB (by rfl) T.n_range dI) (fun hn _ _ _ _=>⟨(cW hn),YW,(dC (aM hu1 (vv 2) (NU (MY rfl) zBS (by rfl) T.n_max HA dI (Y3 Q0 NP (Y3 Q0 NP (XX T.n_len (vv 2)) dI) (b8 al hr (dE (vv 0) (bY (pv 1) (dE dI c8))))))))⟩))) (X8 (K:=K) rfl rfl (cC (cW OZ.nd) (cC (cW OZ.nd) (cC (cW OZ.nd) Y8)))))
  ·exact (cA (bS (P6 (K := K) rfl hu) (WV (neg := false)) (vv 5) (cB (dJ dI (dJ dI c6))) (by with_unfolding_all rfl))
   (dF (c7 (cB (dJ c0 (dJ (b8 bu hr (dE (vv 0) (bY (pv 1) (bY (pv 3) (dE c0 (dE (vv 4) c8)))))) c6)))))
   cU)
  ·exact(cA (aA hu (vv 5) dI)
   (dF (c7 (cB (dJ c0 (dJ (b8 bu hr (dE (vv 0) (bY (pv 1) (bY (pv 3) (dE c0 (dE (vv 4) c8)))))) (dJ (vv 8) (dJ (vv 6) c6)))))))
   cU)
  ·exact (cA (bS (P6 (K := K) rfl hu) (WV (neg := false)) (vv 5) (cB (dJ dI (dJ dI c6))) (by with_unfolding_all rfl))
   (dF (c7 (cB (dJ c0 (dJ (b8 bu hr (dE (vv 0) (bY (pv 1) (bY (pv 3) (dE c0 (dE (vv 4) c8)))))) (dJ (vv 6) c6))))))
   cU)
  ·exact(cA (aA hu (vv 5) dI)
   (dF (c7 (cB (dJ c0 (dJ (b8 bu hr (dE (vv 0) (bY (pv 1) (bY (pv 3) (dE c0 (dE (vv 4) c8)))))) (dJ (vv 6) (dJ (vv 8) c6)))))))
   cU)
  ·exact(cA (aA hu (vv 5) dI)
   (dF (c7 (cB (dJ c0 (dJ (vv 8) (dJ (vv 6) (dJ (vv 7) c6)))))))
   cU)
  ·exact(c7 (cB (dJ (aM hu1 (bH (Z4 (b9 (dJ c0 (dJ c0 (dJ c0 (dJ c0 (dJ c0 (dJ c0 (dJ c0 c6)))))))))) (b8 al hr (dE (vv 0) (bY (pv 1) (dE dI c8))))) (dJ (vv 6) (dJ (vv 7) c6)))))
noncomputable abbrev Nx41:List Str:=["_law_script","_law_town","_law_low","_law_many","_law_small"]
abbrev Qx41:List Str:=["_law_script","_law_town","_law_low"]
theorem IG:cS Nx41 Qx41 (c9 (top 64)):=aG
theorem zEL(F:X4 K "_law_cells" "_law_cells" (top 64) f fd) (T:Txt K mg) (al:cM P w K mg base "_law_draw" 3 LA [1] cP f_x37) (ao:cM P w K mg base "_law_pick" 4 IV [1] bZ f_x38):
  bC P w K mg base CX0 5 f fd Qx41 (spV K [1] 3 YM):=
 W0 P w K mg base Nx41 Qx41 4 UZ [1] F IG fun _ _ _ _ _ _ hr hu hu1=>by
  refine(dG ?_ (dG ?_ (dF ?_)))
  ·exact(a7 IG.nd (aF (dC (b8 ao hr (dE (vv 0) (bY (pv 1) (dE (bH (Z4 (b9 (dJ (vv 2) (dJ (NU (QO rfl) CF (by rfl) T.n_min HB dI (aY (YQ (K:=K) rfl) ZY (vv 2) (b8 al hr (dE (vv 0) (bY (pv 1) (dE dI c8)))))) (dJ dI c6)))))) c8)))))))
  ·exact(a7 IG.nd (aF (dC (b8 ao hr (dE (vv 0) (bY (pv 1) (dE (bH (Z4 (b9 (dJ dI (dJ dI (dJ dI c6)))))) c8)))))))
  ·exact(c7 (bH (aJ ["_law_script","_law_town","_law_small","_law_k"] [0,1,4] 1 (aB (by rfl) T.n_range (vv 3)) (fun hn _ _ _ _=>⟨(cW hn),YW,(dC (b8 al hr (dE (vv 0) (bY (pv 1) (dE (vv 2) c8)))))⟩))))
abbrev Nx42:List Str:=["_law_row_here"]
abbrev Qx42:List Str:=["_law_row_here"]
theorem zD3:cS Nx42 Qx42 (c9 (top 65)):=aG
theorem zEK(F:X4 K "_law_names" "_law_names" (top 65) f fd) (T:Txt K mg):
  bC P w K mg base CX0 1 f fd Qx42 (spV K [] 1 ZC):=
 W0 P w K mg base Nx42 Qx42 0 QB [] F zD3 fun _ _ _ _ _ _ hr hu hu1=>by
  refine(dG ?_ (dF ?_))
  ·exact(cA (aA hu (aM hu1 (vv 0) dI) c0)
   (dF (c7 (bH (Z4 (b9 c6)))))
   cU)
  ·exact(c7 (XW (bS (P6 (K:=K) rfl hu) (WV (neg:=false)) (aM hu1 (vv 0) dI) (cB (dJ c0 (dJ c0 (dJ c0 (dJ c0 c6))))) (by with_unfolding_all rfl)) (bH (GV (L0 (K:=K) rfl) W9 (by rfl) T.W9 T8 (DC (TR rfl (vv 0) (TW dI) TU)))) (bH (GV (L0 (K:=K) rfl) W9 (by rfl) T.W9 T8 (DC (TR rfl (vv 0) (TW dI) TU))))))
noncomputable abbrev Nx43:List Str:=["_law_script","_law_town","_law_most","_law_broad","_law_room","_law_rows","_law_words","_law_wides","_law_again","_law_kind","_law_here","_law_picks","_law_row_here","_law_inner"]
abbrev Qx43:List Str:=["_law_script","_law_town","_law_most"]
theorem U6:cS Nx43 Qx43 (c9 (top 66)):=aG
theorem zEJ(F:X4 K "_law_program" "_law_program" (top 66) f fd) (T:Txt K mg) (al:cM P w K mg base "_law_draw" 3 LA [1] cP f_x37) (ao:cM P w K mg base "_law_pick" 4 IV [1] bZ f_x38) (f6:cM P w K mg base "_law_row" 6 Qx40 [1,3] XI f_x40):
  bC P w K mg base CX0 7 f fd Qx43 (spV K [1] 3 ZL):=
 W0 P w K mg base Nx43 Qx43 6 WN [1] F U6 fun _ _ _ _ _ _ hr hu hu1=>by
  refine(dG ?_ (dG ?_ (dG ?_ (dG ?_ (dG ?_ (dF ?_))))))
  ·exact(zA2 (i:=3) (j:=4) rfl rfl U6.nd rfl rfl (by decide) (Jm rfl) (Ht rfl) (aF (dC (b8 ao hr (dE (vv 0) (bY (pv 1) (dE (bH (Z4 (b9 (dJ dI (dJ dI (dJ dI c6)))))) c8)))))) (aF (dC (b8 ao hr (dE (vv 0) (bY (pv 1) (dE (bH (Z4 (b9 (dJ dI (dJ dI (dJ dI c6)))))) c8)))))))
  ·exact(GY (i:=5) (j:=6) (k:=7) rfl rfl U6.nd rfl rfl rfl (by decide) (by decide) (by decide) (Ht rfl) (Jm rfl) (Ht rfl) (VO (Z4 (b9 (dJ (cB (dJ c0 (dJ (b8 al hr (dE (vv 0) (bY (pv 1) (dE dI c8)))) c6))) c6)))) (VO (Z4 (b9 (dJ dI c6)))) (VO (Z4 (b9 c6))))
  ·exact(YX (K:=K) rfl Ba Bb a8 YU (pv 5) (b9 (dJ (cB (dJ c0 (dJ c0 (dJ (NV (UI (K:=K) rfl) T9 (by rfl) T.n_tuple ZD (bH (aJ ["_law_script","_law_town","_law_k"] [0,1] 1 (aB (by rfl) T.n_range (vv 3)) (fun hn _ _ _ _=>⟨(cW hn),YW,(dC (b8 al hr (dE (vv 0) (bY (pv 1) (dE dI c8)))))⟩)))) c6)))) c6)))
  ·exact(YX (K:=K) rfl Ba Bb a8 YU (pv 7) (b9 (dJ dI c6)))
  ·exact (XF Cu rfl (aB (by rfl) T.n_range (b8 al hr (dE (vv 0) (bY (pv 1) (dE (dC (aY (YQ (K := K) rfl) ZY (vv 2) dI)) c8))))) (cW U6.nd)
   (dG (MM (i:=9) (j:=10) rfl U6.nd rfl rfl (by decide) rfl rfl (aF (dC (b8 al hr (dE (vv 0) (bY (pv 1) (dE dI c8)))))) (aF (dC (XX T.n_len (vo 5)))) rfl)
   (dG (cA (aA hu (vv 9) dI)
   (dF (YX (K:=K) rfl Ba Bb a8 YU (pv 5) (b9 (dJ (cB (dJ c0 (dJ (NV (UI (K:=K) rfl) T9 (by rfl) T.n_tuple ZD (bH (aJ ["_law_script","_law_town","_law_words","_law_k"] [0,1,6] 1 (aB (by rfl) T.n_range (vv 3)) (fun hn _ _ _ _=>⟨(cW hn),YW,(dC (b8 ao hr (dE (vv 0) (bY (pv 1) (bY (pv 2) c8)))))⟩)))) c6))) c6))))
   (dF (cA (aA hu (vv 9) dI)
   (dG (a7 U6.nd (aF (dC (NV (UI (K:=K) rfl) T9 (by rfl) T.n_tuple ZD (bH (aJ ["_law_script","_law_town","_law_broad","_law_k"] [0,1,3] 1 (aB (by rfl) T.n_range (vv 3)) (fun hn _ _ _ _=>⟨(cW hn),YW,(dC (b8 al hr (dE (vv 0) (bY (pv 1) (dE (dC (aY (SU (K:=K) rfl) VU dI (vv 2))) c8)))))⟩)))))))
   (dF (YX (K:=K) rfl Ba Bb a8 YU (pv 5) (b9 (dJ (cB (dJ c0 (dJ (b8 ao hr (dE (vv 0) (bY (pv 1) (bY (pv 7) c8)))) (dJ (b8 ao hr (dE (vv 0) (bY (pv 1) (bY (pv 7) c8)))) (dJ (vv 11) c6))))) c6)))))
   (dF (cA (aA hu (vv 9) dI)
   (dF (YX (K:=K) rfl Ba Bb a8 YU (pv 5) (b9 (dJ (cB (dJ c0 (dJ (b8 ao hr (dE (vv 0) (bY (pv 1) (bY (pv 7) c8)))) (dJ (b8 al hr (dE (vv 0) (bY (pv 1) (dE (vv 3) c8)))) c6)))) c6))))
   (dG (a7 U6.nd (aF (dC (C8 (K:=K) (i:=3) (mF:=[1]) rfl f6 (by decide) hr (by decide) (by rfl) (zGI (vv 0) (zGH (pv 1) (zCN (aA hu (vv 9) dI) (pv 6) (pv 7) (zA3 (pv 4)))))))))
   (dF (YX (K:=K) rfl Ba Bb a8 YU (pv 5) (b9 (dJ (XW (S9 (XG (aA hu (vv 9) dI) (X9 (aA hu (aM hu1 (vv 12) dI) c0)))) (vv 12) (aY (YQ (K:=K) rfl) ZY (cB (dJ c0 c6)) (vv 12))) c6))))))))))
   (dG (a7 U6.nd (aF (dC (XW (aA hu (aM hu1 (aM hu1 (vo 5) (ML dI)) dI) c0) (TR rfl (aM hu1 (vo 5) (ML dI)) (TW dI) TU) (aM hu1 (vo 5) (ML dI))))))
   (dF (cA (bS (F0 (K:=K) rfl hu) (WV (neg:=true)) (aM hu1 (vv 13) dI) (cB (dJ c0 (dJ c0 c6))) (by with_unfolding_all rfl))
   (dF (cA (bS (P6 (K:=K) rfl hu) (WV (neg:=false)) (aM hu1 (aM hu1 (vo 5) (ML dI)) dI) (cB (dJ c0 (dJ c0 (dJ c0 c6)))) (by with_unfolding_all rfl))
   (dF (YX (K:=K) rfl Ba Bb a8 YU (pv 7) (b9 (dJ (vv 10) c6))))
   (dF (YX (K:=K) rfl Ba Bb a8 YU (pv 6) (b9 (dJ (vv 10) c6))))))
   cU))))))
  ·exact(c7 (cB (dJ (vv 3) (dJ (b8 al hr (dE (vv 0) (bY (pv 1) (dE (dC (aY (YQ (K:=K) rfl) ZY (vv 4) dI)) c8)))) (dJ (NV (UI (K:=K) rfl) T9 (by rfl) T.n_tuple ZD (vo 5)) c6)))))
noncomputable abbrev Nx44:List Str:=["_law_program_here","_law_broad","_law_sure","_law_rows","_law_made","_law_home","_law_back","_law_number","_law_row_here","_law_lane","_law_pick_here","_law_inner","_law_names_here","_law_head"]
abbrev Qx44:List Str:=["_law_program_here"]
theorem Y1:cS Nx44 Qx44 (c9 (top 67)):=aG
theorem zEI(F:X4 K "_law_narrowed" "_law_narrowed" (top 67) f fd) (T:Txt K mg) (et:cM P w K mg base "_law_names" 1 Qx42 [] ZC f_x42):
  bC P w K mg base CX0 2 f fd Qx44 (spV K [] 1 ZU):=
 W0 P w K mg base Nx44 Qx44 1 W7 [] F Y1 fun _ _ _ _ _ _ hr hu hu1=>by
  refine(dG ?_ (dG ?_ (dG ?_ (dF ?_))))
  ·exact(V8 (vv 0) (X8 (K:=K) rfl rfl (cC (cW Y1.nd) (cC (cW Y1.nd) (cC (cW Y1.nd) Y8)))))
  ·exact(GY (i:=4) (j:=5) (k:=6) rfl rfl Y1.nd rfl rfl rfl (by decide) (by decide) (by decide) (Ht rfl) (Jm rfl) (Ht rfl) (VO (Z4 (b9 c6))) (VO DF) (VO DE))
  ·exact (XF Cu rfl (GU rfl (by rfl) T.n_enumerate (vv 3)) (X8 (K := K) rfl rfl (cC (cW Y1.nd) (cC (cW Y1.nd) Y8)))
   (dF (cA (aA hu (TR rfl (vv 8) TU (TW dI)) (cB (dJ c0 (dJ c0 c6))))
   (dF (XF Cu rfl (aB (by rfl) T.n_range (vv 1)) (cW Y1.nd)
   (dG (VA hu1 (pv 5) (dJ (vv 7) (dJ (vv 9) c6)) (dC (XX T.n_len (vo 4))) rfl)
   (dF (YX (K:=K) rfl Ba Bb a8 YU (pv 4) (b9 (dJ (cB (dJ c0 (dJ (aM hu1 (aM hu1 (vv 8) dI) (vv 9)) c6))) c6)))))))
   (dF (cA (aA hu (aM hu1 (vv 8) dI) c0)
   (dF (XF Cu rfl (aB (by rfl) T.n_range (vv 1)) (cW Y1.nd)
   (dF (VA hu1 (pv 5) (dJ (vv 7) (dJ (vv 9) c6)) (dC (vixN hu1 (pv 5) (dJ (aM hu1 (aM hu1 (vv 8) dI) (vv 9)) (dJ bK c6)))) rfl))))
   (dF (cA (aA hu (aM hu1 (vv 8) dI) c0)
   (dF (XF Cu rfl (aB (by rfl) T.n_range (vv 1)) (cW Y1.nd)
   (dG (a7 Y1.nd (aF (dC (aM hu1 (aM hu1 (vv 8) dI) (vv 9)))))
   (dF (VA hu1 (pv 5) (dJ (vv 7) (dJ (vv 9) c6)) (dC (vixN hu1 (pv 5) (dJ (aM hu1 (vv 8) (aY (YQ (K:=K) rfl) ZY dI (Y3 PQ MC (vv 10) (vv 1)))) (dJ (Y3 XA U5 (vv 10) (vv 1)) c6)))) rfl)))))
   (dF (cA (aA hu (aM hu1 (vv 8) dI) c0)
   (dF (VA hu1 (pv 5) (dJ (vv 7) (dJ bK c6)) (dC (vixN hu1 (pv 5) (dJ (aM hu1 (vv 8) dI) (dJ (aM hu1 (vv 8) dI) c6)))) rfl))
   (dG (a7 Y1.nd (aF (dC (XW (aA hu (aM hu1 (vv 8) dI) c0) (TR rfl (vv 8) (TW dI) TU) (vv 8)))))
   (dF (XF Cu rfl (XU rfl (dC (XW (aA hu (aM hu1 (vv 8) dI) c0) (bH (FK rfl (by rfl) T.W9 T8 (by rfl) T.n_range AB (vv 1))) (bH (Z4 (b9 (dJ bK c6))))))) (cW Y1.nd)
   (dG (a7 Y1.nd (aF (dC (NV (UI (K:=K) rfl) T9 (by rfl) T.n_tuple ZD (bH (aJ ["_law_home","_law_lane","_law_name"] [5,9] 1 (XU rfl (dC (b8 et hr (dE (vv 11) c8)))) (fun hn _ _ _ _=>⟨(cW hn),YW,(dC (vixN hu1 (pv 0) (dJ (vv 2) (dJ (vv 1) c6))))⟩)))))))
   (dG (a7 Y1.nd (aF (dC (XW (bS (P6 (K:=K) rfl hu) (WV (neg:=false)) (aM hu1 (vv 11) dI) (cB (dJ c0 (dJ c0 (dJ c0 (dJ c0 (dJ c0 c6)))))) (by with_unfolding_all rfl)) (TR rfl (vv 11) TU (TW dI)) (TR rfl (vv 11) TU (TW dI))))))
   (dG (cA (S9 (IM (aA hu (XX T.n_len (vv 13)) dI) (GZ (bS (L1 (K:=K) rfl hu) MD (aM hu1 (vv 11) dI) c0 (aV _)))))
   (dF (a7 Y1.nd (aF (dC (cB (dJ (aM hu1 (vv 11) dI) (dJ (aY (YQ (K:=K) rfl) ZY (aM hu1 (vv 11) dI) (XW (bS PU ME (vv 9) bK (aV _)) (vv 9) dI)) c6)))))))
   cU)
   (dG (VA hu1 (pv 5) (dJ (vv 7) (dJ (vv 9) c6)) (dC (XX T.n_len (vo 4))) rfl)
   (dG (GW hu1 (pv 6) (XX T.n_len (vo 4)) (dC (cB (dJ (vv 7) (dJ (vv 9) c6)))) rfl)
   (dF (YX (K:=K) rfl Ba Bb a8 YU (pv 4) (b9 (dJ (aY (YQ (K:=K) rfl) ZY (vv 13) (vv 12)) c6)))))))))))))))))))))
  ·exact(c7 (cB (dJ (cB (dJ (vv 1) (dJ (vv 2) (dJ (NV (UI (K:=K) rfl) T9 (by rfl) T.n_tuple ZD (vo 4)) c6)))) (U8 (pv 6) c6))))
noncomputable abbrev Nx45:List Str:=["_law_script","_law_town","_law_program_here","_law_narrow","_law_back","_law_places","_law_again","_law_cells_here","_law_later","_law_fault","_law_due"]
abbrev Qx45:List Str:=["_law_script"]
theorem XD:cS Nx45 Qx45 (c9 (top 68)):=aG
theorem zEH(F:X4 K "law" "law" (top 68) f fd) (T:Txt K mg) (bq:cM P w K mg base "is_program" 8 D0 [] bQ f_x30) (df:cM P w K mg base "run_program" 9 Qx34 [] aP f_x34) (eu:cM P w K mg base "_law_cells" 5 Qx41 [1] YM f_x41) (eo:cM P w K mg base "_law_program" 7 Qx43 [1] ZL f_x43) (ek:cM P w K mg base "_law_narrowed" 2 Qx44 [] ZU f_x44):
  bC P w K mg base CX0 10 f fd Qx45 (spV K [] 1 MP):=
 W0 P w K mg base Nx45 Qx45 9 AN [] F XD fun _ _ _ _ _ _ hr hu hu1=>by
  refine(dG ?_ (dG ?_ (dG ?_ (dG ?_ (dG ?_ (dG ?_ (dG ?_ (dF ?_))))))))
  ·exact(a7 XD.nd (VO (Z4 (b9 c6))))
  ·exact(a7 XD.nd (aF (dC (b8 eo hr (dE (vv 0) (bY (pv 1) (dE dI c8)))))))
  ·exact(V8 (dC (b8 ek hr (dE (vv 2) c8))) (X8 (K:=K) rfl rfl (cC (cW XD.nd) (cC (cW XD.nd) Y8))))
  ·exact(K5 false XD.nd ["_law_row_here"] [] 1 (XU rfl (dC (aM hu1 (vv 3) dI))) (fun hn _ _ _ _=>⟨(cW hn),(C6 (bS (P6 (K:=K) rfl hu) (WV (neg:=false)) (aM hu1 (vv 0) dI) (cB (dJ c0 (dJ c0 (dJ c0 (dJ c0 c6))))) (by with_unfolding_all rfl))),(dC (aM hu1 (vv 0) dI))⟩))
  ·exact (cA (bS zC3 s_gt (O7 (zIB (K := K) rfl rfl) zDN (by rfl) T.n_max HA (aY (YQ (K := K) rfl) ZY (bH (Z4 (b9 (dJ dI c6)))) (vv 5))) dI (aV _))
   (dF (c7 (S8 (Q4 BH zBT (b8 bq hr (dE (vv 2) c8)) YG (aV _)) (Q5 (Q4 BH zBT (b8 bq hr (dE (vv 3) c8)) YG (aV _))))))
   cU)
  ·exact(cA (bS zAV zDM (b8 bq hr (dE (vv 3) c8)) YG (aV _))
   (dF (c7 YG))
   cU)
  ·exact (XF Cu rfl (aB (by rfl) T.n_range dI) (cW XD.nd)
   (dG (a7 XD.nd (aF (dC (b8 eu hr (dE (vv 0) (bY (pv 1) (dE (dC (aM hu1 (vv 2) dI)) c8)))))))
   (dG (V8 (dC (b8 df hr (dE (vv 3) (dE (vv 7) c8)))) (X8 (K:=K) rfl rfl (cC (cW XD.nd) (cC (cW XD.nd) Y8))))
   (dG (a7 XD.nd (aF (dC (XW (bS HZ CD (vv 9) bK (aV _)) bK (aY (YQ (K:=K) rfl) ZY (aM hu1 (vv 4) (aM hu1 (vv 9) dI)) (cB (dJ (aM hu1 (vv 9) dI) c6)))))))
   (dF (cA (bS (L1 (K:=K) rfl hu) MD (b8 df hr (dE (vv 2) (dE (vv 7) c8))) (cB (dJ (vv 8) (dJ (vv 10) c6))) (aV _))
   (dF (c7 YG))
   cU))))))
  ·exact(c7 YG)
end
end RR
namespace L2
open PySem
theorem b5(a b:String):Ar a=Ar b↔a=b:=by
 refine⟨fun h=> ?_,fun h=>by rw[h]⟩;rw[Gj,Gj] at h;injection h with h;have h2:a.toList.map Lf=b.toList.map Lf:=by simpa using h
 have h3:a.toList=b.toList:=by
  have inj: ∀(l m:List Char),l.map Lf=m.map Lf->l=m:=by
   intro l;induction l with
   |nil=>intro m h;cases m with
    |nil=>rfl
    |cons=>cases h
   | cons c l ih => intro m h;cases m with
    |nil=>cases h
    |cons e m=>
     simp only[Be,Jp] at h;rw[ih m h.2,Char.toNat_inj.mp h.1]
  exact inj _ _ h2
 exact String.toList_inj.mp h3
theorem E9(a:String):Nl (Ar a)=true:=by
 unfold Nl;rw[Gj];simp only[List.all_toArray,Nk,Gz,Kt,decide_eq_true_eq];intro c _;have:=c.valid;rcases this with h|⟨_,h⟩
 ·show c.val.toNat<1114112
  have:c.val.toNat<55296:=h;lia
 ·exact h
def P7(k:Nat)(d:dL):Prop:=d.isD=true/\d.pd.canLay0=true/\d.pd.depth<=k
theorem V5{k:Nat}{i:Int}:P7 k (.int i):=⟨rfl,rfl,Du _⟩
theorem F9{k:Nat}:P7 k .non:=⟨rfl,rfl,Du _⟩
theorem bX{k:Nat}{a:String}:P7 k (.str (Ar a)):=⟨rfl,by simp[dL.pd,Fa,E9],Du _⟩
theorem L7{k:Nat}: ∀{ds:List dL},(∀d∈ds,P7 k d)->JT ds=true/\Gr (DT ds)=true/\Ed (DT ds)<=k
 |[],_=>⟨rfl,rfl,Du _⟩
 |d::ds,h=>by
  obtain⟨a1,a2,a3⟩:=h d Ax;obtain⟨b1,b2,b3⟩:=L7 fun e he=>h e (Am _ he);refine⟨by simp[JT,a1,b1],by simp[DT,Gr,a2,b2],?_⟩;simp only[DT,Ed];lia
theorem X0{k:Nat}{ds:List dL}(h: ∀d∈ds,P7 k d):P7 (k+1) (.tup ds):=by
 obtain⟨a,b,c⟩:=L7 h;exact⟨by simpa[dL.isD] using a,by simpa[dL.pd,Fa] using b,by simp only[dL.pd,Gy];lia⟩
theorem zAY{k:Nat}{ds:List dL}(h: ∀d∈ds,P7 k d):P7 (k+1) (.lst ds):=by
 obtain⟨a,b,c⟩:=L7 h;exact⟨by simpa[dL.isD] using a,by simpa[dL.pd,Fa] using b,by simp only[dL.pd,Gy];lia⟩
theorem P7.ok{k:Nat}{d:dL}(h:P7 k d)(hk:k<=64:=by decide):NI d=true:=by
 unfold NI Dr;simp only[h.1,h.2.1,Nd,Ad,decide_eq_true_eq];have:=h.2.2;lia
@[simp] theorem zJC{a:String}:NI (.str (Ar a))=true:=(bX (k:=0)).ok
theorem Y7{k:Nat}: ∀d∈([]:List dL),P7 k d:=fun _ h=>nomatch h
theorem cF{k:Nat}{d:dL}{ds:List dL}(h:P7 k d)(t: ∀d∈ds,P7 k d): ∀e∈d::ds,P7 k e:=fun e he=>by
 rcases Aj.mp he with z|z
 ·rw[z];exact h
 ·exact t e z
@[simp] theorem zME{i j:Int}:HK (.int i) (.int j)=decide (i=j):=by show(i==j)=_;rw[Jq]
@[simp] theorem zG1{a b:String}:HK (.str (Ar a)) (.str (Ar b))=decide (a=b):=by
 show(Ar a==Ar b)=_;rw[Jq];simp only[b5]
@[simp] theorem zIP:HK (.tup []) (.tup [])=true:=(rfl)
@[simp] theorem AK{d e:dL}{ds es:List dL}:HK (.tup (d::ds)) (.tup (e::es))=(HK d e && HK (.tup ds) (.tup es)):=(rfl)
@[simp] theorem zMD{a:Str}{i:Int}:HK (.int i) (.str a)=false:=(rfl)
@[simp] theorem zLT{i j:Int}:Y9 (.int i) (.int j)=some (.bl (decide (i=j))):=by unfold Y9;simp
@[simp] theorem zLE{i j:Int}:L6 (.int i) (.int j)=some (.bl (!decide (i=j))):=by unfold L6;simp
@[simp] theorem zLS{a b:String}:Y9 (.str (Ar a)) (.str (Ar b))=some (.bl (decide (a=b))):=by unfold Y9;simp
@[simp] theorem zLD{a b:String}:L6 (.str (Ar a)) (.str (Ar b))=some (.bl (!decide (a=b))):=by unfold L6;simp
theorem BA{j k:Nat}{d e:dL}(h:P7 j d)(h':P7 k e)(hj:j<=64:=by decide)(hk:k<=64:=by decide):Y9 d e=some (.bl (HK d e)):=by
 unfold Y9;rw[h.ok hj,h'.ok hk];rfl
theorem zI2{j k:Nat}{d e:dL}(h:P7 j d)(h':P7 k e)(hj:j<=64:=by decide)(hk:k<=64:=by decide):L6 d e=some (.bl (!HK d e)):=by
 unfold L6;rw[h.ok hj,h'.ok hk];rfl
theorem KA{j k:Nat}{neg:Bool}{d:dL}{ds:List dL}(h:P7 j d)(h': ∀e∈ds,P7 k e)(hj:j<=64:=by decide)(hk:k+1<=64:=by decide):YC neg d (.tup ds)=some (.bl (if neg then !inE d ds else inE d ds)):=by
 unfold YC;simp[h.ok hj,(X0 h').ok hk]
@[simp] theorem zO5{d:dL}:inE d []=false:=(rfl)
@[simp] theorem zO6{d e:dL}{ds:List dL}:inE d (e::ds)=(HK e d || inE d ds):=(rfl)
@[simp] theorem zO3{neg:Bool}{a b c:String}:YC neg (.str (Ar a)) (.tup [.str (Ar b),.str (Ar c)])=some (.bl (if neg then !(decide (b=a) || decide (c=a)) else decide (b=a) || decide (c=a))):=by
 rw[KA (j:=0) bX (cF (bX (k:=0)) (cF bX Y7))];simp
@[simp] theorem zO2{neg:Bool}{a b c d:String}:YC neg (.str (Ar a)) (.tup [.str (Ar b),.str (Ar c),.str (Ar d)])=some (.bl (if neg then !(decide (b=a) || (decide (c=a) || decide (d=a))) else decide (b=a) || (decide (c=a) || decide (d=a)))):=by
 rw[KA (j:=0) bX (cF (bX (k:=0)) (cF bX (cF bX Y7)))];simp
@[simp] theorem zO1{neg:Bool}{a b c d e:String}:YC neg (.str (Ar a)) (.tup [.str (Ar b),.str (Ar c),.str (Ar d),.str (Ar e)])=some (.bl (if neg then !(decide (b=a) || (decide (c=a) || (decide (d=a) || decide (e=a)))) else decide (b=a) || (decide (c=a) || (decide (d=a) || decide (e=a))))):=by
 rw[KA (j:=0) bX (cF (bX (k:=0)) (cF bX (cF bX (cF bX Y7))))];simp
@[simp] theorem zO4{neg:Bool}{a b c:Int}:YC neg (.int a) (.tup [.int b,.int c])=some (.bl (if neg then !(decide (b=a) || decide (c=a)) else decide (b=a) || decide (c=a))):=by
 rw[KA (j:=0) V5 (cF (V5 (k:=0)) (cF V5 Y7))];simp
theorem AJ{k:Nat}{d:dL}(h:P7 k d):HK d d=true:=PySem.SeqAt.eqv_refl _ h.2.1
def QM(ns:List Int):dL:= .lst (ns.map .int)
def TZ(n:Nat):dL:= .lst (Bj n (.int 0))
theorem NB: ∀ns:List Int,JT (ns.map dL.int)=true
 |[]=>rfl
 |n::ns=>by simp[JT,dL.isD,NB ns]
theorem KD: ∀ns:List Int,DT (ns.map dL.int)=ns.map Lb
 |[]=>rfl
 |n::ns=>by simp[DT,dL.pd,KD ns]
theorem BD(ns:List Int):NI (.lst (ns.map .int))=true:=by
 unfold NI;simp only[dL.isD,NB,dL.pd,KD,Nd];exact KZ ns
theorem XS(ns:List Int):Y9 (.lst (ns.map .int)) (.lst [])=some (.bl ns.isEmpty):=by
 unfold Y9;rw[BD,show NI (.lst [])=true from by decide+kernel];cases ns<;>rfl
theorem NA: ∀n:Nat,TJ (Bj n (.int 0))=true
 |0=>rfl
 |n+1=>by simp[Km,TJ,dL.hard,NA n]
@[simp] theorem zI7(n:Nat):RT (TZ n)=true:=NA n
theorem M3: ∀(ds:List dL) (a b:dL) (r:Int) (s:Sl),∃r' s',aD (gN 3) (Z2 2 (xV (f2 QE (fV 2) (fC (.int 1000003))))) ds [.va a,.va b,.va (.int r),s]=some (.nx [.va a,.va b,.va (.int r'),s'])
 |[],a,b,r,s=>⟨r,s,rfl⟩
 |d::ds,a,b,r,s=>by
  obtain⟨r',s',h⟩:=M3 ds a b (r/1000003) (.va d);exact⟨r',s',by simp[LF,h]⟩
theorem RP{ns:List Int}{i:Int}(h0:0<=i)(h1:i<ns.length): ∃r∈ns,W4 (ns.map dL.int) i=some (.int r):=by
 obtain⟨x,hx,e⟩:=G9 (xs:=ns.map dL.int) h0 (by simpa using h1);obtain⟨r,hr,rfl⟩:=Ay.mp hx;exact⟨r,hr,e⟩
theorem zBI(ns:List Int)(k:Nat)(hl:ns.length<=63)(hk:k<1000000): ∃r,aN [QM ns,.int k]=some (.int r,[]):=by
 unfold aN;rw[c5];unfold WM VM QM;by_cases h:(k:Int)<ns.length
 ·obtain ⟨r,_,e⟩ := RP (ns := ns) (i := k) (by lia) h
  exact⟨r,by simp[cV,h,e]⟩
 ·cases ns with
  |nil=>
   have h0: ¬((k:Int)<0):=by lia
   have e:Y9 (.lst []) (.lst [])=some (.bl true):=XS [];exact⟨0,by simp[cV,h0,e]⟩
  |cons m ms=>
   generalize hns:m::ms=ns at*;have cz:(0:Int)<ns.length:=by rw[<- hns];simp
   have hb:=Hn (k:Int) (show(ns.length:Int)≠0 by lia);have hb2:=Gg (k:Int) cz;obtain⟨r,_,e⟩:=RP (ns:=ns) hb hb2;have he:ns.isEmpty=false:=by rw[<- hns];rfl
   have hq:0<=(k:Int)/ns.length:=Mk (by lia) (by lia);have hm: -4611686018427387904<=(if(60:Int)<(k:Int)/ns.length then 60 else(k:Int)/ns.length)/\(if(60:Int)<(k:Int)/ns.length then 60 else(k:Int)/ns.length)<4611686018427387904:=by split<;>lia
   obtain⟨r',s',e2⟩:=M3 (ZT 0 (if(60:Int)<(k:Int)/ns.length then 60 else(k:Int)/ns.length).toNat) (.lst (ns.map .int)) (.int k) r .no;have hp2:0<ns.length:=by lia
   have hp3:(ns.length:Int)<1073741824:=by lia
   exact⟨r*31+k+r'*101,by simp[cV,h,XS,he,cz,hp2,hp3,e,LF,hm,e2,JF]⟩
noncomputable def cel(ns:List Int)(k:Nat):Int:=match aN [QM ns,.int k] with
 |some (.int r,_)=>r
 |_=>0
theorem zG6(ns:List Int)(k:Nat)(hl:ns.length<=63)(hk:k<1000000):aN [QM ns,.int k]=some (.int (cel ns k),[]):=by
 obtain⟨r,e⟩:=zBI ns k hl hk;unfold cel;rw[e]
noncomputable def PK(ns:List Int)(n:Nat)(b:Int):Int:=((cel ns (n+1)*1103515245+7919*(((n+1:Nat)):Int)+12345) % 2147483647) ^ 5 % 2147483647 % 999983 % b
theorem VN(ns:List Int)(n:Nat){b:Int}(h:0<b):0<=PK ns n b:=Hn _ (by lia)
theorem TF(ns:List Int)(n:Nat){b:Int}(h:0<b):PK ns n b<b:=Gg _ h
theorem zFI(ns:List Int)(n:Nat)(b:Int)(hl:ns.length<=63)(hn:n<900000)(hb:0<b):YN [QM ns,.int ((n+1:Nat):Int),.int b]=some (.int (PK ns n b),[]):=by
 have e:=zG6 ns (n+1) hl (by lia);unfold YN;rw[c5];unfold U0 PK;have e1:=Hn (cel ns (n+1)*1103515245+7919*((n+1:Nat):Int)+12345) (show(2147483647:Int)≠0 by decide);have e2:=Gg (cel ns (n+1)*1103515245+7919*((n+1:Nat):Int)+12345) (show(0:Int)<2147483647 by decide);generalize hz:(cel ns (n+1)*1103515245+7919*((n+1:Nat):Int)+12345) % 2147483647=z at*;have hz2:z.natAbs<18446744073709551616:=by lia
 generalize hk:((n+1:Nat):Int)=k at*;simp[cV,e,JF,cPow,hz,hz2,hb]
theorem aH(ns:List Int)(n:Nat)(b:Int)(hl:ns.length<=63)(hn:n<900000)(hb:0<b):cP [QM ns,TZ n,.int b]=some (.int (PK ns n b),[TZ (n+1)]):=by
 have e:=zFI ns n b hl hn hb;unfold cP;rw[c5];unfold SQ;have ht:TZ n= .lst (Bj n (.int 0)):=rfl;have ht2:TZ (n+1)= .lst (Bj n (.int 0)++[.int 0]):=by unfold TZ;rw[List.replicate_succ']
 rw[ht2,ht];have hs:n<16777216:=by lia
 push_cast at e
 simp[cV,hs,e]
theorem X1(ns:List Int)(n:Nat)(xs:List dL)(hl:ns.length<=63)(hn:n<900000)(hx:0<xs.length): ∃x∈xs,bZ [QM ns,TZ n,.lst xs]=some (x,[TZ (n+1)]):=by
 have hx':(0:Int)<xs.length:=by lia
 obtain⟨x,hm,e⟩:=G9 (xs:=xs) (VN ns n hx') (TF ns n hx');refine⟨x,hm,?_⟩;unfold bZ;rw[c5];unfold SR;simp[cV,aH ns n _ hl hn hx',e]
def IW(n:Nat)(d:dL):Prop:= ∃(ks:List YY) (vs:List Int),d= .dct ks (vs.map .int)/\ks.length=vs.length/\ks.Nodup/\ks.length<=n
theorem IW.mono{n m:Nat}{d:dL}(h:IW n d)(hn:n<=m):IW m d:=by
 obtain⟨ks,vs,h1,h2,h3,h4⟩:=h;exact⟨ks,vs,h1,h2,h3,by omega⟩
theorem zC7: ∀(ks:List YY) (vs:List Int) (k:YY) (q:Int),∃r,(bO ks (vs.map .int) k).getD (.int q)= .int r
 |[],_,_,q=>⟨q,by simp[bO]⟩
 |_::_,[],_,q=>⟨q,by simp[bO]⟩
 | k' :: ks,v :: vs,k,q => by
  by_cases h:k'=k
  ·exact⟨v,by simp[bO,h]⟩
  ·obtain⟨r,e⟩:=zC7 ks vs k q
   exact⟨r,by simp only[Be,bO,if_neg h];exact e⟩
theorem putI: ∀(ks:List YY) (vs:List Int) (k:YY) (p:Int),ks.length=vs.length->ks.Nodup-> ∃(ks':List YY) (vs':List Int),Y2 ks (vs.map .int) k (.int p)=(ks',vs'.map .int)/\ks'.length=vs'.length/\ks'.Nodup/\ks'.length<=ks.length+1/\(∀z∈ks',z=k∨z∈ks)/\bO ks' (vs'.map .int) k=some (.int p)
 |[],[],k,p,_,_=>⟨[k],[p],by simp[Y2],rfl,by simp,by simp,by simp,by simp[bO]⟩
 | k' :: ks,v :: vs,k,p,hl,hn => by
  by_cases h:k'=k
  ·subst h
   exact⟨k'::ks,p::vs,by simp[Y2],by simpa using hl,hn,by simp,by simp,by simp[bO]⟩
  ·obtain ⟨ks',vs',e,h1,h2,h3,h4,h5⟩ := putI ks vs k p (by simpa using hl) (Cb.mp hn).2
   refine⟨k'::ks',v::vs',by simp only[Be,Y2,if_neg h,e],by simp[h1],?_,by simp;omega,?_,by simp only[Be,bO,if_neg h];exact h5⟩
   ·refine Cb.mpr ⟨fun z => ?_,h2⟩
    rcases h4 _ z with y|y
    ·exact h y
    ·exact(Cb.mp hn).1 y
   ·intro z hz
    rcases Aj.mp hz with y|y
    ·exact .inr (by rw[y];exact Ax)
    ·exact(h4 z y).imp id (Am _)
theorem KL(ns:List Int)(n:Nat)(sn:dL)(x:Str)(ah:Int)(hl:ns.length<=63)(hn:n<800000)(hs:IW n sn)(hr:0<ah):
  ∃p sn',0<=p/\p<ah/\IW (n+2) sn'/\aU [QM ns,TZ n,sn,.str x,.int ah]=some (.int p,[TZ (n+2),sn']):=by
 obtain⟨ks,vs,rfl,h1,h2,h3⟩:=hs;obtain⟨a,ha⟩:=zC7 ks vs (.inr x) (PK ns n ah);obtain⟨y,hy,ey⟩:=X1 ns (n+1) [.int 1,.int 1,.int 1,.int 0,.int 3] hl (by omega) (by simp);obtain⟨b,rfl⟩: ∃b,y= .int b:=by
  simp only[Aj,Av,or_false] at hy;rcases hy with h|h|h|h|h<;>exact⟨_,h⟩
 obtain⟨ks',vs',e,h4,h5,h6,h7,h8⟩:=putI ks vs (.inr x) ((a+b) % ah) h1 h2;refine⟨(a+b) % ah,.dct ks' (vs'.map .int),Hn _ (by omega),Gg _ hr,⟨ks',vs',rfl,h4,h5,by omega⟩,?_⟩;have hk:ks.length<16777216:=by omega
 unfold aU;rw[c5];unfold U1;simp[cV,aH ns n ah hl (by omega) hr,ha,ey,hr,hk,h2,e,h8]
inductive bB(M:Int->Prop):dL->Prop
 |number {n:Int}:0<=n->n<=999->bB M (.tup [.str "number",.int n])
 |two {x:String} {a b:Int}:x∈["over","plus","minus","times","least","most","less"]->M a->M b->bB M (.tup [.str x,.int a,.int b])
 |pick {c a b:Int}:M c->M a->M b->bB M (.tup [.str "pick",.int c,.int a,.int b])
 |load {p:Int}:0<=p->p<=63->bB M (.tup [.str "load",.int p])
 |take {p c a:Int}:0<=p->p<=63->M c->M a->bB M (.tup [.str "take",.int p,.int c,.int a])
 |store {p a:Int}:0<=p->p<=63->M a->bB M (.tup [.str "store",.int p,.int a])
 |put {p a c:Int}:0<=p->p<=63->M a->M c->bB M (.tup [.str "put",.int p,.int a,.int c])
theorem C2(ns:List Int)(n:Nat)(made:List Int)(hl:ns.length<=63)(hn:n<800000)(hm:0<made.length)(s:Sl): ∃a b c,a∈made/\b∈made/\c∈made∧
  ZZ 3 1 (gN 3) X5 (f2 cT (fV 2) (f2 oMax (fC (.int 0)) (f2 N6 (f2 N6 (f1 ZH (fV 2)) (fC (.int 1))) (cZ 3 [1] cP (aE (fV 0) (aO 1 (aE (fC (.int 6)) cI))))))) [.int 0,.int 1,.int 2] [] [.va (QM ns),.ow (TZ n),.va (.lst (made.map .int))]=
   some ([.int a,.int b,.int c],[.va (QM ns),.ow (TZ (n+3)),.va (.lst (made.map .int))]):=by
 have one: ∀m,∃a∈made,W4 (made.map dL.int) (if(made.length:Int) - 1 - PK ns m 6>0 then(made.length:Int) - 1 - PK ns m 6 else 0)=some (.int a):=fun m=>by
  have:=VN ns m (b:=6) (by decide);exact RP (by split<;>omega) (by split<;>omega)
 obtain⟨a,ha,ea⟩:=one n;obtain⟨b,hb,eb⟩:=one (n+1);obtain⟨c,hc,ec⟩:=one (n+2);refine⟨a,b,c,ha,hb,hc,?_⟩;have d0:=aH ns n 6 hl (by omega) (by decide);have d1:=aH ns (n+1) 6 hl (by omega) (by decide);have d2:=aH ns (n+2) 6 hl (by omega) (by decide);simp only[gt_iff_lt,Int.sub_pos] at ea eb ec;simp[d0,d1,d2,ea,eb,ec]
theorem B9(ns:List Int)(n:Nat)(made:List Int)(sn:dL)(ah:Int)(hl:ns.length<=63)(hn:n<700000)(hs:IW n sn)(hr:0<ah)(hr2:ah<=64):
    ∃row n' sn',n<=n'/\n'<=n+10/\IW n' sn'/\bB (· ∈made) row/\XI [QM ns,TZ n,.lst (made.map .int),sn,.int ah]=some (row,[TZ n',sn']):=by
  have d0:=aH ns n 13 hl (by omega) (by decide);have k0:=VN ns n (b:=13) (by decide);have k1:=TF ns n (b:=13) (by decide);generalize PK ns n 13=kd at*;unfold XI;rw[c5];unfold QS;by_cases h0:made.isEmpty=true∨kd=0
  · have d1 := aH ns (n + 1) 2 hl (by omega) (by decide)
    have hor:made.isEmpty=true∨(made.isEmpty=false/\kd=0):=by
      cases hm:made.isEmpty with
      |true=>exact .inl rfl
      | false => rcases h0 with h | h
                 · rw[hm] at h;cases h
                 · exact .inr ⟨rfl,h⟩
    by_cases h2:PK ns (n+1) 2=0
    · have d2 := aH ns (n + 2) 1000 hl (by omega) (by decide)
      obtain⟨y,hy,ey⟩:=X1 ns (n+3) [.int 0,.int 1,.int 2,.int 5,.int 999,.int (PK ns (n+2) 1000)] hl (by omega) (by simp);obtain⟨b,rfl,hb0,hb1⟩: ∃b,y= .int b/\0<=b/\b<=999:=by
        have:=VN ns (n+2) (b:=1000) (by decide);have:=TF ns (n+2) (b:=1000) (by decide);simp only[Aj,Av,or_false] at hy;rcases hy with h|h|h|h|h|h<;>exact⟨_,h,by omega,by omega⟩
      refine⟨.tup [.str "number",.int b],n+4,sn,by omega,by omega,hs.mono (by omega),.number hb0 hb1,?_⟩;rcases hor with h|⟨h,h'⟩
      · simp[cV,d0,XS,h,d1,h2,d2,ey]
      · simp[cV,d0,XS,h,h',d1,h2,d2,ey]
    · obtain ⟨p,sn',p0,p1,hs',ep⟩ := KL ns (n + 2) sn "load" ah hl (by omega) (hs.mono (by omega)) hr
      refine⟨.tup [.str "load",.int p],n+4,sn',by omega,by omega,hs',.load p0 (by omega),?_⟩;rcases hor with h|⟨h,h'⟩
      · simp[cV,d0,XS,h,d1,h2,ep]
      · simp[cV,d0,XS,h,h',d1,h2,ep]
  · obtain⟨hm,hkd⟩:=not_or.mp h0
    have hm':made.isEmpty=false:=by simpa using hm
    have cz:0<made.length:=by
      cases made with
      |nil=>cases hm'
      |cons=>simp
    obtain⟨a,b,c,ha,hb,hc,e3⟩:=C2 ns (n+1) made hl (by omega) cz .no;have eh:(kd=1∨kd=2)∨kd=3∨(kd=4∨kd=5)∨kd=6∨kd=7∨(8<=kd/\kd<=12):=by omega
    have pl: ∀x:Str,∃p sn',0<=p/\p<=63/\IW (n+6) sn'/\aU [QM ns,TZ (n+4),sn,.str x,.int ah]=some (.int p,[TZ (n+6),sn']):=fun x=>by
      obtain⟨p,sn',p0,p1,hs',ep⟩:=KL ns (n+4) sn x ah hl (by omega) (hs.mono (by omega)) hr;exact⟨p,sn',p0,by omega,hs',ep⟩
    rcases eh with h|h|h|h|h|h
    · have t12 : (decide (1 = kd) || decide (2 = kd)) = true := by rcases h with rfl | rfl <;> decide
      obtain⟨p,sn',p0,p1,hs',ep⟩:=pl "load";exact⟨.tup [.str "load",.int p],n+6,sn',by omega,by omega,hs',.load p0 p1,by simp[cV,d0,XS,hm',hkd,bM,e3,ep,t12]⟩
    · subst h
      obtain⟨p,sn',p0,p1,hs',ep⟩:=pl "take";exact⟨.tup [.str "take",.int p,.int c,.int a],n+6,sn',by omega,by omega,hs',.take p0 p1 hc ha,by simp[cV,d0,XS,hm',bM,e3,ep]⟩
    · have t45 : (decide (4 = kd) || decide (5 = kd)) = true := by rcases h with rfl | rfl <;> decide
      have n3: ¬kd=3:=by omega
      have m1: ¬1=kd:=by omega
      have m2: ¬2=kd:=by omega
      obtain⟨p,sn',p0,p1,hs',ep⟩:=pl "store";exact⟨.tup [.str "store",.int p,.int a],n+6,sn',by omega,by omega,hs',.store p0 p1 ha,by simp[cV,d0,XS,hm',hkd,bM,e3,ep,n3,m1,m2,t45]⟩
    · subst h
      obtain⟨p,sn',p0,p1,hs',ep⟩:=pl "put";exact⟨.tup [.str "put",.int p,.int a,.int c],n+6,sn',by omega,by omega,hs',.put p0 p1 ha hc,by simp[cV,d0,XS,hm',bM,e3,ep]⟩
    · subst h
      exact⟨.tup [.str "pick",.int c,.int a,.int b],n+4,sn,by omega,by omega,hs.mono (by omega),.pick hc ha hb,by simp[cV,d0,XS,hm',bM,e3]⟩
    · have d4 := aH ns (n + 4) 7 hl (by omega) (by decide)
      have q0:=VN ns (n+4) (b:=7) (by decide);have q1:=TF ns (n+4) (b:=7) (by decide);obtain⟨y,hy,ey⟩:=G9 (xs:=["over","plus","minus","times","least","most","less"].map fun s:String=>dL.str (Ar s)) q0 (by simpa using q1);obtain⟨x,hx,rfl⟩:=Ay.mp hy;simp only[Be,Fq] at ey;have n1: ¬kd=1:=by omega
      have n2: ¬kd=2:=by omega
      have n3: ¬kd=3:=by omega
      have n4: ¬kd=4:=by omega
      have n5: ¬kd=5:=by omega
      have n6: ¬kd=6:=by omega
      have n7: ¬kd=7:=by omega
      have m1: ¬1=kd:=by omega
      have m2: ¬2=kd:=by omega
      have m4: ¬4=kd:=by omega
      have m5: ¬5=kd:=by omega
      exact⟨.tup [.str x,.int a,.int b],n+5,sn,by omega,by omega,hs.mono (by omega),.two hx ha hb,by simp[cV,d0,XS,hm',hkd,bM,e3,n3,n6,n7,m1,m2,m4,m5,d4,ey]⟩
inductive Kd where
 |w|p|n
 deriving DecidableEq
def Nm(kds:List Kd)(k:Kd)(a:Int):Prop:=0<=a/\kds[a.toNat]? =some k
theorem Nm.snoc{kds:List Kd}{k j:Kd}{a:Int}(h:Nm kds k a):Nm (kds++[j]) k a:=⟨h.1,by rw[Af (Ai.mp h.2).1];exact h.2⟩
theorem Nm.new{kds:List Kd}{k:Kd}:Nm (kds++[k]) k kds.length:=⟨by lia,by simp⟩
noncomputable def VJ(k:Kd):dL->Kd
 | .tup (.str x::_)=>if x= "store" ∨x= "put" then .n else k
 |_=> .n
inductive PR(L:Nat)(kds:List Kd):dL->Kd->Prop
 |nar {row:dL}:bB (Nm kds .w) row->PR L kds row (VJ .w row)
 |wid {ds:List dL}:bB (Nm kds .p) (.tup ds)->(∀n,ds≠[.str "number",.int n])->PR L kds (.tup (.str "wide"::ds)) (VJ .p (.tup ds))
 |wnum {ws:List Int}:ws.length=L->(∀w∈ws,0<=w/\w<=999)->PR L kds (.tup [.str "wide",.str "number",.tup (ws.map .int)]) .p
 |gather {rs:List Int}:rs.length=L->(∀r∈rs,Nm kds .w r)->PR L kds (.tup [.str "gather",.tup (rs.map .int)]) .p
 |shuf {p q:Int} {ps:List Int}:Nm kds .p p->Nm kds .p q->ps.length=L->(∀x∈ps,0<=x/\x<2*L)->PR L kds (.tup [.str "shuffle",.int p,.int q,.tup (ps.map .int)]) .p
 |lane {p k:Int}:Nm kds .p p->0<=k->k<L->PR L kds (.tup [.str "lane",.int p,.int k]) .w
inductive SG(L:Nat):List Kd->List dL->List Kd->Prop
 |nil {kds:List Kd}:SG L kds [] kds
 |cons {kds ai:List Kd} {row:dL} {k:Kd} {rows:List dL}:PR L kds row k->SG L (kds++[k]) rows ai->SG L kds (row::rows) ai
theorem SG.snoc{L:Nat}{kds ai:List Kd}{rows:List dL}{row:dL}{k:Kd}(h:SG L kds rows ai)(r:PR L ai row k):SG L kds (rows++[row]) (ai++[k]):=by
 induction h with
 |nil=>exact .cons r .nil
 |cons a _ ih=>exact .cons a (ih r)
theorem SG.len{L:Nat}{kds ai:List Kd}{rows:List dL}(h:SG L kds rows ai):ai.length=kds.length+rows.length:=by
 induction h with
 |nil=>simp
 |cons a _ ih=>simp at ih⊢;lia
theorem bB.imp{M M':Int->Prop}{row:dL}(h:bB M row)(f: ∀a,M a->M' a):bB M' row:=by
 cases h with
 |number a b=>exact .number a b
 |two a b c=>exact .two a (f _ b) (f _ c)
 |pick a b c=>exact .pick (f _ a) (f _ b) (f _ c)
 |load a b=>exact .load a b
 |take a b c d=>exact .take a b (f _ c) (f _ d)
 |store a b c=>exact .store a b (f _ c)
 |put a b c d=>exact .put a b (f _ c) (f _ d)
theorem bB.hard{M:Int->Prop}{row:dL}(h:bB M row):row.hard=true:=by
 cases h<;>simp[dL.hard,TJ]
structure GI(L:Nat)(rows:List dL)(words ae:List Int)(kds:List Kd):Prop where
 rows:SG L [] rows kds
 w: ∀a∈words,Nm kds .w a
 p: ∀a∈ae,Nm kds .p a
 wn:0<words.length
 pn:0<ae.length
theorem GI.more{L:Nat}{rows:List dL}{words ae:List Int}{kds:List Kd}{row:dL}{k:Kd}(G:GI L rows words ae kds)(r:PR L kds row k):GI L (rows++[row]) (if k= .w then words++[(rows.length:Int)] else words) (if k= .p then ae++[(rows.length:Int)] else ae) (kds++[k]):=by
 have hl:rows.length=kds.length:=by have:=G.rows.len;simp at this;lia
 refine⟨G.rows.snoc r,fun a ha=> ?_,fun a ha=> ?_,?_,?_⟩
 ·split at ha
  ·rename_i h
   rcases Bi.mp ha with z|z
   ·exact(G.w a z).snoc
   ·rw[Ak.mp z,hl,h];exact Nm.new
  ·exact(G.w a ha).snoc
 ·split at ha
  ·rename_i h
   rcases Bi.mp ha with z|z
   ·exact(G.p a z).snoc
   ·rw[Ak.mp z,hl,h];exact Nm.new
  ·exact(G.p a ha).snoc
 ·have:=G.wn
  split<;>simp<;>lia
 ·have:=G.pn
  split<;>simp<;>lia
theorem UB(ns:List Int)(b:Int)(hl:ns.length<=63)(hb:0<b)(fe:VF)(x:Sl)(tail:Ev)(nn:Nat)(hnn:nn=tail.length+2)
  (hfe: ∀n d,n<800000->fe ([.va (QM ns),.ow (TZ n)]++tail++[.va d])=some (.int (PK ns n b),[.va (QM ns),.ow (TZ (n+1))]++tail++[.va d])):
  ∀(ds:List dL) (n:Nat) (acc:List dL),n+ds.length<800000->acc.length+ds.length<1000000-> ∃ws:List Int,ws.length=ds.length/\(∀w∈ws,0<=w/\w<b)∧
   ZZ nn 1 (gN nn) X5 fe ds acc ([.va (QM ns),.ow (TZ n)]++tail)=some (acc++ws.map .int,[.va (QM ns),.ow (TZ (n+ds.length))]++tail)
 |[],n,acc,_,_=>⟨[],rfl,(fun _ h=>nomatch h),by simp⟩
 | d :: ds,n,acc,hn,ha => by
  obtain⟨ws,h1,h2,h3⟩:=UB ns b hl hb fe x tail nn hnn hfe ds (n+1) (acc++[.int (PK ns n b)]) (by simp at hn;lia) (by simp at ha⊢;lia);refine⟨PK ns n b::ws,by simp[h1],fun w hw=> ?_,?_⟩
  ·rcases Aj.mp hw with z|z
   ·rw[z];exact⟨VN ns n hb,TF ns n hb⟩
   ·exact h2 w z
  ·have e := hfe n d (by simp at hn;lia)
   have i5:([Sl.va (QM ns),Sl.ow (TZ n)]++tail++[Sl.no]).set nn (.va d)=[Sl.va (QM ns),Sl.ow (TZ n)]++tail++[Sl.va d]:=by
    rw[Jr _ _ (by simp[hnn])];simp[hnn]
   have bp:([Sl.va (QM ns),Sl.ow (TZ (n+1))]++tail++[Sl.va d]).take nn=[Sl.va (QM ns),Sl.ow (TZ (n+1))]++tail:=by rw[Ez (by simp[hnn]),Ck (by simp[hnn])]
   have ax:acc.length<16777216:=by simp at ha;lia
   simp only[LM,A7,P2,i5,BY,AA,BZ,e,B0,if_pos ax,bp,h3];simp[show n+1+ds.length=n+(ds.length+1) by lia]
theorem M4(ns:List Int)(xs:List Int)(hl:ns.length<=63)(hx:0<xs.length):
  ∀(ds:List dL) (n:Nat) (acc:List dL),n+ds.length<800000->acc.length+ds.length<1000000-> ∃ws:List Int,ws.length=ds.length/\(∀w∈ws,w∈xs)∧
   ZZ 3 1 (gN 3) X5 (cZ 3 [1] bZ (aE (fV 0) (aO 1 (aO 2 cI)))) ds acc [.va (QM ns),.ow (TZ n),.ow (.lst (xs.map .int))]=some (acc++ws.map .int,[.va (QM ns),.ow (TZ (n+ds.length)),.ow (.lst (xs.map .int))])
 |[],n,acc,_,_=>⟨[],rfl,(fun _ h=>nomatch h),by simp⟩
 | d :: ds,n,acc,hn,ha => by
  obtain⟨y,hy,ey⟩:=X1 ns n (xs.map .int) hl (by simp at hn;lia) (by simpa using hx);obtain⟨v,hv,rfl⟩:=Ay.mp hy;obtain⟨ws,h1,h2,h3⟩:=M4 ns xs hl hx ds (n+1) (acc++[.int v]) (by simp at hn;lia) (by simp at ha⊢;lia);refine⟨v::ws,by simp[h1],fun w hw=> ?_,?_⟩
  ·rcases Aj.mp hw with z|z
   ·rw[z];exact hv
   ·exact h2 w z
  ·have ax : acc.length < 16777216 := by simp at ha;lia
   simp[ey,dL.hard,ax,h3,show n+1+ds.length=n+(ds.length+1) by lia]
@[simp] theorem zLC{i:Int}:N5 (.int i)=some (.int (-i)):=(rfl)
theorem D8{ds:List dL}{k:Nat}(h:k<=ds.length):SM ds (some (k:Int)) none=ds.drop k:=by
 unfold SM;rw[HT.GO,HT.KU,Ml h,Ck (by simp)]
theorem FU{ds:List dL}{k:Nat}:SM ds none (some (k:Int))=ds.take k:=by
 unfold SM;rw[HT.GO,HT.KU];simp only[Kb,Nat.sub_zero];by_cases h:k<=ds.length
 ·rw[Ml h]
 ·rw[Nat.min_eq_right (by omega),Ck (by omega),Ck (by omega)]
@[simp] theorem zMG{d:dL}{ds:List dL}:SM (d::ds) (some 1) none=ds:=D8 (k:=1) (by simp)
@[simp] theorem zJT{ds:List dL}:SM ds none (some 2)=ds.take 2:=FU (k:=2)
@[simp] theorem zJU{ds:List dL}:SM ds none (some 1)=ds.take 1:=FU (k:=1)
@[simp] theorem zK0{α:Type}{xs:List α}{x:α}:W4 (xs++[x]) (-1)=some x:=by
 unfold W4 JY;rw[if_neg (by decide),if_pos (by simp;omega)];have e:(-1+((xs++[x]).length:Int)).toNat=xs.length:=by simp;omega
 show(xs++[x])[(-1+((xs++[x]).length:Int)).toNat]? =some x;rw[e];simp
@[simp] theorem zOI{α:Type}{x:α}{xs:List α}:W4 (x::xs) 0=some x:=by rw[XQ (by decide) (by simp)];rfl
@[simp] theorem zOH{α:Type}{x y:α}{xs:List α}:W4 (x::y::xs) 1=some y:=by rw[XQ (by decide) (by simp;omega)];rfl
@[simp] theorem zOG{α:Type}{x y z:α}{xs:List α}:W4 (x::y::z::xs) 2=some z:=by rw[XQ (by decide) (by simp;omega)];rfl
@[simp] theorem zOF{α:Type}{x y z u:α}{xs:List α}:W4 (x::y::z::u::xs) 3=some u:=by rw[XQ (by decide) (by simp;omega)];rfl
noncomputable def PV(ns:List Int)(n:Nat)(most L ah:Int)(rows:List dL)(words ae:List Int)(a b c d e f:Sl):Ev:=
 [.va (QM ns),.ow (TZ n),.va (.int most),.va (.int L),.va (.int ah),.ow (.lst rows),.ow (.lst (words.map .int)),.ow (.lst (ae.map .int)),a,b,c,d,e,f]
noncomputable def WX:VS:=
   (cR (Z2 13 (xV (OF (fB (f2 Y9 (f2 cT (f2 cT (fO 5) (f1 N5 (fC (.int 1)))) (fC (.int 0))) (fC (.str "wide")))) (JP (f2 cT (fO 5) (f1 N5 (fC (.int 1)))) (KC (fC (.int 1))) IA) (f2 cT (fO 5) (f1 N5 (fC (.int 1)))))))
   (Y0 (fB (f2 (YC true) (f2 cT (fV 13) (fC (.int 0))) (aZ (dH (fC (.str "store")) (dH (fC (.str "put")) cK)))))
   (Y0 (fB (f2 (YC false) (f2 cT (f2 cT (fO 5) (f1 N5 (fC (.int 1)))) (fC (.int 0))) (aZ (dH (fC (.str "wide")) (dH (fC (.str "gather")) (dH (fC (.str "shuffle")) cK))))))
   (WG 7 WC (dH (fV 10) cK))
   (WG 6 WC (dH (fV 10) cK)))
   a6))
section
variable(ns:List Int)(n:Nat)(most LL ah:Int)(rows:List dL)(words ae:List Int)(a b d e f:Sl)
abbrev JA(row:dL)(af ag:List Int):Prop:= ∃f',WX (PV ns n most LL ah (rows++[row]) words ae a b (.va (.int rows.length)) d e f)=some (.nx (PV ns n most LL ah (rows++[row]) af ag a b (.va (.int rows.length)) d e f'))
variable{ns n most LL ah rows words ae a b d e f}
theorem C1{x:String}{t:List dL}(hx:x∉["wide","store","put","gather","shuffle"]) (hw:words.length<16777216):JA ns n most LL ah rows words ae a b d e f (.tup (.str x::t)) (words++[(rows.length:Int)]) ae:=by
 simp only[Aj,Av,or_false,not_or] at hx;obtain⟨h1,h2,h3,h4,h5⟩:=hx;exact⟨_,by simp[WX,PV,hw,h1,Cq h1,Cq h2,Cq h3,Cq h4,Cq h5];rfl⟩
theorem zCX{x:String}{t:List dL}(hx:x= "store" ∨x= "put"):JA ns n most LL ah rows words ae a b d e f (.tup (.str x::t)) words ae:=by
 rcases hx with rfl|rfl<;>exact⟨_,by simp[WX,PV];rfl⟩
theorem C0{x:String}{t:List dL}(hx:x= "gather" ∨x= "shuffle") (hw:ae.length<16777216):JA ns n most LL ah rows words ae a b d e f (.tup (.str x::t)) words (ae++[(rows.length:Int)]):=by
 rcases hx with rfl|rfl<;>exact⟨_,by simp[WX,PV,hw];rfl⟩
theorem GQ{x:String}{t:List dL}(hx:x∉["store","put"]) (hw:ae.length<16777216):JA ns n most LL ah rows words ae a b d e f (.tup (.str "wide":: .str x::t)) words (ae++[(rows.length:Int)]):=by
 simp only[Aj,Av,or_false,not_or] at hx;exact⟨_,by simp[WX,PV,hw,Cq hx.1,Cq hx.2];rfl⟩
theorem zA6{x:String}{t:List dL}(hx:x= "store" ∨x= "put"):JA ns n most LL ah rows words ae a b d e f (.tup (.str "wide":: .str x::t)) words ae:=by
 rcases hx with rfl|rfl<;>exact⟨_,by simp[WX,PV];rfl⟩
end
theorem zC6{k:Kd}{x:String}{t:List dL}(hx:x∉["store","put"]):VJ k (.tup (.str x::t))=k:=by
 simp only[Aj,Av,or_false,not_or] at hx;simp[VJ,b5,hx]
theorem zC5{k:Kd}{x:String}{t:List dL}(hx:x= "store" ∨x= "put"):VJ k (.tup (.str x::t))= .n:=by
 rcases hx with rfl|rfl<;>simp[VJ,b5]
theorem KR{M:Int->Prop}{row:dL}(h:bB M row): ∃(x:String) (t:List dL),row= .tup (.str x::t)/\x∉["wide","gather","shuffle"]:=by
 cases h with
 |two hx _ _=>
  simp only[Aj,Av,or_false] at hx;rcases hx with rfl|rfl|rfl|rfl|rfl|rfl|rfl<;>exact⟨_,_,rfl,by decide⟩
 |_=>exact⟨_,_,rfl,by decide⟩
theorem zA7{L:Nat}{kds:List Kd}{row:dL}{k:Kd}(r:PR L kds row k)(ns:List Int)(n:Nat)(most LL ah:Int)(rows:List dL)(words ae:List Int)(a b d e f:Sl)(hw:words.length<1000)(hp:ae.length<1000):
  ∃f',WX (PV ns n most LL ah (rows++[row]) words ae a b (.va (.int rows.length)) d e f)=
   some (.nx (PV ns n most LL ah (rows++[row]) (if k= .w then words++[(rows.length:Int)] else words) (if k= .p then ae++[(rows.length:Int)] else ae) a b (.va (.int rows.length)) d e f')):=by
 have hw':words.length<16777216:=by omega
 have hp':ae.length<16777216:=by omega
 cases r with
 |nar h=>
  obtain⟨x,t,rfl,hx⟩:=KR h;by_cases hs:x= "store" ∨x= "put"
  ·rw[zC5 hs]
   exact zCX hs
  ·have hs' : x ∉ ["store","put"] := by simpa using hs
   rw[zC6 hs'];exact C1 (by simp only[Aj,Av,or_false,not_or] at hx hs'⊢;exact⟨hx.1,hs'.1,hs'.2,hx.2.1,hx.2.2⟩) hw'
 |wid h _=>
  obtain⟨x,t,e,hx⟩:=KR h;cases e;by_cases hs:x= "store" ∨x= "put"
  ·rw[zC5 hs]
   exact zA6 hs
  ·have hs' : x ∉ ["store","put"] := by simpa using hs
   rw[zC6 hs'];exact GQ hs' hp'
 |wnum _ _=>exact GQ (by decide) hp'
 |gather _ _=>exact C0 (.inl rfl) hp'
 |shuf _ _ _ _=>exact C0 (.inr rfl) hp'
 |lane _ _ _=>exact C1 (by decide) hw'
theorem bB.num{M:Int->Prop}{row:dL}{v:Int}(h:bB M row)(e:row= .tup [.str "number",.int v]):0<=v/\v<=999:=by
 cases h with
 |number a b=>cases e;exact⟨a,b⟩
 |_=>simp[b5] at e
theorem zAA{L:Nat}{rows:List dL}{words ae:List Int}{kds:List Kd}(G:GI L rows words ae kds)(ns:List Int)(n:Nat)(most ah:Int)(a b c d e f:Sl)(hl:ns.length<=63)(hn:n<600000)(hL:2<=L)(hL4:L<=4)(hr:0<ah)(hr2:ah<=64)
  (hw:words.length<900) (hp:ae.length<900) (ny:rows.length<900) (it:dL):
  ∃n' ak af ag ai b' c' d' e' f',n<=n'/\n'<=n+20/\ak.length=rows.length+1/\af.length<=words.length+1/\ag.length<=ae.length+1/\GI L ak af ag ai∧
   XR (PV ns n most L ah rows words ae (.va it) b c d e f)=some (.nx (PV ns n' most L ah ak af ag (.va it) b' c' d' e' f')):=by
 have d0:=aH ns n 6 hl (by omega) (by decide);have k0:=VN ns n (b:=6) (by decide);have k1:=TF ns n (b:=6) (by decide);generalize PK ns n 6=kd at*;have ca:rows.length<16777216:=by omega
 have hrg:ZT 0 L=(Bt L).map fun k:Nat=>dL.int (0+k):=rfl;have hrl:(ZT 0 L).length=L:=by simp[ZT]
 have fin: ∀{row:dL} {k:Kd} (r:PR L kds row k) (m:Nat) (d e:Sl),n<=m->m<=n+20-> ∃n' ak af ag ai b' c' d' e' f',n<=n'/\n'<=n+20/\ak.length=rows.length+1/\af.length<=words.length+1/\ag.length<=ae.length+1/\GI L ak af ag ai∧
   WX (PV ns m most L ah (rows++[row]) words ae (.va it) (.va (.int kd)) (.va (.int rows.length)) d e f)=some (.nx (PV ns n' most L ah ak af ag (.va it) b' c' d' e' f')):=fun{row k} r m d e h1 h2=>by
  obtain⟨f',e1⟩:=zA7 r ns m most L ah rows words ae (.va it) (.va (.int kd)) d e f (by omega) (by omega);exact⟨m,_,_,_,_,_,_,_,_,_,h1,h2,by simp,by split<;>simp,by split<;>simp,G.more r,e1⟩
 have hLi:(L:Int).toNat=L:=by simp
 have hLb:(-4611686018427387904:Int)<=L/\(L:Int)<4611686018427387904:=by omega
 have eh:kd=0∨kd=1∨kd=2∨kd=3∨(4<=kd/\kd<=5):=by omega
 rcases eh with h|h|h|h|h
 ·subst h
  obtain⟨ws,h1,h2,h3⟩:=M4 ns words hl G.wn (ZT 0 L) (n+1) [] (by rw[hrl];omega) (by rw[hrl];simp;omega);have r:PR L kds (.tup [.str "gather",.tup (ws.map .int)]) .p:= .gather (by rw[h1,hrl]) fun x hx=>G.w x (h2 x hx);obtain⟨n',ak,af,ag,ai,b',c',d',e',f',g1,g2,g3,g4,g5,g6,g7⟩:=fin r (n+1+L) d e (by omega) (by omega);refine⟨n',ak,af,ag,ai,b',c',d',e',f',g1,g2,g3,g4,g5,g6,?_⟩;rw[<- g7];simp only[Co,hrl] at h3;change cR _ (cR _ WX) _=_
  simp -implicitDefEqProofs [PV,d0,hLb,hLi,bM,h3,ca]
 ·subst h
  obtain⟨ws,h1,h2,h3⟩:=UB ns (2*L) hl (by omega) (cZ 3 [1] cP (aE (fV 0) (aO 1 (aE (f2 WQ (fC (.int 2)) (fV 2)) cI)))) .no [.va (.int L)] 3 rfl (fun m d hm=>by simp[JF,aH ns m (2*(L:Int)) hl (by omega) (by omega)]) (ZT 0 L) (n+1) [] (by rw[hrl];omega) (by rw[hrl];simp;omega);obtain⟨y,hy,ey⟩:=X1 ns (n+1+L) (ae.map .int) hl (by omega) (by simpa using G.pn);obtain⟨p,hp',rfl⟩:=Ay.mp hy;obtain⟨z,hz,ez⟩:=X1 ns (n+1+L+1) (ae.map .int) hl (by omega) (by simpa using G.pn);obtain⟨q,hq',rfl⟩:=Ay.mp hz;have r:PR L kds (.tup [.str "shuffle",.int p,.int q,.tup (ws.map .int)]) .p:= .shuf (G.p p hp') (G.p q hq') (by rw[h1,hrl]) fun x hx=>by have:=h2 x hx;omega
  obtain⟨n',ak,af,ag,ai,b',c',d',e',f',g1,g2,g3,g4,g5,g6,g7⟩:=fin r (n+1+L+2) (.va (.tup (ws.map .int))) e (by omega) (by omega);refine⟨n',ak,af,ag,ai,b',c',d',e',f',g1,g2,g3,g4,g5,g6,?_⟩;rw[<- g7];simp only[Co,hrl,Dv] at h3;change cR _ (cR _ WX) _=_
  simp -implicitDefEqProofs [PV,d0,hLb,hLi,bM,h3,ca,ey,ez,dL.hard]
 ·subst h
  obtain⟨y,hy,ey⟩:=X1 ns (n+1) (ae.map .int) hl (by omega) (by simpa using G.pn);obtain⟨p,hp',rfl⟩:=Ay.mp hy;have d2:=aH ns (n+2) L hl (by omega) (by omega);have r:PR L kds (.tup [.str "lane",.int p,.int (PK ns (n+2) L)]) .w:= .lane (G.p p hp') (VN ns (n+2) (by omega)) (TF ns (n+2) (by omega));obtain⟨n',ak,af,ag,ai,b',c',d',e',f',g1,g2,g3,g4,g5,g6,g7⟩:=fin r (n+3) d e (by omega) (by omega);refine⟨n',ak,af,ag,ai,b',c',d',e',f',g1,g2,g3,g4,g5,g6,?_⟩;rw[<- g7];change cR _ (cR _ WX) _=_
  simp -implicitDefEqProofs [PV,d0,ca,ey,d2,dL.hard]
 ·subst h
  obtain⟨row,m,sn,m1,m2,_,hok,er⟩:=B9 ns (n+1) words (.dct [] []) ah hl (by omega) ⟨[],[],rfl,rfl,Jz,Du _⟩ hr hr2;have r:PR L kds row (VJ .w row):= .nar (hok.imp G.w);obtain⟨n',ak,af,ag,ai,b',c',d',e',f',g1,g2,g3,g4,g5,g6,g7⟩:=fin r m d (.va row) (by omega) (by omega);refine⟨n',ak,af,ag,ai,b',c',d',e',f',g1,g2,g3,g4,g5,g6,?_⟩;rw[<- g7];change cR _ (cR _ WX) _=_
  simp -implicitDefEqProofs [PV,d0,ca,er,hok.hard]
 ·obtain ⟨row,m,sn,m1,m2,_,hok,er⟩ := B9 ns (n + 1) ae (.dct [] []) ah hl (by omega) ⟨[],[],rfl,rfl,Jz,Du _⟩ hr hr2
  have n0: ¬kd=0:=by omega
  have n1: ¬kd=1:=by omega
  have n2: ¬kd=2:=by omega
  have n3: ¬kd=3:=by omega
  by_cases i6: ∃v:Int,row= .tup [.str "number",.int v]
  ·obtain⟨v,rfl⟩:=i6
   have r:PR L kds (.tup [.str "number",.int v]) .w:=by
    have:PR L kds (.tup [.str "number",.int v]) (VJ .w (.tup [.str "number",.int v])):= .nar (.number (hok.num rfl).1 (hok.num rfl).2);simpa[VJ,b5] using this
   obtain⟨n',ak,af,ag,ai,b',c',d',e',f',g1,g2,g3,g4,g5,g6,g7⟩:=fin r m d (.va (.tup [.str "number",.int v])) (by omega) (by omega);refine⟨n',ak,af,ag,ai,b',c',d',e',f',g1,g2,g3,g4,g5,g6,?_⟩;rw[<- g7];have hh:=hok.hard;change cR _ (cR _ WX) _=_
   simp -implicitDefEqProofs [PV,d0,n0,n1,n2,n3,ca,er,hh]
  ·obtain ⟨ds,rfl⟩ : ∃ ds,row = .tup ds := by cases hok <;> exact ⟨_,rfl⟩
   have r:PR L kds (.tup (.str "wide"::ds)) (VJ .p (.tup ds)):= .wid (hok.imp G.p) fun v hv=>i6 ⟨v,by rw[hv]⟩;obtain⟨n',ak,af,ag,ai,b',c',d',e',f',g1,g2,g3,g4,g5,g6,g7⟩:=fin r m d (.va (.tup ds)) (by omega) (by omega);refine⟨n',ak,af,ag,ai,b',c',d',e',f',g1,g2,g3,g4,g5,g6,?_⟩;rw[<- g7];have hh:=hok.hard;have hhd: ∃(x:String) (t:List dL),ds= .str x::t/\x≠ "number" /\t.length<=3:=by
    cases hok with
    |number=>exact absurd ⟨_,rfl⟩ i6
    |two hx _ _=>
     simp only[Aj,Av,or_false] at hx;rcases hx with rfl|rfl|rfl|rfl|rfl|rfl|rfl<;>exact⟨_,_,rfl,by decide,by simp⟩
    |_=>exact⟨_,_,rfl,by decide,by simp⟩
   obtain⟨x,t,rfl,hx,ht⟩:=hhd;have ht':1+(t.length+1)<=16777216:=by omega
   change cR _ (cR _ WX) _=_
   simp -implicitDefEqProofs [PV,d0,n0,n1,n2,n3,ca,er,hh,hx,ht']
theorem F4(ns:List Int)(most ah:Int){L:Nat}(hl:ns.length<=63)(hL:2<=L)(hL4:L<=4)(hr:0<ah)(hr2:ah<=64):
  ∀(its:List dL) {rows:List dL} {words ae:List Int} {kds:List Kd} (G:GI L rows words ae kds) (n:Nat) (a b c d e f:Sl),n+20*its.length<600000->words.length+its.length<900->ae.length+its.length<900->rows.length+its.length<900→
  ∃n' ak af ag ai a' b' c' d' e' f',n<=n'/\n'<=n+20*its.length/\ak.length=rows.length+its.length/\GI L ak af ag ai∧
   aD (gN 8) XR its (PV ns n most L ah rows words ae a b c d e f)=some (.nx (PV ns n' most L ah ak af ag a' b' c' d' e' f'))
 |[],rows,words,ae,kds,G,n,a,b,c,d,e,f,_,_,_,_=>⟨n,rows,words,ae,kds,a,b,c,d,e,f,by omega,by omega,by simp,G,rfl⟩
 |it::its,rows,words,ae,kds,G,n,a,b,c,d,e,f,h1,h2,h3,h4=>by
  simp only[Bg] at h1 h2 h3 h4;obtain⟨n1,nr,m9,ma,nv,b1,c1,d1,e1,f1,g1,g2,g3,g4,g5,G1,e0⟩:=zAA G ns n most ah a b c d e f hl (by omega) hL hL4 hr hr2 (by omega) (by omega) (by omega) it;obtain⟨n',ak,af,ag,ai,a',b',c',d',e',f',q1,q2,q3,q4,q5⟩:=F4 ns most ah hl hL hL4 hr hr2 its G1 n1 (.va it) b1 c1 d1 e1 f1 (by omega) (by omega) (by omega) (by omega);refine⟨n',ak,af,ag,ai,a',b',c',d',e',f',by omega,by simp;omega,by simp;omega,q4,?_⟩;have hs:(PV ns n most L ah rows words ae a b c d e f).set 8 (.va it)=PV ns n most L ah rows words ae (.va it) b c d e f:=rfl;simp only[X6,P2,hs,TL,e0,TM,q5]
theorem OW(k:Nat):(ZT 0 k).length=k:=by simp[ZT]
theorem zAL(ns:List Int)(n:Nat)(hl:ns.length<=63)(hn:n<1000): ∃(L n':Nat) (sure:Int) (rows:List dL) (kds:List Kd),2<=L/\L<=4/\0<=sure/\sure<=64/\rows.length<=30/\n'<=2000/\SG L [] rows kds∧
  ZL [QM ns,TZ n,.int 14]=some (.tup [.int L,.int sure,.tup rows],[TZ n']):=by
 obtain⟨y,hy,ey⟩:=X1 ns n [.int 2,.int 3,.int 4] hl (by omega) (by simp);obtain⟨L,rfl,hL2,hL4⟩: ∃L:Nat,y= .int L/\2<=L/\L<=4:=by
  simp only[Aj,Av,or_false] at hy;rcases hy with h|h|h
  ·exact⟨2,h,by omega,by omega⟩
  ·exact⟨3,h,by omega,by omega⟩
  ·exact⟨4,h,by omega,by omega⟩
 obtain⟨z,hz,ez⟩:=X1 ns (n+1) [.int 4,.int 9,.int 64] hl (by omega) (by simp);obtain⟨ah,rfl,hr1,hr2⟩: ∃r:Int,z= .int r/\0<r/\r<=64:=by
  simp only[Aj,Av,or_false] at hz;rcases hz with h|h|h<;>exact⟨_,h,by omega,by omega⟩
 have d2:=aH ns (n+2) 1000 hl (by omega) (by decide);have hrl:=OW L;obtain⟨ws,h1,h2,h3⟩:=UB ns 1000 hl (by omega) (cZ 3 [1] cP (aE (fV 0) (aO 1 (aE (fC (.int 1000)) cI)))) .no [] 2 rfl (fun m d hm=>by simp[aH ns m 1000 hl (by omega) (by omega)]) (ZT 0 L) (n+3) [] (by rw[hrl];omega) (by rw[hrl];simp;omega);simp only[Co,hrl,Ca] at h3;have d5:=aH ns (n+3+L) 15 hl (by omega) (by decide);have q0:=VN ns (n+3+L) (b:=15) (by decide);have q1:=TF ns (n+3+L) (b:=15) (by decide);generalize PK ns (n+3+L) 15=JK at*;have G:GI L [.tup [.str "number",.int (PK ns (n+2) 1000)],.tup [.str "wide",.str "number",.tup (ws.map .int)]] [0] [1] [.w,.p]:=by
  have a0:=VN ns (n+2) (b:=1000) (by decide);have a1:=TF ns (n+2) (b:=1000) (by decide);have r1:PR L [] (.tup [.str "number",.int (PK ns (n+2) 1000)]) .w:=by
   have:PR L [] (.tup [.str "number",.int (PK ns (n+2) 1000)]) (VJ .w (.tup [.str "number",.int (PK ns (n+2) 1000)])):= .nar (.number a0 (by omega));simpa[VJ,b5] using this
  refine⟨.cons r1 (.cons (.wnum (by rw[h1,hrl]) fun w hw=> ?_) .nil),fun a ha=> ?_,fun a ha=> ?_,by simp,by simp⟩
  ·have:=h2 w hw
   omega
  ·rw[Ak.mp ha];exact⟨by decide,rfl⟩
  ·rw[Ak.mp ha];exact⟨by decide,rfl⟩
 have hcl:=OW JK.toNat;obtain⟨n',ak,af,ag,ai,a',b',c',d',e',f',g1,g2,g3,g4,g5⟩:=F4 ns 14 ah hl hL2 hL4 hr1 hr2 (ZT 0 JK.toNat) G (n+4+L) .no .no .no .no .no .no (by rw[hcl];omega) (by rw[hcl];simp;omega) (by rw[hcl];simp;omega) (by rw[hcl];simp;omega);rw[hcl] at g2 g3;simp only[Bg,Eu] at g3;have d9:=aH ns n' (ah+1) hl (by omega) (by omega);refine⟨L,n'+1,PK ns n' (ah+1),ak,ai,hL2,hL4,VN ns n' (by omega),?_,by omega,by omega,g4.rows,?_⟩
 ·have := TF ns n' (b := ah + 1) (by omega)
  omega
 ·have hLi : (L : Int).toNat = L := by simp
  have hLb:(-4611686018427387904:Int)<=L/\(L:Int)<4611686018427387904:=by omega
  have hcb:(-4611686018427387904:Int)<=JK/\JK<4611686018427387904:=by omega
  simp only[PV,Be,Fq] at g5;rw[show n+4+L=n+3+L+1 by omega] at g5;unfold ZL;rw[c5,WN.eq_1];simp -implicitDefEqProofs [cV,ey,ez,d2,hLb,hLi,bM,h3,d5,hcb,g5,d9]
@[simp] theorem zGG(n lo hi:Int):cD [.int n,.int lo,.int hi]=some (.bl (decide (lo<=n) && decide (n<=hi)),[]):=by
 unfold cD;rw[c5];unfold SO;simp[cV];by_cases h:lo<=n<;>simp[h]
theorem EW{x:String}(h:x∈["over","plus","minus","times","least","most","less"]):aX [.str x]=some (.tup [.str "row",.str "row"],[]):=by
 simp only[Aj,Av,or_false] at h;rcases h with rfl|rfl|rfl|rfl|rfl|rfl|rfl<;>kernel_rfl
@[simp] theorem zJB:aX [.str "number"]=some (.tup [.str "word"],[]):=by kernel_rfl
@[simp] theorem zJA:aX [.str "pick"]=some (.tup [.str "row",.str "row",.str "row"],[]):=by kernel_rfl
@[simp] theorem zJ9:aX [.str "load"]=some (.tup [.str "place"],[]):=by kernel_rfl
@[simp] theorem zJ8:aX [.str "take"]=some (.tup [.str "place",.str "row",.str "row"],[]):=by kernel_rfl
@[simp] theorem zJ7:aX [.str "store"]=some (.tup [.str "place",.str "row"],[]):=by kernel_rfl
@[simp] theorem zJ6:aX [.str "put"]=some (.tup [.str "place",.str "row",.str "row"],[]):=by kernel_rfl
def Ab(able:List Bool)(a:Int):Prop:=0<=a/\able[a.toNat]? =some true
theorem ON{able:List Bool}{a:Int}(h:Ab able a):bA [.int a,.lst (able.map .bl)]=some (.bl true,[]):=by
 have hlt:=(Ai.mp h.2).1;have h0:=h.1;have h1:a<=(able.length:Int) - 1:=by lia
 have h2:W4 (able.map dL.bl) a=some (.bl true):=by
  rw[XQ h0 (by simp;lia)];simp[h.2]
 unfold bA;rw[c5];unfold SS;simp[cV,h0,h1,h2]
theorem ZE{able:List Bool}{a:Int}(h:Ab able a):X2 [.str "row",.int a,.lst (able.map .bl)]=some (.bl true,[]):=by
 unfold X2;rw[c5];unfold QQ;simp[cV,ON h]
theorem EE{d:dL}{a:Int}(h:0<=a)(h':a<=999):X2 [.str "word",.int a,d]=some (.bl true,[]):=by
 unfold X2;rw[c5];unfold QQ;simp[cV,bV,h,h']
theorem VW{d:dL}{a:Int}(h:0<=a)(h':a<=63):X2 [.str "place",.int a,d]=some (.bl true,[]):=by
 unfold X2;rw[c5];unfold QQ;simp[cV,XN,h,h']
@[simp] theorem zMH:P0 []=some []:=(rfl)
@[simp] theorem zMI{b:Bool}{ds:List dL}:P0 (.bl b::ds)=(P0 ds).map fun ks=>b::ks:=(rfl)
@[simp] theorem zJN{g:List Bool->Bool}{ds:List dL}:A8 g (.lst ds)=(P0 ds).map fun ks=> .bl (g ks):=(rfl)
@[simp] theorem zIV{ds:List dL}:T1 ds []=[]:=by cases ds<;>rfl
@[simp] theorem zK7{d e:dL}{ds es:List dL}:T1 (d::ds) (e::es)= .tup [d,e]::T1 ds es:=(rfl)
theorem JV{able:List Bool}{row:dL}(h:bB (Ab able) row):Z7 [row,.lst (able.map .bl)]=some (.bl true,[]):=by
 unfold Z7;rw[c5];unfold RL;cases h with
 |number a b=>simp[cV,bM,EE a b]
 |two hx a b=>simp[cV,bM,EW hx,ZE a,ZE b]
 |pick a b c=>simp[cV,bM,ZE a,ZE b,ZE c]
 |load a b=>simp[cV,bM,VW a b]
 |take a b c d=>simp[cV,bM,VW a b,ZE c,ZE d]
 |store a b c=>simp[cV,bM,VW a b,ZE c]
 |put a b c d=>simp[cV,bM,VW a b,ZE c,ZE d]
theorem YE(nn:Nat)(fe:VF)(δ:Ev)(f:dL->dL)(hδ:δ.length=nn): ∀(ds acc:List dL),(∀d∈ds,fe (δ++[Sl.va d])=some (f d,δ++[Sl.va d]))->acc.length+ds.length<16777216->ZZ nn 1 (gN nn) X5 fe ds acc δ=some (acc++ds.map f,δ)
 |[],acc,_,_=>by simp
 | d :: ds,acc,h,hl => by
  have i5:(δ++[Sl.no]).set nn (.va d)=δ++[Sl.va d]:=by
   rw[Jr _ _ (by omega)];simp[hδ]
  have bp:(δ++[Sl.va d]).take nn=δ:=by rw[Ez (by omega),Ck (by omega)]
  have ax:acc.length<16777216:=by simp at hl;omega
  have ih:=YE nn fe δ f hδ ds (acc++[f d]) (fun e he=>h e (Am _ he)) (by simp at hl⊢;omega);simp only[LM,A7,P2,i5,BY,AA,BZ,h d Ax,B0,if_pos ax,bp,ih];simp
theorem UV{α:Type}: ∀ds:List α,P0 (ds.map fun _=> .bl true)=some (ds.map fun _=>true)
 |[]=>rfl
 |d::ds=>by simp[UV ds]
@[simp] theorem zGE{α β:Type}(f:α->β)(ds:List α):P0 (ds.map ((fun _=>dL.bl true)∘f))=some (ds.map fun _=>true):=UV ds
@[simp] theorem zI5{ds:List dL}{L:Int}:bI [.tup ds,.int L]=some (.bl (decide ((ds.length:Int)=L)),[]):=by
 unfold bI;rw[c5];unfold W6;simp[cV]
theorem HS{able:List Bool}{ds:List dL}{L:Int}(h:bB (Ab able) (.tup ds))(hn: ∀n,ds≠[.str "number",.int n]):YL [.tup ds,.int L,.lst (able.map .bl)]=some (.bl true,[]):=by
 have e:=JV h;have hd: ∃(x:String) (t:List dL),ds= .str x::t/\x≠ "number":=by
  generalize hr:dL.tup ds=row at h;cases h with
  |number=>cases hr;exact absurd rfl (hn _)
  |two hx _ _=>
   simp only[Aj,Av,or_false] at hx;cases hr;rcases hx with rfl|rfl|rfl|rfl|rfl|rfl|rfl<;>exact⟨_,_,rfl,by decide⟩
  |_=>cases hr;exact⟨_,_,rfl,by decide⟩
 obtain⟨x,t,rfl,hx⟩:=hd;unfold YL;rw[c5];unfold UD;by_cases hl:((t.length:Int)+1=2)
 ·simp[cV,hl,hx,e]
 ·simp[cV,hl,e]
theorem HR{d:dL}{ws:List Int}{L:Nat}(h:ws.length=L)(hL:L<=4)(hw: ∀w∈ws,0<=w/\w<=999):YL [.tup [.str "number",.tup (ws.map .int)],.int L,d]=some (.bl true,[]):=by
 have e:=YE 0 (cZ 3 [] cD (aE (fV 0) (aE (fC (.int 0)) (aE (fC bV) cI)))) [] (fun _=> .bl true) rfl (ws.map .int) [] (fun x hx=>by
  obtain⟨w,hw',rfl⟩:=Ay.mp hx;have:=hw w hw';simp[bV,this.1,this.2]) (by simp;omega)
 unfold YL;rw[c5];unfold UD;simp only[Co] at e;simp[cV,h,bM,e,UV]
theorem JU{able:List Bool}{rs:List Int}{L:Nat}(h:rs.length=L)(hL:L<=4)(hr: ∀r∈rs,Ab able r):YK [.tup [.tup (rs.map .int)],.int L,.lst (able.map .bl)]=some (.bl true,[]):=by
 have e:=YE 1 (cZ 2 [] bA (aE (fV 1) (aE (fV 0) cI))) [.va (.lst (able.map .bl))] (fun _=> .bl true) rfl (rs.map .int) [] (fun x hx=>by
  obtain⟨w,hw',rfl⟩:=Ay.mp hx;simp[ON (hr w hw')]) (by simp;omega)
 unfold YK;rw[c5];unfold UY;simp only[Co] at e;simp[cV,h,bM,e,UV]
theorem EJ{able:List Bool}{p q:Int}{ps:List Int}{L:Nat}(hp:Ab able p)(hq:Ab able q)(h:ps.length=L)(hL:L<=4)(hr: ∀x∈ps,0<=x/\x<2*L):Y5 [.tup [.int p,.int q,.tup (ps.map .int)],.int L,.lst (able.map .bl)]=some (.bl true,[]):=by
 have e:=YE 1 (cZ 3 [] cD (aE (fV 1) (aE (fC (.int 0)) (aE (f2 N6 (f2 WQ (fC (.int 2)) (fV 0)) (fC (.int 1))) cI)))) [.va (.int L)] (fun _=> .bl true) rfl (ps.map .int) [] (fun x hx=>by
  obtain⟨w,hw',rfl⟩:=Ay.mp hx;have h1:=(hr w hw').1;have h2:w<=2*(L:Int) - 1:=by have:=(hr w hw').2;omega
  simp[JF,h1,h2]) (by simp;omega)
 unfold Y5;rw[c5];unfold VZ;simp only[Co] at e;simp[cV,h,bM,e,UV,ON hp,ON hq]
theorem EI{able:List Bool}{p k:Int}{L:Nat}(hp:Ab able p)(h0:0<=k)(h1:k<L):XH [.tup [.int p,.int k],.int L,.lst (able.map .bl)]=some (.bl true,[]):=by
 have h2:k<=(L:Int) - 1:=by omega
 unfold XH;rw[c5];unfold QR;simp[cV,ON hp,h0,h2]
def Wb(kds:List Kd):List Bool:=kds.map fun k=>decide (k= .w)
def Pb(kds:List Kd):List Bool:=kds.map fun k=>decide (k= .p)
theorem Nm.w{kds:List Kd}{a:Int}(h:Nm kds .w a):Ab (Wb kds) a:=⟨h.1,by simp[Wb,h.2]⟩
theorem Nm.p{kds:List Kd}{a:Int}(h:Nm kds .p a):Ab (Pb kds) a:=⟨h.1,by simp[Pb,h.2]⟩
theorem AQ{M:Int->Prop}{row:dL}(h:bB M row): ∃(x:String) (t:List dL),row= .tup (.str x::t)/\x∉["wide","gather","shuffle","lane"]:=by
 cases h with
 |two hx _ _=>
  simp only[Aj,Av,or_false] at hx;rcases hx with rfl|rfl|rfl|rfl|rfl|rfl|rfl<;>exact⟨_,_,rfl,by decide⟩
 |_=>exact⟨_,_,rfl,by decide⟩
theorem OT{L:Nat}{kds:List Kd}{row:dL}{k:Kd}(r:PR L kds row k)(hL:L<=4):bD [row,.int L,.lst ((Wb kds).map .bl),.lst ((Pb kds).map .bl)]=some (.bl true,[]):=by
 unfold bD;rw[c5];unfold Y6;cases r with
 |nar h=>
  have e:=JV (h.imp fun a z=>z.w);obtain⟨x,t,rfl,hx⟩:=AQ h;simp only[Aj,Av,or_false,not_or] at hx;have hz: ¬((t.length:Int)+1=0):=by omega
  simp[cV,hx,hz,e]
 | @wid ds h hn=>
  have e:=HS (L:=L) (h.imp fun a z=>z.p) hn;have hz: ¬((ds.length:Int)+1=0):=by omega
  simp[cV,hz,e]
 |wnum h hw=>simp[cV,HR h hL hw]
 |gather h hr=>simp[cV,JU h hL fun r z=>(hr r z).w]
 |shuf hp hq h hr=>simp[cV,EJ hp.p hq.p h hL hr]
 |lane hp h0 h1=>simp[cV,EI hp.p h0 h1]
noncomputable def WB:Kd->dL
 | .w=> .str "word"
 | .p=> .str "pack"
 | .n=> .non
theorem F1{L:Nat}{kds:List Kd}{row:dL}{k:Kd}(r:PR L kds row k):XV [row]=some (WB k,[]):=by
 cases r with
 | nar h => cases h with
  |two hx _ _=>
   simp only[Aj,Av,or_false] at hx;rcases hx with rfl|rfl|rfl|rfl|rfl|rfl|rfl<;>kernel_rfl
  |_=>kernel_rfl
 | wid h hn => cases h with
  |two hx _ _=>
   simp only[Aj,Av,or_false] at hx;rcases hx with rfl|rfl|rfl|rfl|rfl|rfl|rfl<;>kernel_rfl
  |_=>kernel_rfl
 |_=>kernel_rfl
@[simp] theorem zMC{x:Str}:HK .non (.str x)=false:=(rfl)
theorem zC9(k:Kd):Y9 (WB k) (.str "word")=some (.bl (decide (k= .w))):=by
 cases k
 ·simp[WB]
 ·simp[WB]
 ·simp[WB,Y9]
theorem zCA(k:Kd):Y9 (WB k) (.str "pack")=some (.bl (decide (k= .p))):=by
 cases k
 ·simp[WB]
 ·simp[WB]
 ·simp[WB,Y9]
theorem NM{L:Nat}(hL:L<=4)(a:dL): ∀{kds ai:List Kd} {rows:List dL} (h:SG L kds rows ai) (s t:Sl),kds.length+rows.length<1000-> ∃s' t',aD (gN 4) cO rows [.va a,.va (.int L),.ow (.lst ((Wb kds).map .bl)),.ow (.lst ((Pb kds).map .bl)),s,t]=
  some (.nx [.va a,.va (.int L),.ow (.lst ((Wb ai).map .bl)),.ow (.lst ((Pb ai).map .bl)),s',t'])
 |_,_,[],.nil,s,t,_=>⟨s,t,rfl⟩
 |kds,_,row::rows,.cons (k:=k) r h,s,t,hl=>by
  obtain⟨s',t',e⟩:=NM hL a h (.va row) (.va (WB k)) (by simp at hl⊢;omega);refine⟨s',t',?_⟩;have h1:kds.length<16777216:=by omega
  have w1:Wb (kds++[k])=Wb kds++[decide (k= .w)]:=by simp[Wb]
  have p1:Pb (kds++[k])=Pb kds++[decide (k= .p)]:=by simp[Pb]
  rw[w1,p1] at e;have lw:(Wb kds).length=kds.length:=by simp[Wb]
  have lp:(Pb kds).length=kds.length:=by simp[Pb]
  have pr:=OT r hL;simp only[Fh,Be,Fq] at e;have body:cO [.va a,.va (.int L),.ow (.lst ((Wb kds).map .bl)),.ow (.lst ((Pb kds).map .bl)),.va row,t]=some (.nx [.va a,.va (.int L),.ow (.lst ((Wb kds).map .bl++[.bl (decide (k= .w))])),.ow (.lst ((Pb kds).map .bl++[.bl (decide (k= .p))])),.va row,.va (WB k)]):=by simp[cO,pr,dL.hard,F1 r,zC9,zCA,lw,lp,h1]
  rw[X6,P2,TL];show qf2 _ _ _ (cO [.va a,.va (.int L),.ow (.lst ((Wb kds).map .bl)),.ow (.lst ((Pb kds).map .bl)),.va row,t])=_;rw[body,TM];exact e
theorem UG{L:Nat}{sure:Int}{rows:List dL}{kds:List Kd}(h:SG L [] rows kds)(hL2:2<=L)(hL:L<=4)(h0:0<=sure)(h1:sure<=64)(hr:rows.length<=400):bQ [.tup [.int L,.int sure,.tup rows]]=some (.bl true,[]):=by
 obtain⟨s',t',e⟩:=NM hL (.tup rows) h .no .no (by simp;omega);have e2:bT [.tup rows,.int L]=some (.bl true,[]):=by
  unfold bT;rw[c5,ZQ.eq_1];simp only[Wb,Pb,Fq] at e;simp[cV,e]
 have e3:ZB [.int L]=some (.bl true,[]):=by
  have a1:(2:Int)<=L:=by omega
  have a2:(L:Int)<=4:=by omega
  unfold ZB;rw[c5];unfold VY;simp[cV,XZ,XM,a1,a2]
 have h2: ¬(400:Int)<rows.length:=by omega
 unfold bQ;rw[c5];unfold XO;simp[cV,e3,WT,Z0,h0,h1,h2,e2]
def Wd(w:Int):Prop:=0<=w/\w<=999
theorem C3{a b:Int}(ha:Wd a)(hb:Wd b):0<=a*b/\a*b<=998001:=by
 obtain⟨a0,a1⟩:=ha;obtain⟨b0,b1⟩:=hb;exact⟨Int.mul_nonneg a0 b0,Int.le_trans (Int.mul_le_mul a1 b1 b0 (by decide)) (by decide)⟩
theorem EB{x:String}(hx:x∈["over","plus","minus","times","least","most","less"]) {a b:Int} (ha:Wd a) (hb:Wd b): ∃r,UR [.str x,.lst [.int a,.int b]]=some (r,[])/\(r= .non∨ ∃w,r= .int w/\Wd w):=by
 have ab:=C3 ha hb;obtain⟨a0,a1⟩:=ha;obtain⟨b0,b1⟩:=hb;have hc:JF a b=true:=by simp[JF];omega
 have hc2: -18446744073709551616<a/\a<18446744073709551616∨ -18446744073709551616<b/\b<18446744073709551616:=by omega
 unfold UR;rw[c5];unfold LS;simp only[Aj,Av,or_false] at hx;rcases hx with rfl|rfl|rfl|rfl|rfl|rfl|rfl
 ·by_cases h:b=0
  ·subst h
   have e:US [.int a,.int 0]=some (.non,[]):=by
    unfold US;rw[c5];unfold LW;simp[cV]
   exact⟨.non,by simp[cV,WL,bO,b5,WW,e,dL.hard],.inl rfl⟩
  ·have hp : 0 < b := by omega
   have hq:b<1073741824:=by omega
   have q0:0<=a/b:=Mk a0 (by omega);have q1:a/b<=a:=Int.ediv_le_self _ a0;have hr:a/b<9223372036854775808:=by omega
   have e:US [.int a,.int b]=some (.int (a/b),[]):=by
    unfold US;rw[c5];unfold LW;simp[cV,h,LF,hp,hq]
   exact⟨.int (a/b),by simp[cV,WL,bO,b5,WW,e,dL.hard],.inr ⟨_,rfl,q0,by omega⟩⟩
 ·have e:QK [.int a,.int b]=some (.int ((a+b) % 1000),[]):=by
   unfold QK;rw[c5];unfold HQ;simp[cV,bV]
  exact⟨.int ((a+b) % 1000),by simp[cV,WL,bO,b5,WW,e,dL.hard],.inr ⟨_,rfl,by omega,by omega⟩⟩
 ·have e:T3 [.int a,.int b]=some (.int ((a - b) % 1000),[]):=by
   unfold T3;rw[c5];unfold LV;simp[cV,bV]
  exact⟨.int ((a - b) % 1000),by simp[cV,WL,bO,b5,WW,e,dL.hard],.inr ⟨_,rfl,by omega,by omega⟩⟩
 ·have e:T4 [.int a,.int b]=some (.int (a*b % 1000),[]):=by
   unfold T4;rw[c5];unfold LX;simp[cV,bV,hc]
  exact⟨.int (a*b % 1000),by simp[cV,WL,bO,b5,WW,e,dL.hard],.inr ⟨_,rfl,by omega,by omega⟩⟩
 ·have e:T2 [.int a,.int b]=some (.int (if a<=b then a else b),[]):=by
   unfold T2;rw[c5];unfold LU;by_cases h:a<=b
   ·have h' : ¬ b < a := by omega
    simp[cV,h,h']
   ·have h' : b < a := by omega
    simp[cV,h,h']
  exact⟨.int (if a<=b then a else b),by simp[cV,WL,bO,b5,WW,e,dL.hard],.inr ⟨_,rfl,by split<;>omega,by split<;>omega⟩⟩
 ·have e:QI [.int a,.int b]=some (.int (if a<=b then b else a),[]):=by
   unfold QI;rw[c5];unfold HN;by_cases h:a<b
   ·have h' : a <= b := by omega
    simp[cV,h,h']
   ·by_cases h2:a=b
    ·subst h2
     simp[cV]
    ·have h' : ¬ a <= b := by omega
     simp[cV,h,h']
  exact⟨.int (if a<=b then b else a),by simp[cV,WL,bO,b5,WW,e,dL.hard],.inr ⟨_,rfl,by split<;>omega,by split<;>omega⟩⟩
 ·have e:QH [.int a,.int b]=some (.int (if a<b then 1 else 0),[]):=by
   unfold QH;rw[c5];unfold HL;by_cases h:a<b<;>simp[cV,h]
  exact⟨.int (if a<b then 1 else 0),by simp[cV,WL,bO,b5,WW,e,dL.hard],.inr ⟨_,rfl,by split<;>omega,by split<;>omega⟩⟩
theorem EY{c a b:Int}(ha:Wd a)(hb:Wd b): ∃w,Wd w/\UR [.str "pick",.lst [.int c,.int a,.int b]]=some (.int w,[]):=by
 have e:QJ [.int c,.int a,.int b]=some (.int (if c=0 then b else a),[]):=by
  unfold QJ;rw[c5];unfold HP;by_cases h:c=0<;>simp[cV,h]
 refine⟨if c=0 then b else a,by split<;>assumption,?_⟩;unfold UR;rw[c5];unfold LS;simp[cV,e,dL.hard]
noncomputable def JK:dL->Nat
 | .tup (.str x::_)=>if x= "number" ∨x= "load" then 0 else if x= "store" then 1 else if x= "pick" then 3 else 2
 |_=>0
noncomputable def GA(x:Str):Bool:=decide (x=Ar "load") || (decide (x=Ar "take") || (decide (x=Ar "store") || decide (x=Ar "put")))
noncomputable def YB:dL->List Int
 | .tup (.str x::t)=>if GA x=true then(WA (t.drop 1)).getD [] else if x=Ar "number" then[] else(WA t).getD []
 |_=>[]
noncomputable def P4(l:Int):dL->List dL
 | .tup (.str x:: .int p::_)=>if GA x=true then[.str x,.int (p+l)] else if x=Ar "number" then[.str x,.int p] else[.str x]
 |_=>[]
def aL(l:Int)(f:Int->Int)(row:dL):dL:= .tup (P4 l row++(YB row).map fun a=> .int (f a))
noncomputable def UN:dL->Option Int
 | .tup (.str x:: .int p::_)=>if GA x=true then some p else none
 |_=>none
theorem RY{x:String}(hx:x∈["over","plus","minus","times","least","most","less"]):GA (Ar x)=false:=by
 simp only[Aj,Av,or_false] at hx;rcases hx with rfl|rfl|rfl|rfl|rfl|rfl|rfl<;>decide+kernel
theorem KQ{l:Int}{f:Int->Int}{x:String}{a b:Int}(hx:x∈["over","plus","minus","times","least","most","less"]) (z: ¬x= "number"):YB (.tup [.str x,.int a,.int b])=[a,b]/\aL l f (.tup [.str x,.int a,.int b])= .tup [.str x,.int (f a),.int (f b)]:=by
 have:=RY hx;have en:YB (.tup [.str x,.int a,.int b])=[a,b]:=by simp[YB,this,b5,z,WA]
 refine⟨en,?_⟩;unfold aL;rw[en];simp[P4,this,b5,z]
theorem NL{l:Int}{f:Int->Int}{c a b:Int}:aL l f (.tup [.str "pick",.int c,.int a,.int b])= .tup [.str "pick",.int (f c),.int (f a),.int (f b)]:=by kernel_rfl
theorem Q1{l:Int}{f:Int->Int}{p:Int}:aL l f (.tup [.str "load",.int p])= .tup [.str "load",.int (p+l)]:=by kernel_rfl
theorem UP{l:Int}{f:Int->Int}{p c a:Int}:aL l f (.tup [.str "take",.int p,.int c,.int a])= .tup [.str "take",.int (p+l),.int (f c),.int (f a)]:=by kernel_rfl
theorem SY{l:Int}{f:Int->Int}{p a:Int}:aL l f (.tup [.str "store",.int p,.int a])= .tup [.str "store",.int (p+l),.int (f a)]:=by kernel_rfl
theorem R6{l:Int}{f:Int->Int}{p a c:Int}:aL l f (.tup [.str "put",.int p,.int a,.int c])= .tup [.str "put",.int (p+l),.int (f a),.int (f c)]:=by kernel_rfl
structure PrB(row:dL)(lane:Int)(ws cs:List Int)(m y:dL)(cs':List Int):Prop where
 prog:a9 [row,.lst (ws.map .int),.lst (cs.map .int),.int lane]=some (.tup [m,y],[.lst (cs'.map .int)])
 narr: ∀f,a9 [aL lane f row,.lst (ws.map .int),.lst (cs.map .int),.int 0]=some (.tup [m,y],[.lst (cs'.map .int)])
 len:cs'.length=cs.length
 ok: ∀c∈cs',Wd c
 why:y= .non∨ ∃s:String,y= .str s
 made:m= .non∨ ∃w,m= .int w/\Wd w
 word:y= .non->VJ .w row= .w-> ∃w,m= .int w/\Wd w
theorem FR{cs:List Int}{i:Int}(h0:0<=i)(h1:i<cs.length)(hc: ∀c∈cs,Wd c): ∃w,Wd w/\W4 (cs.map dL.int) i=some (.int w):=by
 obtain⟨w,hw,e⟩:=RP h0 h1;exact⟨w,hc w hw,e⟩
theorem JJ{cs:List Int}{i:Int}{w:Int}(h0:0<=i)(h1:i<cs.length)(hc: ∀c∈cs,Wd c)(hw:Wd w):JY cs.length i=some i.toNat/\(cs.map dL.int).set i.toNat (.int w)=(cs.set i.toNat w).map dL.int/\ ∀c∈cs.set i.toNat w,Wd c:=by
 refine⟨by unfold JY;rw[if_pos h0,if_pos h1],by rw[Hu],fun c h=> ?_⟩;rcases List.mem_or_eq_of_mem_set h with z|z
 ·exact hc c z
 ·rw[z];exact hw
@[simp] theorem zJ5{p:Int}{t:List dL}:bU [.tup (.str "load":: .int p::t)]=some (.int p,[]):=by unfold bU;rw[c5];unfold ZF;simp[cV,YO,bL]
@[simp] theorem zJ4{p:Int}{t:List dL}:bU [.tup (.str "take":: .int p::t)]=some (.int p,[]):=by unfold bU;rw[c5];unfold ZF;simp[cV,YO,bL]
@[simp] theorem zJ3{p:Int}{t:List dL}:bU [.tup (.str "store":: .int p::t)]=some (.int p,[]):=by unfold bU;rw[c5];unfold ZF;simp[cV,YO,bL]
@[simp] theorem zJ2{p:Int}{t:List dL}:bU [.tup (.str "put":: .int p::t)]=some (.int p,[]):=by unfold bU;rw[c5];unfold ZF;simp[cV,YO,bL]
@[simp] theorem zJ1{t:List dL}:bU [.tup (.str "pick"::t)]=some (.non,[]):=by unfold bU;rw[c5];unfold ZF;simp[cV,YO,bL]
theorem PJ{x:String}(hx:x∈["over","plus","minus","times","least","most","less"]) {y:String} (hy:(["over","plus","minus","times","least","most","less"].contains y)=false):(¬x=y)/\¬y=x:=by
 have h: ¬x=y:=fun e=>by
  subst e;rw[List.contains_iff_mem.mpr hx] at hy;cases hy
 exact⟨h,fun e=>h e.symm⟩
theorem zAO{x:String}(hx:x∈["over","plus","minus","times","least","most","less"]) {t:List dL}:bU [.tup (.str x::t)]=some (.non,[]):=by
 unfold bU;rw[c5];unfold ZF;have z1:=(PJ hx (y:= "load") (by decide)).2;have z2:=(PJ hx (y:= "take") (by decide)).2;have z3:=(PJ hx (y:= "store") (by decide)).2;have z4:=(PJ hx (y:= "put") (by decide)).2;simp[cV,YO,bL,z1,z2,z3,z4]
@[simp] theorem zMO{d:dL}:ZM [.str "load",d]=some (.bl true,[]):=by kernel_rfl
@[simp] theorem zMN{d:dL}:ZM [.str "store",d]=some (.bl true,[]):=by kernel_rfl
@[simp] theorem zMM{a:Int}{ds:List dL}:ZM [.str "take",.lst (.int a::ds)]=some (.bl (!decide (a=0)),[]):=by unfold ZM;rw[c5];unfold UE;simp[cV]
@[simp] theorem zML{a b:Int}{ds:List dL}:ZM [.str "put",.lst (.int a:: .int b::ds)]=some (.bl (!decide (b=0)),[]):=by unfold ZM;rw[c5];unfold UE;simp[cV]
theorem aT{x:String}{p lane:Int}{t ws cs:List dL}{r:dL×List dL}{c:dL}(hx:x= "load" ∨x= "take" ∨x= "store" ∨x= "put") (h:cQ [.str x,.int (p+lane),.lst ws,.lst cs]=some (r.1,[c])):a9 [.tup (.str x:: .int p::t),.lst ws,.lst cs,.int lane]=some (r.1,[c]):=by
 have hp:bU [.tup (.str x:: .int p::t)]=some (.int p,[]):=by rcases hx with rfl|rfl|rfl|rfl<;>simp
 have hn: ¬x= "number":=by rcases hx with rfl|rfl|rfl|rfl<;>decide
 unfold a9;rw[c5];unfold UX;simp[cV,h,hp,hn]
theorem E7{M:Int->Prop}{row:dL}(h:bB M row)(hn: ∀n,row≠ .tup [.str "number",.int n]) (ws cs:List Int) (lane:Int) (hl:0<=lane) (hw:ws.length=JK row) (hws: ∀w∈ws,Wd w) (hcs: ∀c∈cs,Wd c): ∃m y cs',PrB row lane ws cs m y cs':=by
 cases h with
 |number=>exact absurd rfl (hn _)
 | @two x a b hx _ _=>
  have hc:JK (.tup [.str x,.int a,.int b])=2:=by
   simp only[Aj,Av,or_false] at hx;rcases hx with rfl|rfl|rfl|rfl|rfl|rfl|rfl<;>kernel_rfl
  rw[hc] at hw;match ws,hw with
  |[u,v],_=>
   have hu:=hws u (by simp);have hv:=hws v (by simp);obtain⟨r,e2,e3⟩:=EB hx hu hv;have hpr: ∀a b lane:Int,a9 [.tup [.str x,.int a,.int b],.lst [.int u,.int v],.lst (cs.map .int),.int lane]=some (.tup [r,if isN r=true then .str "nought" else .non],[.lst (cs.map .int)]):=fun a b lane=>by
    have hp:=zAO hx (t:=[.int a,.int b]);unfold a9;rw[c5];unfold UX;have z1:=(PJ hx (y:= "number") (by decide)).1;rcases e3 with rfl|⟨w,rfl,_⟩<;>simp[cV,hp,e2,isN,z1]
   refine⟨r,if isN r=true then .str "nought" else .non,cs,hpr _ _ _,fun f=> ?_,rfl,hcs,?_,e3,fun hy _=> ?_⟩
   ·rw [(KQ hx (PJ hx (y := "number") (by decide)).1).2]
    exact hpr _ _ _
   ·rcases e3 with rfl|⟨w,rfl,_⟩
    ·exact .inr ⟨"nought",by simp[isN]⟩
    ·exact .inl (by simp[isN])
   ·rcases e3 with rfl|h
    ·simp[isN] at hy
    ·exact h
 | @pick c a b _ _ _=>
  have hc:JK (.tup [.str "pick",.int c,.int a,.int b])=3:=by kernel_rfl
  rw[hc] at hw;match ws,hw with
  |[u,v,z],_=>
   obtain⟨w,h1,e2⟩:=EY (c:=u) (hws v (by simp)) (hws z (by simp));have hpr: ∀c a b lane:Int,a9 [.tup [.str "pick",.int c,.int a,.int b],.lst [.int u,.int v,.int z],.lst (cs.map .int),.int lane]=some (.tup [.int w,.non],[.lst (cs.map .int)]):=fun c a b lane=>by
    unfold a9;rw[c5];unfold UX;simp[cV,e2]
   exact⟨.int w,.non,cs,hpr _ _ _ _,fun f=>by rw[NL];exact hpr _ _ _ _,rfl,hcs,.inl rfl,.inr ⟨w,rfl,h1⟩,fun _ _=>⟨w,rfl,h1⟩⟩
 | @load p p0 p1=>
  have hc:JK (.tup [.str "load",.int p])=0:=by kernel_rfl
  rw[hc] at hw;match ws,hw with
  |[],_=>
   by_cases hb:(cs.length:Int)<=p+lane
   ·refine ⟨.non,.str "beyond",cs,?_,?_,rfl,hcs,.inr ⟨_,rfl⟩,.inl rfl,fun z => nomatch z⟩
    ·refine aT (r := (_,[])) (by simp) ?_
     unfold cQ;rw[c5];unfold cN;simp[cV,hb]
    ·intro f
     rw[Q1];refine aT (p:=p+lane) (lane:=0) (r:=(_,[])) (by simp) ?_;rw[El];unfold cQ;rw[c5];unfold cN;simp[cV,hb]
   ·obtain ⟨w,h1,e⟩ := FR (i := p + lane) (by omega) (by omega) hcs
    refine⟨.int w,.non,cs,?_,?_,rfl,hcs,.inl rfl,.inr ⟨w,rfl,h1⟩,fun _ _=>⟨w,rfl,h1⟩⟩
    ·refine aT (r := (_,[])) (by simp) ?_
     unfold cQ;rw[c5];unfold cN;simp[cV,hb,e,bL]
    ·intro f
     rw[Q1];refine aT (p:=p+lane) (lane:=0) (r:=(_,[])) (by simp) ?_;rw[El];unfold cQ;rw[c5];unfold cN;simp[cV,hb,e,bL]
 | @take p c a p0 p1 _ _=>
  have hc:JK (.tup [.str "take",.int p,.int c,.int a])=2:=by kernel_rfl
  rw[hc] at hw;match ws,hw with
  |[u,v],_=>
   have hv:=hws v (by simp);by_cases hu:u=0
   ·refine ⟨.int v,.non,cs,?_,?_,rfl,hcs,.inl rfl,.inr ⟨v,rfl,hv⟩,fun _ _ => ⟨v,rfl,hv⟩⟩
    ·refine aT (r := (_,[])) (by simp) ?_
     unfold cQ;rw[c5];unfold cN;simp[cV,hu]
    ·intro f
     rw[UP];refine aT (p:=p+lane) (lane:=0) (r:=(_,[])) (by simp) ?_;rw[El];unfold cQ;rw[c5];unfold cN;simp[cV,hu]
   ·by_cases hb:(cs.length:Int)<=p+lane
    ·refine ⟨.non,.str "beyond",cs,?_,?_,rfl,hcs,.inr ⟨_,rfl⟩,.inl rfl,fun z => nomatch z⟩
     ·refine aT (r := (_,[])) (by simp) ?_
      unfold cQ;rw[c5];unfold cN;simp[cV,hu,hb]
     ·intro f
      rw[UP];refine aT (p:=p+lane) (lane:=0) (r:=(_,[])) (by simp) ?_;rw[El];unfold cQ;rw[c5];unfold cN;simp[cV,hu,hb]
    ·obtain ⟨w,h1,e⟩ := FR (i := p + lane) (by omega) (by omega) hcs
     refine⟨.int w,.non,cs,?_,?_,rfl,hcs,.inl rfl,.inr ⟨w,rfl,h1⟩,fun _ _=>⟨w,rfl,h1⟩⟩
     ·refine aT (r := (_,[])) (by simp) ?_
      unfold cQ;rw[c5];unfold cN;simp[cV,hu,hb,e,bL]
     ·intro f
      rw[UP];refine aT (p:=p+lane) (lane:=0) (r:=(_,[])) (by simp) ?_;rw[El];unfold cQ;rw[c5];unfold cN;simp[cV,hu,hb,e,bL]
 | @store p a p0 p1 _=>
  have hc:JK (.tup [.str "store",.int p,.int a])=1:=by kernel_rfl
  rw[hc] at hw;match ws,hw with
  |[u],_=>
   have hu:=hws u (by simp);by_cases hb:(cs.length:Int)<=p+lane
   ·refine ⟨.non,.str "beyond",cs,?_,?_,rfl,hcs,.inr ⟨_,rfl⟩,.inl rfl,fun z => nomatch z⟩
    ·refine aT (r := (_,[])) (by simp) ?_
     unfold cQ;rw[c5];unfold cN;simp[cV,hb]
    ·intro f
     rw[SY];refine aT (p:=p+lane) (lane:=0) (r:=(_,[])) (by simp) ?_;rw[El];unfold cQ;rw[c5];unfold cN;simp[cV,hb]
   ·obtain ⟨e1,e2,e3⟩ := JJ (i := p + lane) (by omega) (by omega) hcs hu
    refine⟨.non,.non,cs.set (p+lane).toNat u,?_,?_,by simp,e3,.inl rfl,.inl rfl,fun _ z=>by simp[VJ,b5] at z⟩
    ·refine aT (r := (_,[])) (by simp) ?_
     unfold cQ;rw[c5];unfold cN;simp[cV,hb,e1,Hu,bL]
    ·intro f
     rw[SY];refine aT (p:=p+lane) (lane:=0) (r:=(_,[])) (by simp) ?_;rw[El];unfold cQ;rw[c5];unfold cN;simp[cV,hb,e1,Hu,bL]
 | @put p a c p0 p1 _ _=>
  have hc:JK (.tup [.str "put",.int p,.int a,.int c])=2:=by kernel_rfl
  rw[hc] at hw;match ws,hw with
  |[u,v],_=>
   have hu:=hws u (by simp);by_cases hv:v=0
   ·refine ⟨.non,.non,cs,?_,?_,rfl,hcs,.inl rfl,.inl rfl,fun _ z => by simp [VJ,b5] at z⟩
    ·refine aT (r := (_,[])) (by simp) ?_
     unfold cQ;rw[c5];unfold cN;simp[cV,hv]
    ·intro f
     rw[R6];refine aT (p:=p+lane) (lane:=0) (r:=(_,[])) (by simp) ?_;rw[El];unfold cQ;rw[c5];unfold cN;simp[cV,hv]
   ·by_cases hb:(cs.length:Int)<=p+lane
    ·refine ⟨.non,.str "beyond",cs,?_,?_,rfl,hcs,.inr ⟨_,rfl⟩,.inl rfl,fun z => nomatch z⟩
     ·refine aT (r := (_,[])) (by simp) ?_
      unfold cQ;rw[c5];unfold cN;simp[cV,hv,hb]
     ·intro f
      rw[R6];refine aT (p:=p+lane) (lane:=0) (r:=(_,[])) (by simp) ?_;rw[El];unfold cQ;rw[c5];unfold cN;simp[cV,hv,hb]
    ·obtain ⟨e1,e2,e3⟩ := JJ (i := p + lane) (by omega) (by omega) hcs hu
     refine⟨.non,.non,cs.set (p+lane).toNat u,?_,?_,by simp,e3,.inl rfl,.inl rfl,fun _ z=>by simp[VJ,b5] at z⟩
     ·refine aT (r := (_,[])) (by simp) ?_
      unfold cQ;rw[c5];unfold cN;simp[cV,hv,hb,e1,Hu,bL]
     ·intro f
      rw[R6];refine aT (p:=p+lane) (lane:=0) (r:=(_,[])) (by simp) ?_;rw[El];unfold cQ;rw[c5];unfold cN;simp[cV,hv,hb,e1,Hu,bL]
theorem HX{n:Int}{lane:Int}{ds:List dL}{cs:List dL}:a9 [.tup [.str "number",.int n],.lst ds,.lst cs,.int lane]=some (.tup [.int n,.non],[.lst cs]):=by kernel_rfl
abbrev Wh:=Int×Option Int
noncomputable def K8(k:Wh):List Ky:=[some (.inl k.1),k.2.map .inl]
noncomputable def ZK:Option Int->dL
 |none=> .non
 |some l=> .int l
theorem MN{a b:Wh}(h:K8 a=K8 b):a=b:=by
 obtain⟨n,l⟩:=a;obtain⟨m,k⟩:=b;unfold K8 at h;simp only[Jp,Option.some.injEq,Sum.inl.injEq,and_true] at h;obtain⟨h1,h2⟩:=h;subst h1;cases l<;>cases k<;>simp at h2
 ·rfl
 ·rw[h2]
theorem AY(n:Int)(l:Option Int):EM [.int n,ZK l]=some (K8 (n,l)):=by cases l<;>rfl
def bW(hs:List (Wh×Int))(k:Wh):Option Int:=(hs.find? fun p=>decide (p.1=k)).map (·.2)
def Q9(hs:List (Wh×Int)):dL:= .dcn (hs.map fun p=>K8 p.1) (hs.map fun p=> .int p.2)
theorem J2(k:Wh): ∀hs:List (Wh×Int),OL (hs.map fun p=>K8 p.1) (hs.map fun p=> .int p.2) (K8 k)=(bW hs k).map .int
 |[]=>rfl
 | p :: hs => by
  have ih:=J2 k hs;unfold bW at ih⊢;simp only[Be,OL,Dh];by_cases e:p.1=k
  ·rw[e];simp
  ·have e2 : ¬ K8 p.1 = K8 k := fun z => e (MN z)
   rw[if_neg e2,ih,decide_eq_false e]
theorem KO{k:List Ky}{v:dL}: ∀{ks:List (List Ky)} {ds:List dL},ks.length=ds.length->k∉ks->N7 ks ds k v=(ks++[k],ds++[v])
 |[],[],_,_=>rfl
 |k'::ks,d::ds,hl,hn=>by
  have h1: ¬k'=k:=fun e=>hn (by rw[e];exact Ax);have ih:=KO (k:=k) (v:=v) (ks:=ks) (ds:=ds) (by simpa using hl) fun h=>hn (Am _ h);simp[N7,h1,ih]
theorem RU{hs gs:List (Wh×Int)}{k:Wh}{a:Int}(h:bW hs k=some a):bW (hs++gs) k=some a:=by
 unfold bW at h⊢;rw[Gu];cases e:hs.find? fun p=>decide (p.1=k) with
 |none=>rw[e] at h;cases h
 |some p=>rw[e] at h;exact h
theorem A2{hs gs:List (Wh×Int)}{k:Wh}(h: ∀p∈hs,p.1≠k):bW (hs++gs) k=bW gs k:=by
 unfold bW;rw[Gu,Hv.mpr fun p hp=>by simpa using h p hp];rfl
theorem zFX{hs:List (Wh×Int)}{n:Int}{l:Option Int}{a:Int}(h: ∀p∈hs,p.1≠(n,l)):(let r:=N7 (hs.map fun p=>K8 p.1) (hs.map fun p=>dL.int p.2) (K8 (n,l)) (.int a);dL.dcn r.1 r.2)=Q9 (hs++[((n,l),a)]):=by
 rw[KO (by simp) fun z=>by
  obtain⟨p,hp,e⟩:=Ay.mp z;exact h p hp (MN e)]
 simp[Q9]
def VQ(hs:List (Wh×Int)):Prop:=(hs.map (·.1)).Nodup
theorem VQ.keys{hs:List (Wh×Int)}(h:VQ hs):(hs.map fun p=>K8 p.1).Nodup:=by
 have:(hs.map fun p=>K8 p.1)=(hs.map (·.1)).map K8:=by rw[Dw];rfl
 rw[this];exact Gv.mpr (h.imp fun z e=>z (MN e))
theorem VQ.snoc{hs:List (Wh×Int)}{k:Wh}{a:Int}(h:VQ hs)(hn: ∀p∈hs,p.1≠k):VQ (hs++[(k,a)]):=by
 unfold VQ at h⊢;rw[Fh,Gw];refine⟨h,by simp,fun x hx y hy=> ?_⟩;obtain⟨p,hp,rfl⟩:=Ay.mp hx;simp at hy;rw[hy];exact hn p hp
theorem JZ{i:Nat}{fs:Q8}{δ δ1:Ev}{hs:List (Wh×Int)}{n a:Int}{l:Option Int}(h0: ∃gs,δ[i]? =some (.ow (Q9 gs)))(h1:fs δ=some ([.int n,ZK l],δ1))(h2:δ1[i]? =some (.ow (Q9 hs)))(h3:bW hs (n,l)=some a):P1 i fs δ=some (.int a,δ1):=by
 obtain⟨gs,h0⟩:=h0;have o0:SX δ i=some (gs.map (fun p=>K8 p.1),gs.map fun p=> .int p.2):=by unfold SX;rw[h0];rfl
 have o1:SX δ1 i=some (hs.map (fun p=>K8 p.1),hs.map fun p=> .int p.2):=by unfold SX;rw[h2];rfl
 unfold P1;rw[o0,Ap,h1,Ap];simp only[Bg,Eu];rw[if_pos (by decide),AY,Ap,o1,Ap,J2,h3];rfl
theorem RK{i:Nat}{fs:Q8}{fv:VF}{δ δ1 δ2:Ev}{hs:List (Wh×Int)}{n a:Int}{l:Option Int}(h0:fv δ=some (.int a,δ1))(g0: ∃gs,δ1[i]? =some (.ow (Q9 gs)))(h1:fs δ1=some ([.int n,ZK l],δ2))(h2:δ2[i]? =some (.ow (Q9 hs)))(ho:VQ hs)(hz:hs.length<16777216)(hn: ∀p∈hs,p.1≠(n,l)):XB i fs fv δ=some (.nx (δ2.set i (.ow (Q9 (hs++[((n,l),a)]))))):=by
 obtain⟨gs,g0⟩:=g0;have o0:SX δ1 i=some (gs.map (fun p=>K8 p.1),gs.map fun p=> .int p.2):=by unfold SX;rw[g0];rfl
 have o1:SX δ2 i=some (hs.map (fun p=>K8 p.1),hs.map fun p=> .int p.2):=by unfold SX;rw[h2];rfl
 unfold XB;rw[h0,Ap,o0,Ap,h1,Ap];simp only[Bg,Eu];rw[if_pos (by decide),AY,Ap,o1,Ap,if_pos ⟨by simpa using hz,ho.keys⟩];rw[zFX hn]
structure Sh(M:Int->Prop)(l:Int)(f:Int->Int)(row:dL):Prop where
 nmr:aI [row]=some (.lst ((YB row).map .int),[])
 nml:ZC [row]=some (.lst ((YB row).map .int),[])
 nms:aI [aL l f row]=some (.lst (((YB row).map f).map .int),[])
 mem: ∀a∈YB row,M a
 cntq:(YB row).length=JK row
 mkq: ∀k,VJ k (aL l f row)=VJ k row
 pl:UN (aL l f row)=(UN row).map (· +l)
 ok: ∀M':Int->Prop,(∀a∈YB row,M' (f a))->(∀p,UN row=some p->0<=p+l/\p+l<=63)->bB M' (aL l f row)
 bad: ∀(able:List Bool) (p:Int),(∀a∈YB row,Ab able (f a))->UN row=some p->63<p+l->Z7 [aL l f row,.lst (able.map .bl)]=some (.bl false,[])
 pl0: ∀p,UN row=some p->0<=p/\p<=63
theorem AL{d:dL}{a:Int}(h':63<a):X2 [.str "place",.int a,d]=some (.bl false,[]):=by
 have h2: ¬a<=63:=by lia
 unfold X2;rw[c5];unfold QQ;simp[cV,XN,h2]
theorem UH{x:String}{p:Int}{as:List Int}{able:List Bool}(hx:(x= "load" /\as.length=0)∨(x= "take" /\as.length=2)∨(x= "store" /\as.length=1)∨(x= "put" /\as.length=2)) (hp:63<p) (ha: ∀a∈as,Ab able a):Z7 [.tup (.str x:: .int p::as.map .int),.lst (able.map .bl)]=some (.bl false,[]):=by
 have fb:=AL (d:= .lst (able.map .bl)) hp;have fr: ∀a∈as,X2 [.str "row",.int a,.lst (able.map .bl)]=some (.bl true,[]):=fun a h=>ZE (ha a h);unfold Z7;rw[c5];unfold RL;generalize able.map dL.bl=B at*;rcases hx with⟨rfl,h⟩|⟨rfl,h⟩|⟨rfl,h⟩|⟨rfl,h⟩
 ·match as,h with
  |[],_=>simp[cV,bM,fb]
 ·match as,h,fr with
  |[a,b],_,fr=>
   have f1:=fr a (by simp);have f2:=fr b (by simp);simp[cV,bM,fb,f1,f2]
 ·match as,h,fr with
  |[a],_,fr=>
   have f1:=fr a (by simp);simp[cV,bM,fb,f1]
 ·match as,h,fr with
  |[a,b],_,fr=>
   have f1:=fr a (by simp);have f2:=fr b (by simp);simp[cV,bM,fb,f1,f2]
theorem TQ{M:Int->Prop}{row:dL}(h:bB M row)(l:Int)(f:Int->Int):Sh M l f row:=by
 cases h with
 | @number n h0 h1=>
  have e:aL l f (.tup [.str "number",.int n])= .tup [.str "number",.int n]:=by kernel_rfl
  have en:YB (.tup [.str "number",.int n])=[]:=by kernel_rfl
  have ep:UN (.tup [.str "number",.int n])=none:=by kernel_rfl
  refine⟨by kernel_rfl,by kernel_rfl,by kernel_rfl,by rw[en];simp,by kernel_rfl,fun k=>by rw[e],by rw[e,ep];rfl,fun M' _ _=>by rw[e];exact .number h0 h1,fun able p _ z=>(by rw[ep] at z;cases z),fun p z=>(by rw[ep] at z;cases z)⟩
 | @two x a b hx ha hb=>
  have en:YB (.tup [.str x,.int a,.int b])=[a,b]:=by
   have:=RY hx;have z:=(PJ hx (y:= "number") (by decide)).1;simp[YB,this,b5,z,WA]
  have e:aL l f (.tup [.str x,.int a,.int b])= .tup [.str x,.int (f a),.int (f b)]:=by
   have:=RY hx;have z:=(PJ hx (y:= "number") (by decide)).1;unfold aL;rw[en];simp[P4,this,b5,z]
  have ep: ∀u v:Int,UN (.tup [.str x,.int u,.int v])=none:=fun u v=>by simp[UN,RY hx]
  have nm: ∀u v:Int,aI [.tup [.str x,.int u,.int v]]=some (.lst [.int u,.int v],[])/\ZC [.tup [.str x,.int u,.int v]]=some (.lst [.int u,.int v],[]):=fun u v=>by
   simp only[Aj,Av,or_false] at hx;rcases hx with rfl|rfl|rfl|rfl|rfl|rfl|rfl<;>exact⟨by kernel_rfl,by kernel_rfl⟩
  refine⟨by rw[en];exact(nm a b).1,by rw[en];exact(nm a b).2,by rw[en,e];exact(nm _ _).1,by rw[en];simp[ha,hb],?_,fun k=>by rw[e];rfl,by rw[e,ep,ep];rfl,fun M' hm _=> ?_,fun able p _ z=>(by rw[ep] at z;cases z),fun p z=>(by rw[ep] at z;cases z)⟩
  ·rw[en]
   simp only[Aj,Av,or_false] at hx;rcases hx with rfl|rfl|rfl|rfl|rfl|rfl|rfl<;>kernel_rfl
  ·rw[e]
   rw[en] at hm;exact .two hx (hm a (by simp)) (hm b (by simp))
 | @pick c a b hc ha hb=>
  have e:aL l f (.tup [.str "pick",.int c,.int a,.int b])= .tup [.str "pick",.int (f c),.int (f a),.int (f b)]:=by kernel_rfl
  have en:YB (.tup [.str "pick",.int c,.int a,.int b])=[c,a,b]:=by kernel_rfl
  have ep:UN (.tup [.str "pick",.int c,.int a,.int b])=none:=by kernel_rfl
  refine⟨by kernel_rfl,by kernel_rfl,by kernel_rfl,by rw[en];simp[hc,ha,hb],by kernel_rfl,fun k=>by rw[e];rfl,by kernel_rfl,fun M' hm _=> ?_,fun able p _ z=>(by rw[ep] at z;cases z),fun p z=>(by rw[ep] at z;cases z)⟩
  ·rw[e]
   rw[en] at hm;exact .pick (hm c (by simp)) (hm a (by simp)) (hm b (by simp))
 | @load p h0 h1=>
  have e:aL l f (.tup [.str "load",.int p])= .tup [.str "load",.int (p+l)]:=by kernel_rfl
  have en:YB (.tup [.str "load",.int p])=[]:=by kernel_rfl
  have ep:UN (.tup [.str "load",.int p])=some p:=by kernel_rfl
  refine⟨by kernel_rfl,by kernel_rfl,by kernel_rfl,by rw[en];simp,by kernel_rfl,fun k=>by rw[e];rfl,by kernel_rfl,fun M' _ hp=> ?_,fun able q hm z hq=> ?_,fun q z=>by rw[ep] at z;cases z;exact⟨h0,h1⟩⟩
  ·rw[e]
   exact .load (hp p ep).1 (hp p ep).2
  ·rw[ep] at z;cases z
   rw[e];exact UH (as:=[]) (.inl ⟨rfl,rfl⟩) hq (by simp)
 | @take p c a h0 h1 hc ha=>
  have e:aL l f (.tup [.str "take",.int p,.int c,.int a])= .tup [.str "take",.int (p+l),.int (f c),.int (f a)]:=by kernel_rfl
  have en:YB (.tup [.str "take",.int p,.int c,.int a])=[c,a]:=by kernel_rfl
  have ep:UN (.tup [.str "take",.int p,.int c,.int a])=some p:=by kernel_rfl
  refine⟨by kernel_rfl,by kernel_rfl,by kernel_rfl,by rw[en];simp[hc,ha],by kernel_rfl,fun k=>by rw[e];rfl,by kernel_rfl,fun M' hm hp=> ?_,fun able q hm z hq=> ?_,fun q z=>by rw[ep] at z;cases z;exact⟨h0,h1⟩⟩
  ·rw[e]
   rw[en] at hm;exact .take (hp p ep).1 (hp p ep).2 (hm c (by simp)) (hm a (by simp))
  ·rw[ep] at z;cases z
   rw[e];rw[en] at hm;exact UH (as:=[f c,f a]) (.inr (.inl ⟨rfl,rfl⟩)) hq (by simpa using hm)
 | @store p a h0 h1 ha=>
  have e:aL l f (.tup [.str "store",.int p,.int a])= .tup [.str "store",.int (p+l),.int (f a)]:=by kernel_rfl
  have en:YB (.tup [.str "store",.int p,.int a])=[a]:=by kernel_rfl
  have ep:UN (.tup [.str "store",.int p,.int a])=some p:=by kernel_rfl
  refine⟨by kernel_rfl,by kernel_rfl,by kernel_rfl,by rw[en];simp[ha],by kernel_rfl,fun k=>by rw[e];rfl,by kernel_rfl,fun M' hm hp=> ?_,fun able q hm z hq=> ?_,fun q z=>by rw[ep] at z;cases z;exact⟨h0,h1⟩⟩
  ·rw[e]
   rw[en] at hm;exact .store (hp p ep).1 (hp p ep).2 (hm a (by simp))
  ·rw[ep] at z;cases z
   rw[e];rw[en] at hm;exact UH (as:=[f a]) (.inr (.inr (.inl ⟨rfl,rfl⟩))) hq (by simpa using hm)
 | @put p a c h0 h1 ha hc=>
  have e:aL l f (.tup [.str "put",.int p,.int a,.int c])= .tup [.str "put",.int (p+l),.int (f a),.int (f c)]:=by kernel_rfl
  have en:YB (.tup [.str "put",.int p,.int a,.int c])=[a,c]:=by kernel_rfl
  have ep:UN (.tup [.str "put",.int p,.int a,.int c])=some p:=by kernel_rfl
  refine⟨by kernel_rfl,by kernel_rfl,by kernel_rfl,by rw[en];simp[ha,hc],by kernel_rfl,fun k=>by rw[e];rfl,by kernel_rfl,fun M' hm hp=> ?_,fun able q hm z hq=> ?_,fun q z=>by rw[ep] at z;cases z;exact⟨h0,h1⟩⟩
  ·rw[e]
   rw[en] at hm;exact .put (hp p ep).1 (hp p ep).2 (hm a (by simp)) (hm c (by simp))
  ·rw[ep] at z;cases z
   rw[e];rw[en] at hm;exact UH (as:=[f a,f c]) (.inr (.inr (.inr ⟨rfl,rfl⟩))) hq (by simpa using hm)
def TC(bs:List (Int×Wh)):dL:= .dct (bs.map fun p=> .inl p.1) (bs.map fun p=> .tup [.int p.2.1,ZK p.2.2])
theorem KN{k:YY}{v:dL}: ∀{ks:List YY} {ds:List dL},ks.length=ds.length->k∉ks->Y2 ks ds k v=(ks++[k],ds++[v])
 |[],[],_,_=>rfl
 |k'::ks,d::ds,hl,hn=>by
  have h1: ¬k'=k:=fun e=>hn (by rw[e];exact Ax);have ih:=KN (k:=k) (v:=v) (ks:=ks) (ds:=ds) (by simpa using hl) fun h=>hn (Am _ h);simp[Y2,h1,ih]
def Bk(bs:List (Int×Wh))(m:Nat):Prop:=(bs.map (·.1)).Nodup/\ ∀p∈bs,p.1<m
theorem Bk.snoc{bs:List (Int×Wh)}{m:Nat}{k:Wh}(h:Bk bs m):Bk (bs++[((m:Int),k)]) (m+1):=by
 refine⟨?_,fun p hp=> ?_⟩
 ·rw[Fh,Gw]
  refine⟨h.1,by simp,fun x hx y hy=> ?_⟩;obtain⟨p,hp,rfl⟩:=Ay.mp hx;have:=h.2 p hp;simp at hy;lia
 ·rcases Bi.mp hp with hp|hp
  ·have:=h.2 p hp;lia
  ·simp at hp;rw[hp];simp;lia
theorem Bk.keys{bs:List (Int×Wh)}{m:Nat}(h:Bk bs m):(bs.map fun p=>(.inl p.1:YY)).Nodup:=by
 have:(bs.map fun p=>(.inl p.1:YY))=(bs.map (·.1)).map Kf:=by rw[Dw];rfl
 rw[this];exact Gv.mpr (h.1.imp fun z e=>z (by injection e))
theorem zGA{bs:List (Int×Wh)}{m:Nat}{n:Int}{l:Option Int}(h:Bk bs m):(let r:=Y2 (bs.map fun p=>(.inl p.1:YY)) (bs.map fun p=>dL.tup [.int p.2.1,ZK p.2.2]) (.inl (m:Int)) (.tup [.int n,ZK l]);dL.dct r.1 r.2)=TC (bs++[((m:Int),(n,l))]):=by
 rw[KN (by simp) fun z=>by
  obtain⟨p,hp,e⟩:=Ay.mp z;have:=h.2 p hp;injection e with e;lia]
 simp[TC]
noncomputable def ZN(pg:dL)(L sure:Int)(rws:dL)(M:List dL)(hs:List (Wh×Int))(bs:List (Int×Wh))(n:Int)(row:dL)(s9 s10 s11 s12 s13:Sl):Ev:=
 [.va pg,.va (.int L),.va (.int sure),.va rws,.ow (.lst M),.ow (Q9 hs),.ow (TC bs),.va (.int n),.va row,s9,s10,s11,s12,s13]
structure Rdy(n:Int)(hs0 hs:List (Wh×Int))(bs:List (Int×Wh))(m:Nat)(lane:Option Int):Prop where
 once:VQ hs
 new: ∀p∈hs,p.1≠(n,lane)
 ext: ∃gs,hs=hs0++gs
 sz:hs.length<10000
 mz:m<10000
 bk:Bk bs m
 bz:bs.length<10000
noncomputable def alc(n:Int):List (Option Int)->Nat->List (Wh×Int)
 |[],_=>[]
 |l::ls,k=>((n,l),(k:Int))::alc n ls (k+1)
noncomputable def W2(n:Int):List (Option Int)->Nat->List (Int×Wh)
 |[],_=>[]
 |l::ls,k=>((k:Int),(n,l))::W2 n ls (k+1)
section
variable{pg:dL}{L sure:Int}{rws:dL}{n:Int}{row:dL}
theorem A3(Pl:Option Int->Prop)(g:VS)(b:Bool)(r:Option Int->dL)(hs0:List (Wh×Int))(s11:Sl)(hg: ∀(lane:Option Int) (M:List dL) (hs:List (Wh×Int)) (bs:List (Int×Wh)) (s10 s12 s13:Sl),Rdy n hs0 hs bs M.length lane->Pl lane→
  ∃t10 t12 t13,g (ZN pg L sure rws M hs bs n row (.va (ZK lane)) s10 s11 s12 s13)=some (.nx (ZN pg L sure rws (M++[r lane]) (hs++[((n,lane),(M.length:Int))]) (bs++if b=true then[((M.length:Int),(n,lane))] else[]) n row (.va (ZK lane)) t10 s11 t12 t13))):
  ∀(ls:List (Option Int)),ls.Nodup->(∀lane∈ls,Pl lane)-> ∀(M:List dL) (hs:List (Wh×Int)) (bs:List (Int×Wh)) (s9 s10 s12 s13:Sl),VQ hs->(∀lane∈ls,∀p∈hs,p.1≠(n,lane))->(∃gs,hs=hs0++gs)->hs.length+ls.length<10000->M.length+ls.length<10000->Bk bs M.length->bs.length+ls.length<10000→
   ∃t9 t10 t12 t13,aD (gN 9) g (ls.map ZK) (ZN pg L sure rws M hs bs n row s9 s10 s11 s12 s13)=some (.nx (ZN pg L sure rws (M++ls.map r) (hs++alc n ls M.length) (bs++if b=true then W2 n ls M.length else[]) n row t9 t10 s11 t12 t13))
 |[],_,_,M,hs,bs,s9,s10,s12,s13,_,_,_,_,_,_,_=>⟨s9,s10,s12,s13,by cases b<;>simp[alc,W2]⟩
 | l :: ls,nd,hl,M,hs,bs,s9,s10,s12,s13,h1,h2,h3,h4,h5,h6,h7 => by
  simp only[Bg] at h4 h5 h7;obtain⟨nd1,nd2⟩:=Cb.mp nd;obtain⟨t10,t12,t13,e⟩:=hg l M hs bs s10 s12 s13 ⟨h1,h2 l Ax,h3,by lia,by lia,h6,by lia⟩ (hl l Ax);have hb':Bk (bs++if b=true then[((M.length:Int),(n,l))] else[]) (M++[r l]).length:=by
   rw[Br];cases b with
   |true=>exact h6.snoc
   |false=>
    simp only[Ff,if_false,Ca];exact⟨h6.1,fun p hp=>by have:=h6.2 p hp;simp;lia⟩
  obtain⟨u9,u10,u12,u13,ih⟩:=A3 Pl g b r hs0 s11 hg ls nd2 (fun x hx=>hl x (Am _ hx)) (M++[r l]) (hs++[((n,l),(M.length:Int))]) (bs++if b=true then[((M.length:Int),(n,l))] else[]) (.va (ZK l)) t10 t12 t13 (h1.snoc (h2 l Ax)) (fun x hx p hp=>by
    rcases Bi.mp hp with hp|hp
    ·exact h2 x (Am _ hx) p hp
    ·simp at hp
     rw[hp];intro z;simp at z;exact nd1 (z▸hx)) (by obtain⟨gs,e⟩:=h3;exact⟨gs++[((n,l),(M.length:Int))],by rw[e,Bl]⟩) (by simp;lia) (by simp;lia) hb' (by cases b<;>simp<;>lia)
  refine⟨u9,u10,u12,u13,?_⟩;rw[Be,X6,P2,TL,show(ZN pg L sure rws M hs bs n row s9 s10 s11 s12 s13).set 9 (.va (ZK l))=ZN pg L sure rws M hs bs n row (.va (ZK l)) s10 s11 s12 s13 from rfl,e,TM,ih];have e1:(M++[r l])++ls.map r=M++(l::ls).map r:=by simp
  have e2:(hs++[((n,l),(M.length:Int))])++alc n ls (M++[r l]).length=hs++alc n (l::ls) M.length:=by simp[alc]
  have e3:(bs++if b=true then[((M.length:Int),(n,l))] else[])++(if b=true then W2 n ls (M++[r l]).length else[])=bs++if b=true then W2 n (l::ls) M.length else[]:=by cases b<;>simp[W2]
  rw[e1,e2,e3]
theorem A5(g:VS)(r:Option Int->Int)(hs0:List (Wh×Int))(M:List dL)(bs:List (Int×Wh))(s11:Sl)(hg: ∀(lane:Option Int) (hs:List (Wh×Int)) (s10 s12 s13:Sl),VQ hs->(∀p∈hs,p.1≠(n,lane))->(∃gs,hs=hs0++gs)->hs.length<10000->(∃l:Int,lane=some l/\0<=l/\l<L)→
  ∃t10 t12 t13,g (ZN pg L sure rws M hs bs n row (.va (ZK lane)) s10 s11 s12 s13)=some (.nx (ZN pg L sure rws M (hs++[((n,lane),r lane)]) bs n row (.va (ZK lane)) t10 s11 t12 t13))):
  ∀(ls:List (Option Int)),ls.Nodup->(∀lane∈ls,∃l:Int,lane=some l/\0<=l/\l<L)-> ∀(hs:List (Wh×Int)) (s9 s10 s12 s13:Sl),VQ hs->(∀lane∈ls,∀p∈hs,p.1≠(n,lane))->(∃gs,hs=hs0++gs)->hs.length+ls.length<10000→
   ∃t9 t10 t12 t13,aD (gN 9) g (ls.map ZK) (ZN pg L sure rws M hs bs n row s9 s10 s11 s12 s13)=some (.nx (ZN pg L sure rws M (hs++ls.map fun l=>((n,l),r l)) bs n row t9 t10 s11 t12 t13))
 |[],_,_,hs,s9,s10,s12,s13,_,_,_,_=>⟨s9,s10,s12,s13,by simp⟩
 | l :: ls,nd,hl,hs,s9,s10,s12,s13,h1,h2,h3,h4 => by
  simp only[Bg] at h4;obtain⟨nd1,nd2⟩:=Cb.mp nd;obtain⟨t10,t12,t13,e⟩:=hg l hs s10 s12 s13 h1 (h2 l Ax) h3 (by lia) (hl l Ax);obtain⟨u9,u10,u12,u13,ih⟩:=A5 g r hs0 M bs s11 hg ls nd2 (fun x hx=>hl x (Am _ hx)) (hs++[((n,l),r l)]) (.va (ZK l)) t10 t12 t13 (h1.snoc (h2 l Ax)) (fun x hx p hp=>by
    rcases Bi.mp hp with hp|hp
    ·exact h2 x (Am _ hx) p hp
    ·simp at hp
     rw[hp];intro z;simp at z;exact nd1 (z▸hx)) (by obtain⟨gs,e⟩:=h3;exact⟨gs++[((n,l),r l)],by rw[e,Bl]⟩) (by simp;lia)
  refine⟨u9,u10,u12,u13,?_⟩;rw[Be,X6,P2,TL,show(ZN pg L sure rws M hs bs n row s9 s10 s11 s12 s13).set 9 (.va (ZK l))=ZN pg L sure rws M hs bs n row (.va (ZK l)) s10 s11 s12 s13 from rfl,e,TM,ih];have e2:(hs++[((n,l),r l)])++ls.map (fun l=>((n,l),r l))=hs++(l::ls).map fun l=>((n,l),r l):=by simp
  rw[e2]
end
@[simp] theorem zO0{neg:Bool}{a b c d e f:String}:YC neg (.str (Ar a)) (.tup [.str (Ar b),.str (Ar c),.str (Ar d),.str (Ar e),.str (Ar f)])=some (.bl (if neg then !(decide (b=a) || (decide (c=a) || (decide (d=a) || (decide (e=a) || decide (f=a))))) else decide (b=a) || (decide (c=a) || (decide (d=a) || (decide (e=a) || decide (f=a)))))):=by
 rw[KA (j:=0) bX (cF (bX (k:=0)) (cF bX (cF bX (cF bX (cF bX Y7)))))];simp
theorem K0{s1 s2:VS}{δ δ1:Ev}(h:s1 δ=some (.nx δ1)):cR s1 s2 δ=s2 δ1:=by rw[zDP,h,qS_n]
def hv(hs:List (Wh×Int))(k:Wh):Int:=(bW hs k).getD 0
theorem zII{hs:List (Wh×Int)}{k:Wh}{a:Int}(h:bW hs k=some a):hv hs k=a:=by unfold hv;rw[h];rfl
theorem V1{hs0 hs:List (Wh×Int)}(he: ∃gs,hs=hs0++gs){k:Wh}(h: ∃a,bW hs0 k=some a):bW hs k=some (hv hs0 k):=by
 obtain⟨gs,rfl⟩:=he;obtain⟨a,h⟩:=h;rw[zII h];exact RU h
section
variable{pg:dL}{L:Nat}{sure:Int}{rws:dL}{n:Int}{row:dL}
theorem zB4{ws:List Int}(hw:ws.length=L)(hs0:List (Wh×Int))(s11:Sl)(lane:Option Int)(M:List dL)(hs:List (Wh×Int))(bs:List (Int×Wh))(s10 s12 s13:Sl)(R:Rdy n hs0 hs bs M.length lane)(hl: ∃l:Int,lane=some l/\0<=l/\l<L):
  ∃t10 t12 t13,ZV (ZN pg L sure rws M hs bs n (.tup [.str "wide",.str "number",.tup (ws.map .int)]) (.va (ZK lane)) s10 s11 s12 s13)=some (.nx (ZN pg L sure rws (M++[.tup [.str "number",(W4 (ws.map dL.int) (lane.getD 0)).getD .non]]) (hs++[((n,lane),(M.length:Int))]) bs n (.tup [.str "wide",.str "number",.tup (ws.map .int)]) (.va (ZK lane)) t10 s11 t12 t13)):=by
 obtain⟨l,rfl,h0,h1⟩:=hl;obtain⟨w,_,e⟩:=RP (ns:=ws) h0 (by lia);refine⟨s10,s12,s13,?_⟩;unfold ZV;have s1:=RK (i:=5) (fs:=dH (fV 7) (dH (fV 9) cK)) (fv:=f1 ZH (fO 4)) (δ:=ZN pg L sure rws M hs bs n (.tup [.str "wide",.str "number",.tup (ws.map .int)]) (.va (ZK (some l))) s10 s11 s12 s13) (hs:=hs) (n:=n) (a:=M.length) (l:=some l) (δ1:=ZN pg L sure rws M hs bs n (.tup [.str "wide",.str "number",.tup (ws.map .int)]) (.va (ZK (some l))) s10 s11 s12 s13) (δ2:=ZN pg L sure rws M hs bs n (.tup [.str "wide",.str "number",.tup (ws.map .int)]) (.va (ZK (some l))) s10 s11 s12 s13) rfl ⟨hs,rfl⟩ rfl rfl R.once (by have:=R.sz;lia) R.new;rw[K0 s1];have hM:M.length<16777216:=by have:=R.mz;lia
 unfold ZN ZK;generalize Q9 (hs++[((n,some l),(M.length:Int))])=HM at*;generalize TC bs=BK at*;generalize ws.map dL.int=W at*;simp[e,hM]
theorem zB6{rs:List Int}(hr:rs.length=L)(hs0:List (Wh×Int))(hk: ∀r∈rs,∃a,bW hs0 (r,none)=some a)(M:List dL)(bs:List (Int×Wh))(s11:Sl)(lane:Option Int)(hs:List (Wh×Int))(s10 s12 s13:Sl)(ho:VQ hs)(hn: ∀p∈hs,p.1≠(n,lane))(he: ∃gs,hs=hs0++gs)(hz:hs.length<10000)(hl: ∃l:Int,lane=some l/\0<=l/\l<L):
  ∃t10 t12 t13,ZW (ZN pg L sure rws M hs bs n (.tup [.str "gather",.tup (rs.map .int)]) (.va (ZK lane)) s10 s11 s12 s13)=some (.nx (ZN pg L sure rws M (hs++[((n,lane),hv hs0 (rs.getD (lane.getD 0).toNat 0,none))]) bs n (.tup [.str "gather",.tup (rs.map .int)]) (.va (ZK lane)) t10 s11 t12 t13)):=by
 obtain⟨l,rfl,h0,h1⟩:=hl;have hlt:l.toNat<rs.length:=by lia
 have e:W4 (rs.map dL.int) l=some (.int (rs.getD l.toNat 0)):=by rw[XQ h0 (by simp;lia)];simp[hlt]
 have hk:=V1 he (hk (rs.getD l.toNat 0) (by simp[hlt]));refine⟨s10,s12,s13,?_⟩;unfold ZW;refine RK (i:=5) (hs:=hs) (n:=n) (l:=some l) (δ1:=ZN pg L sure rws M hs bs n (.tup [.str "gather",.tup (rs.map .int)]) (.va (ZK (some l))) s10 s11 s12 s13) (δ2:=ZN pg L sure rws M hs bs n (.tup [.str "gather",.tup (rs.map .int)]) (.va (ZK (some l))) s10 s11 s12 s13) ?_ ⟨hs,rfl⟩ rfl rfl ho (by lia) hn;refine JZ (hs:=hs) (n:=rs.getD l.toNat 0) (l:=none) ⟨hs,rfl⟩ ?_ rfl hk;unfold ZN ZK;generalize Q9 hs=HM at*;generalize TC bs=BK at*;generalize rs.map dL.int=W at*;generalize rs.getD l.toNat 0=rr at*;simp[e]
noncomputable def shO(L:Nat)(p q:Int)(ps:List Int)(l:Option Int):Wh:=let x:=ps.getD (l.getD 0).toNat 0;if x<L then(p,some x) else(q,some (x - L))
theorem zB3{p q:Int}{ps:List Int}(hr:ps.length=L)(hL:2<=L)(hL4:L<=4)(hx: ∀x∈ps,0<=x/\x<2*L)(hs0:List (Wh×Int))(hp: ∀k:Int,0<=k->k<L-> ∃a,bW hs0 (p,some k)=some a)(hq: ∀k:Int,0<=k->k<L-> ∃a,bW hs0 (q,some k)=some a)(M:List dL)(bs:List (Int×Wh))(s11:Sl)(lane:Option Int)(hs:List (Wh×Int))(s10 s12 s13:Sl)(ho:VQ hs)(hn: ∀p∈hs,p.1≠(n,lane))(he: ∃gs,hs=hs0++gs)(hz:hs.length<10000)(hl: ∃l:Int,lane=some l/\0<=l/\l<L):
  ∃t10 t12 t13,ZX (ZN pg L sure rws M hs bs n (.tup [.str "shuffle",.int p,.int q,.tup (ps.map .int)]) (.va (ZK lane)) s10 s11 s12 s13)=some (.nx (ZN pg L sure rws M (hs++[((n,lane),hv hs0 (shO L p q ps lane))]) bs n (.tup [.str "shuffle",.int p,.int q,.tup (ps.map .int)]) (.va (ZK lane)) t10 s11 t12 t13)):=by
 obtain⟨l,rfl,h0,h1⟩:=hl;have hlt:l.toNat<ps.length:=by lia
 have e:W4 (ps.map dL.int) l=some (.int (ps.getD l.toNat 0)):=by rw[XQ h0 (by simp;lia)];simp[hlt]
 obtain⟨x0,x1⟩:=hx (ps.getD l.toNat 0) (by simp[hlt]);have ew:shO L p q ps (some l)=if ps.getD l.toNat 0<(L:Int) then(p,some (ps.getD l.toNat 0)) else(q,some (ps.getD l.toNat 0 - L)):=rfl
 refine⟨.va (.int (ps.getD l.toNat 0)),s12,s13,?_⟩;have s1:Z2 10 (xV (f2 cT (f2 cT (fV 8) (fC (.int 3))) (fV 9))) (ZN pg L sure rws M hs bs n (.tup [.str "shuffle",.int p,.int q,.tup (ps.map .int)]) (.va (ZK (some l))) s10 s11 s12 s13)=some (.nx (ZN pg L sure rws M hs bs n (.tup [.str "shuffle",.int p,.int q,.tup (ps.map .int)]) (.va (ZK (some l))) (.va (.int (ps.getD l.toNat 0))) s11 s12 s13)):=by
  unfold ZN ZK;generalize Q9 hs=HM at*;generalize TC bs=BK at*;generalize ps.map dL.int=W at*;generalize ps.getD l.toNat 0=x at*;simp[e]
 unfold ZX;rw[K0 s1];refine RK (i:=5) (hs:=hs) (n:=n) (l:=some l) (δ1:=ZN pg L sure rws M hs bs n (.tup [.str "shuffle",.int p,.int q,.tup (ps.map .int)]) (.va (ZK (some l))) (.va (.int (ps.getD l.toNat 0))) s11 s12 s13) (δ2:=ZN pg L sure rws M hs bs n (.tup [.str "shuffle",.int p,.int q,.tup (ps.map .int)]) (.va (ZK (some l))) (.va (.int (ps.getD l.toNat 0))) s11 s12 s13) ?_ ⟨hs,rfl⟩ rfl rfl ho (by lia) hn;have hL0:(0:Int)<L:=by lia
 have hLb:(L:Int)<1073741824:=by lia
 rw[ew];generalize ps.getD l.toNat 0=x at*;by_cases hxl:x<(L:Int)
 ·rw[if_pos hxl]
  refine JZ (hs:=hs) (n:=p) (l:=some x) ⟨hs,rfl⟩ ?_ rfl (V1 he (hp x x0 hxl));have d0:QE (.int x) (.int (L:Int))=some (.int 0):=by
   show(if LF x L=true then some (dL.int (x/(L:Int))) else none)=_;rw[if_pos (by simp[LF,hLb];lia),Iy x0 hxl]
  have m0:RX (.int x) (.int (L:Int))=some (.int x):=by
   show(if decide (0<(L:Int))=true then some (dL.int (x % (L:Int))) else none)=_;rw[if_pos (by simpa using hL0),Lg x0 hxl]
  unfold ZN ZK;generalize Q9 hs=HM at*;generalize TC bs=BK at*;generalize ps.map dL.int=W at*;generalize (L:Int)=LL at*;simp[-oI_e,d0,m0]
 ·rw[if_neg hxl]
  refine JZ (hs:=hs) (n:=q) (l:=some (x - L)) ⟨hs,rfl⟩ ?_ rfl (V1 he (hq (x - L) (by lia) (by lia)));have d0:QE (.int x) (.int (L:Int))=some (.int 1):=by
   show(if LF x L=true then some (dL.int (x/(L:Int))) else none)=_;rw[if_pos (by simp[LF,hLb];lia),show x=(x - L)+1*L by lia,Int.add_mul_ediv_right _ _ (by lia),Iy (by lia) (by lia)];rfl
  have m0:RX (.int x) (.int (L:Int))=some (.int (x - L)):=by
   show(if decide (0<(L:Int))=true then some (dL.int (x % (L:Int))) else none)=_;rw[if_pos (by simpa using hL0),<- Int.sub_emod_right,Lg (by lia) (by lia)]
  unfold ZN ZK;generalize Q9 hs=HM at*;generalize TC bs=BK at*;generalize ps.map dL.int=W at*;generalize (L:Int)=LL at*;simp[-oI_e,d0,m0]
theorem zB5{p k:Int}(hs:List (Wh×Int))(hp: ∃a,bW hs (p,some k)=some a)(M:List dL)(bs:List (Int×Wh))(s9 s10 s11 s12 s13:Sl)(ho:VQ hs)(hn: ∀p∈hs,p.1≠(n,none))(hz:hs.length<10000):
  XB 5 (dH (fV 7) (dH (fC .non) cK)) (P1 5 (dH (f2 cT (fV 8) (fC (.int 1))) (dH (f2 cT (fV 8) (fC (.int 2))) cK))) (ZN pg L sure rws M hs bs n (.tup [.str "lane",.int p,.int k]) s9 s10 s11 s12 s13)=some (.nx (ZN pg L sure rws M (hs++[((n,none),hv hs (p,some k))]) bs n (.tup [.str "lane",.int p,.int k]) s9 s10 s11 s12 s13)):=by
 refine RK (i:=5) (hs:=hs) (n:=n) (l:=none) (δ1:=ZN pg L sure rws M hs bs n (.tup [.str "lane",.int p,.int k]) s9 s10 s11 s12 s13) (δ2:=ZN pg L sure rws M hs bs n (.tup [.str "lane",.int p,.int k]) s9 s10 s11 s12 s13) ?_ ⟨hs,rfl⟩ rfl rfl ho (by lia) hn;refine JZ (hs:=hs) (n:=p) (l:=some k) ⟨hs,rfl⟩ ?_ rfl (V1 ⟨[],by simp⟩ hp);unfold ZN ZK;generalize Q9 hs=HM at*;generalize TC bs=BK at*;simp
theorem zBE{M0:Int->Prop}{inner:dL}(h:bB M0 inner)(lane:Option Int)(M:List dL)(hs:List (Wh×Int))(bs:List (Int×Wh))(s10 s12 s13:Sl)(rest:VS):
  (cR (Z2 13 (xV (OF (fB (f2 (YC false) (f2 cT (fV 11) (fC (.int 0))) (aZ (dH (fC (.str "load")) (dH (fC (.str "take")) (dH (fC (.str "store")) (dH (fC (.str "put")) (dH (fC (.str "number")) cK)))))))) (JP (fV 11) IA (KC (fC (.int 2)))) (JP (fV 11) IA (KC (fC (.int 1)))))))
   (cR (Y0 (JE (fB (f2 Y9 (f1 ZH (fV 13)) (fC (.int 2)))) (fB (f2 L6 (f2 cT (fV 11) (fC (.int 0))) (fC (.str "number")))))
   (Z2 13 (xV (aZ (dH (f2 cT (fV 11) (fC (.int 0))) (dH (f2 Z9 (f2 cT (fV 11) (fC (.int 1))) (OF (fB (f2 WD (fV 9) (fC .non))) (fV 9) (fC (.int 0)))) cK)))))
   a6) rest)) (ZN pg L sure rws M hs bs n row (.va (ZK lane)) s10 (.va inner) s12 s13)=rest (ZN pg L sure rws M hs bs n row (.va (ZK lane)) s10 (.va inner) s12 (.va (.tup (P4 (lane.getD 0) inner)))):=by
 unfold ZN;generalize Q9 hs=HM;generalize TC bs=BK;have nn: ∀l:Int,WD (.int l) .non=some (.bl true):=fun _=>rfl;have nz:WD .non .non=some (.bl false):=rfl;cases h with
 |number _ _=>cases lane<;>simp[ZK,P4,GA,b5]
 |two hx _ _=>
  have z0:=RY hx;have z1:=(PJ hx (y:= "load") (by decide)).2;have z2:=(PJ hx (y:= "take") (by decide)).2;have z3:=(PJ hx (y:= "store") (by decide)).2;have z4:=(PJ hx (y:= "put") (by decide)).2;have z5:=(PJ hx (y:= "number") (by decide));cases lane<;>simp[ZK,P4,z0,z1,z2,z3,z4,z5.1,z5.2,b5]
 |pick _ _ _=>cases lane<;>simp[ZK,P4,GA,b5]
 |load _ _=>cases lane<;>simp[ZK,P4,GA,b5,nn,nz]
 |take _ _ _ _=>cases lane<;>simp[ZK,P4,GA,b5,nn,nz]
 |store _ _ _=>cases lane<;>simp[ZK,P4,GA,b5,nn,nz]
 |put _ _ _ _=>cases lane<;>simp[ZK,P4,GA,b5,nn,nz]
end
theorem zG2{i:Nat}{fk fv:VF}{δ δ1 δ2:Ev}{bs:List (Int×Wh)}{m:Nat}{n:Int}{l:Option Int}(h0:fv δ=some (.tup [.int n,ZK l],δ1))(g0:δ1[i]? =some (.ow (TC bs)))(h1:fk δ1=some (.int (m:Int),δ2))(h2:δ2[i]? =some (.ow (TC bs)))(hb:Bk bs m)(hz:bs.length<16777216):OY i fk fv δ=some (.nx (δ2.set i (.ow (TC (bs++[((m:Int),(n,l))]))))):=by
 have o0:YF δ1 i=some (bs.map (fun p=>(.inl p.1:YY)),bs.map fun p=> .tup [.int p.2.1,ZK p.2.2]):=by unfold YF;rw[g0];rfl
 have o1:YF δ2 i=some (bs.map (fun p=>(.inl p.1:YY)),bs.map fun p=> .tup [.int p.2.1,ZK p.2.2]):=by unfold YF;rw[h2];rfl
 unfold OY;rw[h0,Ap,o0,Ap,h1,Ap];show((V2 (.int (m:Int))).bind fun k=>_)=_;rw[show V2 (.int (m:Int))=some (.inl (m:Int)) from rfl,Ap,o1,Ap,if_pos ⟨by simpa using hz,hb.keys⟩];rw[zGA hb]
section
variable{pg:dL}{L:Nat}{sure:Int}{rws:dL}{n:Int}{row:dL}
theorem F7{M0:Int->Prop}{inner:dL}(h:bB M0 inner)(hs0:List (Wh×Int))(lane:Option Int)(hk: ∀a∈YB inner,∃b,bW hs0 (a,lane)=some b)(M:List dL)(hs:List (Wh×Int))(bs:List (Int×Wh))(s10 s12 s13:Sl)(R:Rdy n hs0 hs bs M.length lane):
  ∃t10 t12 t13,aK (ZN pg L sure rws M hs bs n row (.va (ZK lane)) s10 (.va inner) s12 s13)=some (.nx (ZN pg L sure rws (M++[aL (lane.getD 0) (fun a=>hv hs0 (a,lane)) inner]) (hs++[((n,lane),(M.length:Int))]) (bs++[((M.length:Int),(n,lane))]) n row (.va (ZK lane)) t10 (.va inner) t12 t13)):=by
 have S:=TQ h 0 id;have hnl:=S.nml;have hcn:(YB inner).length<=3:=by
  rw[S.cntq];unfold JK;split<;>(try split)<;>(try split)<;>(try split)<;>lia
 have hcl:((YB inner).map dL.int).length<16777216:=by simp;lia
 have c:=YE 2 (P1 0 (dH (fV 2) (dH (fV 1) cK))) [.ow (Q9 hs),.va (ZK lane)] (fun d=>match d with| .int a=> .int (hv hs0 (a,lane))|_=> .non) rfl ((YB inner).map .int) [] (fun d hd=>by
  obtain⟨a,ha,rfl⟩:=Ay.mp hd;exact JZ (hs:=hs) (n:=a) (l:=lane) ⟨hs,rfl⟩ rfl rfl (V1 R.ext (hk a ha))) (by simpa using hcl)
 rw[Co,Dw] at c;have ec:(YB inner).map ((fun d=>match d with|dL.int a=>dL.int (hv hs0 (a,lane))|_=> .non)∘dL.int)=(YB inner).map fun a=> .int (hv hs0 (a,lane)):=rfl;rw[ec] at c;have s1:Z2 12 (xV (f1 WR (ZI [5,9] 1 (T0 (cZ 1 [] ZC (aE (fV 11) cI))) (gN 2) X5 (P1 0 (dH (fV 2) (dH (fV 1) cK)))))) (ZN pg L sure rws M hs bs n row (.va (ZK lane)) s10 (.va inner) s12 s13)=some (.nx (ZN pg L sure rws M hs bs n row (.va (ZK lane)) s10 (.va inner) (.va (.tup ((YB inner).map fun a=> .int (hv hs0 (a,lane))))) s13)):=by
  unfold ZN;generalize (YB inner).map (fun a=>dL.int (hv hs0 (a,lane)))=A at*;generalize (YB inner).map dL.int=A0 at*;generalize Q9 hs=HM at*;generalize TC bs=BK at*;generalize ZK lane=ld at*;simp[bM,hnl,c]
 refine⟨s10,.va (.tup ((YB inner).map fun a=> .int (hv hs0 (a,lane)))),.va (.tup (P4 (lane.getD 0) inner)),?_⟩;unfold aK;rw[K0 s1,zBE h];have s3:=RK (i:=5) (fs:=dH (fV 7) (dH (fV 9) cK)) (fv:=f1 ZH (fO 4)) (δ:=ZN pg L sure rws M hs bs n row (.va (ZK lane)) s10 (.va inner) (.va (.tup ((YB inner).map fun a=> .int (hv hs0 (a,lane))))) (.va (.tup (P4 (lane.getD 0) inner)))) (hs:=hs) (n:=n) (a:=M.length) (l:=lane) (δ1:=ZN pg L sure rws M hs bs n row (.va (ZK lane)) s10 (.va inner) (.va (.tup ((YB inner).map fun a=> .int (hv hs0 (a,lane))))) (.va (.tup (P4 (lane.getD 0) inner)))) (δ2:=ZN pg L sure rws M hs bs n row (.va (ZK lane)) s10 (.va inner) (.va (.tup ((YB inner).map fun a=> .int (hv hs0 (a,lane))))) (.va (.tup (P4 (lane.getD 0) inner)))) rfl ⟨hs,rfl⟩ rfl rfl R.once (by have:=R.sz;lia) R.new;rw[K0 s3];have s4:=zG2 (i:=6) (fk:=f1 ZH (fO 4)) (fv:=aZ (dH (fV 7) (dH (fV 9) cK))) (δ:=ZN pg L sure rws M (hs++[((n,lane),(M.length:Int))]) bs n row (.va (ZK lane)) s10 (.va inner) (.va (.tup ((YB inner).map fun a=> .int (hv hs0 (a,lane))))) (.va (.tup (P4 (lane.getD 0) inner)))) (bs:=bs) (m:=M.length) (n:=n) (l:=lane) (δ1:=ZN pg L sure rws M (hs++[((n,lane),(M.length:Int))]) bs n row (.va (ZK lane)) s10 (.va inner) (.va (.tup ((YB inner).map fun a=> .int (hv hs0 (a,lane))))) (.va (.tup (P4 (lane.getD 0) inner)))) (δ2:=ZN pg L sure rws M (hs++[((n,lane),(M.length:Int))]) bs n row (.va (ZK lane)) s10 (.va inner) (.va (.tup ((YB inner).map fun a=> .int (hv hs0 (a,lane))))) (.va (.tup (P4 (lane.getD 0) inner)))) (by kernel_rfl) rfl rfl rfl R.bk (by have:=R.bz;lia);rw[show(ZN pg L sure rws M hs bs n row (.va (ZK lane)) s10 (.va inner) (.va (.tup ((YB inner).map fun a=> .int (hv hs0 (a,lane))))) (.va (.tup (P4 (lane.getD 0) inner)))).set 5 (.ow (Q9 (hs++[((n,lane),(M.length:Int))])))=ZN pg L sure rws M (hs++[((n,lane),(M.length:Int))]) bs n row (.va (ZK lane)) s10 (.va inner) (.va (.tup ((YB inner).map fun a=> .int (hv hs0 (a,lane))))) (.va (.tup (P4 (lane.getD 0) inner))) from rfl,K0 s4];have hM:M.length<16777216:=by have:=R.mz;lia
 have hh:(P4 (lane.getD 0) inner).length<=2:=by
  unfold P4;split<;>(try split)<;>(try split)<;>simp
 have hpl:Z9 (.tup (P4 (lane.getD 0) inner)) (.tup ((YB inner).map fun a=> .int (hv hs0 (a,lane))))=some (aL (lane.getD 0) (fun a=>hv hs0 (a,lane)) inner):=by
  rw[zB0,if_pos (by simp;lia)];rfl
 unfold ZN;generalize aL (lane.getD 0) (fun a=>hv hs0 (a,lane)) inner=RS at*;generalize (YB inner).map (fun a=>dL.int (hv hs0 (a,lane)))=A at*;generalize P4 (lane.getD 0) inner=HD at*;generalize Q9 (hs++[((n,lane),(M.length:Int))])=HM at*;generalize TC (bs++[((M.length:Int),(n,lane))])=BK at*;generalize TC bs=BK0 at*;simp[hpl,hM]
end
def V0(hm:Wh->Option Int)(k:Wh):Int:=(hm k).getD 0
inductive RB(L:Nat)(hm:Wh->Option Int)(bk:Int->Option Wh):List Kd->List dL->Nat->List dL->Prop
 |nil {kds:List Kd} {a:Nat}:RB L hm bk kds [] a []
 |nar {kds:List Kd} {row:dL} {rows:List dL} {a:Nat} {M:List dL}:bB (Nm kds .w) row->hm (kds.length,none)=some a->bk a=some ((kds.length:Int),none)->RB L hm bk (kds++[VJ .w row]) rows (a+1) M->RB L hm bk kds (row::rows) a (aL 0 (fun x=>V0 hm (x,none)) row::M)
 |wid {kds:List Kd} {ds:List dL} {rows:List dL} {a:Nat} {M:List dL}:bB (Nm kds .p) (.tup ds)->(∀n,ds≠[.str "number",.int n])->(∀l:Nat,l<L->hm (kds.length,some l)=some ((a+l:Nat):Int)/\bk ((a+l:Nat):Int)=some ((kds.length:Int),some (l:Int)))->RB L hm bk (kds++[VJ .p (.tup ds)]) rows (a+L) M→
   RB L hm bk kds (.tup (.str "wide"::ds)::rows) a ((Bt L).map (fun l:Nat=>aL l (fun x=>V0 hm (x,some (l:Int))) (.tup ds))++M)
 |wnum {kds:List Kd} {ws:List Int} {rows:List dL} {a:Nat} {M:List dL}:ws.length=L->(∀w∈ws,0<=w/\w<=999)->(∀l:Nat,l<L->hm (kds.length,some l)=some ((a+l:Nat):Int))->RB L hm bk (kds++[.p]) rows (a+L) M→
   RB L hm bk kds (.tup [.str "wide",.str "number",.tup (ws.map .int)]::rows) a (ws.map (fun w=> .tup [.str "number",.int w])++M)
 |gather {kds:List Kd} {rs:List Int} {rows:List dL} {a:Nat} {M:List dL}:rs.length=L->(∀r∈rs,Nm kds .w r)->(∀l:Nat,l<L->hm (kds.length,some l)=hm (rs.getD l 0,none))->RB L hm bk (kds++[.p]) rows a M->RB L hm bk kds (.tup [.str "gather",.tup (rs.map .int)]::rows) a M
 |shuf {kds:List Kd} {p q:Int} {ps:List Int} {rows:List dL} {a:Nat} {M:List dL}:Nm kds .p p->Nm kds .p q->ps.length=L->(∀x∈ps,0<=x/\x<2*L)->(∀l:Nat,l<L->hm (kds.length,some l)=hm (shO L p q ps (some l)))->RB L hm bk (kds++[.p]) rows a M->RB L hm bk kds (.tup [.str "shuffle",.int p,.int q,.tup (ps.map .int)]::rows) a M
 |lane {kds:List Kd} {p k:Int} {rows:List dL} {a:Nat} {M:List dL}:Nm kds .p p->0<=k->k<L->hm (kds.length,none)=hm (p,some k)->RB L hm bk (kds++[.w]) rows a M->RB L hm bk kds (.tup [.str "lane",.int p,.int k]::rows) a M
theorem OX{l:Int}{f g:Int->Int}{row:dL}(h: ∀a∈YB row,f a=g a):aL l f row=aL l g row:=by
 unfold aL;congr 2;exact Dq fun a ha=>by rw[h a ha]
def OK(bs:List (Int×Wh))(k:Int):Option Wh:=(bs.find? fun p=>decide (p.1=k)).map (·.2)
theorem zB9{bs cs:List (Int×Wh)}{k:Int}{a:Wh}(h:OK bs k=some a):OK (bs++cs) k=some a:=by
 unfold OK at h⊢;rw[Gu];cases e:bs.find? fun p=>decide (p.1=k) with
 |none=>rw[e] at h;cases h
 |some p=>rw[e] at h;exact h
theorem zB8{bs cs:List (Int×Wh)}{k:Int}(h: ∀p∈bs,p.1≠k):OK (bs++cs) k=OK cs k:=by
 unfold OK;rw[Gu,Hv.mpr fun p hp=>by simpa using h p hp];rfl
theorem RG{n:Int}: ∀(ls:List (Option Int)) (m i:Nat) (l:Option Int),ls.Nodup->ls[i]? =some l->bW (alc n ls m) (n,l)=some ((m+i:Nat):Int)
 |[],_,_,_,_,e=>by simp at e
 |l'::ls,m,0,l,_,e=>by
  simp at e;subst e;simp[bW,alc]
 |l'::ls,m,i+1,l,nd,e=>by
  obtain⟨n1,n2⟩:=Cb.mp nd;have e:ls[i]? =some l:=by simpa using e
  have hne: ¬l'=l:=fun z=>n1 (z▸Di e);have ih:=RG (n:=n) ls (m+1) i l n2 e;have mx: ¬((n,l'):Wh)=(n,l):=fun z=>hne (by injection z);unfold bW at ih⊢;simp only[alc,Dh,decide_eq_false mx];rw[ih];congr 2;lia
theorem PD{n:Int}: ∀(ls:List (Option Int)) (m:Nat),(alc n ls m).map (·.1)=ls.map fun l=>(n,l)
 |[],_=>rfl
 |l::ls,m=>by simp[alc,PD ls]
theorem JC{n:Int}: ∀(ls:List (Option Int)) (m:Nat),(W2 n ls m).length=ls.length
 |[],_=>rfl
 |l::ls,m=>by simp[W2,JC ls]
theorem RF{n:Int}: ∀(ls:List (Option Int)) (m:Nat),∀p∈W2 n ls m,(m:Int)<=p.1/\p.1<(m+ls.length:Nat)
 |[],_,p,h=>by simp[W2] at h
 | l :: ls,m,p,h => by
  rcases Aj.mp h with rfl|h
  ·simp
   lia
  ·have:=RF ls (m+1) p h
   simp;lia
theorem MS{n:Int}: ∀(ls:List (Option Int)) (m i:Nat) (l:Option Int),ls[i]? =some l->OK (W2 n ls m) ((m+i:Nat):Int)=some (n,l)
 |[],_,_,_,e=>by simp at e
 |l'::ls,m,0,l,e=>by
  simp at e;subst e;simp[OK,W2]
 |l'::ls,m,i+1,l,e=>by
  have ih:=MS (n:=n) ls (m+1) i l (by simpa using e);have hne: ¬(m:Int)=((m+(i+1):Nat):Int):=by lia
  unfold OK at ih⊢;simp only[W2,Dh,decide_eq_false hne];rw[<- ih];congr 2;funext p;congr 2;lia
theorem FO{n:Int}: ∀(ls:List (Option Int)) (m:Nat),((W2 n ls m).map (·.1)).Nodup
 |[],_=>by simp[W2]
 |l::ls,m=>by
  rw[W2,Be,Cb];refine⟨fun h=> ?_,FO ls (m+1)⟩;obtain⟨p,hp,e⟩:=Ay.mp h;have:=RF ls (m+1) p hp;lia
theorem PF{n:Int}{r:Option Int->Int}: ∀{ls:List (Option Int)} {l:Option Int},l∈ls->bW (ls.map fun l=>((n,l),r l)) (n,l)=some (r l)
 | l' :: ls,l,h => by
  by_cases e:l'=l
  ·subst e
   simp[bW]
  ·have ih:=PF (n:=n) (r:=r) (ls:=ls) (l:=l) (by
    rcases Aj.mp h with z|z
    ·exact absurd z.symm e
    ·exact z)
   have e2: ¬((n,l'):Wh)=(n,l):=fun z=>e (by injection z);unfold bW at ih⊢;simp only[Be,Dh,decide_eq_false e2];exact ih
theorem BF{hs gs:List (Wh×Int)}{n:Int}{ls:List (Option Int)}(h:VQ hs)(ho: ∀p∈hs,p.1.1<n)(hg:gs.map (·.1)=ls.map fun l=>(n,l))(nd:ls.Nodup):VQ (hs++gs):=by
 unfold VQ at h⊢;rw[Fh,hg,Gw];refine⟨h,Gv.mpr (nd.imp fun z e=>z (by injection e)),fun x hx y hy=> ?_⟩;obtain⟨p,hp,rfl⟩:=Ay.mp hx;obtain⟨l,_,rfl⟩:=Ay.mp hy;intro z;have:=ho p hp;rw[z] at this;simp at this
def SH(L:Nat):List (Option Int):=(Bt L).map fun i:Nat=>some (i:Int)
theorem PN(L:Nat):(SH L).map ZK=ZT 0 L:=by
 unfold SH ZT;rw[Dw];exact Dq fun k _=>by simp[ZK]
theorem WP(L:Nat):(SH L).Nodup:=Gv.mpr (List.nodup_range.imp fun h e=>h (by injection e with e;lia))
theorem L4{L i:Nat}(h:i<L):(SH L)[i]? =some (some (i:Int)):=by simp[SH,h]
theorem ZR(L:Nat):(SH L).length=L:=by simp[SH]
theorem PP{L:Nat}{l:Option Int}(h:l∈SH L): ∃k:Int,l=some k/\0<=k/\k<L:=by
 obtain⟨i,hi,rfl⟩:=Ay.mp h;have:=Ct.mp hi;exact⟨i,rfl,by lia,by lia⟩
structure SI(L:Nat)(kds:List Kd)(M:List dL)(hs:List (Wh×Int))(bs:List (Int×Wh)):Prop where
 once:VQ hs
 old: ∀p∈hs,p.1.1<kds.length
 w: ∀r,Nm kds .w r-> ∃a,bW hs (r,none)=some a
 p: ∀r,Nm kds .p r-> ∀k:Int,0<=k->k<L-> ∃a,bW hs (r,some k)=some a
 bk:Bk bs M.length
 hz:hs.length<=4*kds.length
 mz:M.length<=4*kds.length
 bz:bs.length<=4*kds.length
theorem Z1{kds:List Kd}{k j:Kd}{r:Int}(h:Nm (kds++[k]) j r):Nm kds j r∨(r=kds.length/\k=j):=by
 obtain⟨h0,h1⟩:=h;by_cases hr:r.toNat<kds.length
 ·rw[Af hr] at h1
  exact .inl ⟨h0,h1⟩
 ·have hlt:=(Ai.mp h1).1
  simp at hlt;have e:r.toNat=kds.length:=by lia
  rw[e] at h1;simp at h1;exact .inr ⟨by lia,h1⟩
theorem SI.more{L:Nat}(hL4:L<=4){kds:List Kd}{k:Kd}{M M':List dL}{hs gs:List (Wh×Int)}{bs bs':List (Int×Wh)}{ls:List (Option Int)}(I:SI L kds M hs bs)(hg:gs.map (·.1)=ls.map fun l=>((kds.length:Int),l))(nd:ls.Nodup)(hll:ls.length<=4)(hw:k= .w->none∈ls)(hp:k= .p-> ∀i:Int,0<=i->i<L->some i∈ls)(hb:Bk bs' M'.length)(hm:M'.length<=M.length+4)(hbz:bs'.length<=bs.length+4):SI L (kds++[k]) M' (hs++gs) bs':=by
 have hgl:gs.length=ls.length:=by simpa using congrArg List.length hg
 have look: ∀l∈ls,∃a,bW (hs++gs) ((kds.length:Int),l)=some a:=fun l hl=>by
  have hm:((kds.length:Int),l)∈gs.map (·.1):=by rw[hg];exact Ay.mpr ⟨l,hl,rfl⟩
  obtain⟨p,hp,e⟩:=Ay.mp hm;unfold bW;cases z:(hs++gs).find? (fun p=>decide (p.1=((kds.length:Int),l))) with
  |none=>
   have:=Hv.mp z p (Bh _ hp);simp at this;exact absurd e this
  |some q=>exact⟨q.2,rfl⟩
 have h1:=I.hz;have h2:=I.mz;have h3:=I.bz;refine⟨BF I.once I.old hg nd,fun p hp=> ?_,fun r hr=> ?_,fun r hr i i0 i1=> ?_,hb,by simp;lia,by simp;lia,by simp;lia⟩
 ·rcases Bi.mp hp with hp|hp
  ·have:=I.old p hp;simp;lia
  ·have:p.1∈gs.map (·.1):=Ay.mpr ⟨p,hp,rfl⟩
   rw[hg] at this;obtain⟨l,_,e⟩:=Ay.mp this;rw[<- e];simp;lia
 ·rcases Z1 hr with h|⟨rfl,h⟩
  ·obtain⟨a,e⟩:=I.w r h
   exact⟨a,RU e⟩
  ·exact look _ (hw h)
 ·rcases Z1 hr with h|⟨rfl,h⟩
  ·obtain⟨a,e⟩:=I.p r h i i0 i1
   exact⟨a,RU e⟩
  ·exact look _ (hp h i i0 i1)
theorem SI.new{L:Nat}{kds:List Kd}{M:List dL}{hs:List (Wh×Int)}{bs:List (Int×Wh)}(I:SI L kds M hs bs)(l:Option Int): ∀p∈hs,p.1≠((kds.length:Int),l):=fun p hp z=>by
 have:=I.old p hp;rw[z] at this;simp at this
@[simp] theorem zOD{a b c:String}{i:Int}:Y9 (.tup [.str a,.int i]) (.tup [.str b,.str c])=some (.bl false):=by
 rw[BA (X0 (cF (bX (k:=0)) (cF V5 Y7))) (X0 (cF (bX (k:=0)) (cF bX Y7)))];simp
@[simp] theorem zOC{a b c d:String}:Y9 (.tup [.str a,.str d]) (.tup [.str b,.str c])=some (.bl (decide (a=b) && decide (d=c))):=by
 rw[BA (X0 (cF (bX (k:=0)) (cF bX Y7))) (X0 (cF (bX (k:=0)) (cF bX Y7)))];simp
theorem okI{k:Nat}(ns:List Int): ∀d∈ns.map dL.int,P7 k d:=fun d h=>by
 obtain⟨i,_,rfl⟩:=Ay.mp h;exact V5
theorem zIO{a b c:String}{ns:List Int}:Y9 (.tup [.str a,.tup (ns.map .int)]) (.tup [.str b,.str c])=some (.bl false):=by
 rw[BA (X0 (k:=1) (cF bX (cF (X0 (k:=0) (okI ns)) Y7))) (X0 (cF (bX (k:=0)) (cF bX Y7)))];simp only[AK,zG1];rw[show HK (.tup (ns.map .int)) (.str (Ar c))=false from rfl];simp
theorem hd5{M:Int->Prop}{row:dL}(h:bB M row): ∃(x:String) (v:Int) (t:List dL),row= .tup (.str x:: .int v::t)/\(¬x= "wide" /\¬x= "gather" /\¬x= "shuffle" /\¬x= "lane")/\(x= "number" ->t=[]):=by
 cases h with
 |two hx _ _=>exact⟨_,_,_,rfl,⟨(PJ hx (by decide)).1,(PJ hx (by decide)).1,(PJ hx (by decide)).1,(PJ hx (by decide)).1⟩,fun z=>absurd z (PJ hx (by decide)).1⟩
 |_=>exact⟨_,_,_,rfl,by decide,by simp⟩
section
variable{pg:dL}{L:Nat}{sure:Int}{rws:dL}{n:Int}{M:List dL}{hs:List (Wh×Int)}{bs:List (Int×Wh)}{s9 s10 s11 s12 s13:Sl}
theorem zH7{ws:List Int}(hL4:L<=4):cJ (ZN pg L sure rws M hs bs n (.tup [.str "wide",.str "number",.tup (ws.map .int)]) s9 s10 s11 s12 s13)=aD (gN 9) ZV (ZT 0 L) (ZN pg L sure rws M hs bs n (.tup [.str "wide",.str "number",.tup (ws.map .int)]) s9 s10 s11 s12 s13):=by
 have h1:(-4611686018427387904:Int)<=L:=by lia
 have h2:(L:Int)<4611686018427387904:=by lia
 unfold cJ ZN;generalize Q9 hs=HM;generalize TC bs=BK;generalize ws.map dL.int=W;simp -implicitDefEqProofs [h1,h2,qF]
theorem zHA{rs:List Int}(hL4:L<=4):cJ (ZN pg L sure rws M hs bs n (.tup [.str "gather",.tup (rs.map .int)]) s9 s10 s11 s12 s13)=aD (gN 9) ZW (ZT 0 L) (ZN pg L sure rws M hs bs n (.tup [.str "gather",.tup (rs.map .int)]) s9 s10 s11 s12 s13):=by
 have h1:(-4611686018427387904:Int)<=L:=by lia
 have h2:(L:Int)<4611686018427387904:=by lia
 have e:=zIO (a:= "gather") (b:= "wide") (c:= "number") (ns:=rs);unfold cJ ZN;generalize Q9 hs=HM;generalize TC bs=BK;generalize rs.map dL.int=W at*;simp -implicitDefEqProofs [h1,h2,e,qF]
theorem zH6{p q:Int}{ps:List Int}(hL4:L<=4):cJ (ZN pg L sure rws M hs bs n (.tup [.str "shuffle",.int p,.int q,.tup (ps.map .int)]) s9 s10 s11 s12 s13)=aD (gN 9) ZX (ZT 0 L) (ZN pg L sure rws M hs bs n (.tup [.str "shuffle",.int p,.int q,.tup (ps.map .int)]) s9 s10 s11 s12 s13):=by
 have h1:(-4611686018427387904:Int)<=L:=by lia
 have h2:(L:Int)<4611686018427387904:=by lia
 unfold cJ ZN;generalize Q9 hs=HM;generalize TC bs=BK;generalize ps.map dL.int=W at*;simp -implicitDefEqProofs [h1,h2,qF]
theorem zH9{p k:Int}:cJ (ZN pg L sure rws M hs bs n (.tup [.str "lane",.int p,.int k]) s9 s10 s11 s12 s13)=XB 5 (dH (fV 7) (dH (fC .non) cK)) (P1 5 (dH (f2 cT (fV 8) (fC (.int 1))) (dH (f2 cT (fV 8) (fC (.int 2))) cK))) (ZN pg L sure rws M hs bs n (.tup [.str "lane",.int p,.int k]) s9 s10 s11 s12 s13):=by
 unfold cJ ZN;generalize Q9 hs=HM;generalize TC bs=BK;simp -implicitDefEqProofs
theorem zH8{M0:Int->Prop}{row:dL}(h:bB M0 row):cJ (ZN pg L sure rws M hs bs n row s9 s10 s11 s12 s13)=aD (gN 9) aK [.non] (ZN pg L sure rws M hs bs n row s9 s10 (.va row) s12 s13):=by
 obtain⟨x,v,t,rfl,⟨z1,z2,z3,z4⟩,_⟩:=hd5 h;unfold cJ ZN;generalize Q9 hs=HM;generalize TC bs=BK;simp -implicitDefEqProofs [z1,z2,z3,z4,qF]
theorem zH5{M0:Int->Prop}{ds:List dL}(hL4:L<=4)(h:bB M0 (.tup ds))(hn: ∀n,ds≠[.str "number",.int n]):cJ (ZN pg L sure rws M hs bs n (.tup (.str "wide"::ds)) s9 s10 s11 s12 s13)=aD (gN 9) aK (ZT 0 L) (ZN pg L sure rws M hs bs n (.tup (.str "wide"::ds)) s9 s10 (.va (.tup ds)) s12 s13):=by
 have h1:(-4611686018427387904:Int)<=L:=by lia
 have h2:(L:Int)<4611686018427387904:=by lia
 obtain⟨x,v,t,e,_,z5⟩:=hd5 h;simp only[dL.tup.injEq] at e;subst e;have z5: ¬x= "number":=fun z=>hn v (by rw[z5 z,z]);unfold cJ ZN;generalize Q9 hs=HM;generalize TC bs=BK;have h3:(L:Int)<=16777216:=by lia
 simp -implicitDefEqProofs [z5,h1,h2,h3,qF,PM]
end
noncomputable def nsF(pg:dL)(L sure:Int)(rws:dL)(M:List dL)(hs:List (Wh×Int))(bs:List (Int×Wh))(s7 s8 s9 s10 s11 s12 s13:Sl):Ev:=
 [.va pg,.va (.int L),.va (.int sure),.va rws,.ow (.lst M),.ow (Q9 hs),.ow (TC bs),s7,s8,s9,s10,s11,s12,s13]
theorem TH(i:Nat)(d:dL)(ds:List dL):YS i (d::ds)= .tup [.int i,d]::YS (i+1) ds:=rfl
theorem Bk.le{bs:List (Int×Wh)}{m m':Nat}(h:Bk bs m)(hm:m<=m'):Bk bs m':=⟨h.1,fun p hp=>by have:=h.2 p hp;lia⟩
theorem Bk.alc{bs:List (Int×Wh)}{m:Nat}{n:Int}{ls:List (Option Int)}(h:Bk bs m):Bk (bs++W2 n ls m) (m+ls.length):=by
 refine⟨?_,fun p hp=> ?_⟩
 ·rw[Fh,Gw]
  refine⟨h.1,FO ls m,fun x hx y hy=> ?_⟩;obtain⟨p,hp,rfl⟩:=Ay.mp hx;obtain⟨q,hq,rfl⟩:=Ay.mp hy;have:=h.2 p hp;have:=RF ls m q hq;lia
 ·rcases Bi.mp hp with hp|hp
  ·have:=h.2 p hp;lia
  ·exact(RF ls m p hp).2
structure G6(L:Nat)(pg:dL)(sure:Int)(rws:dL)(kds:List Kd)(row:dL)(k:Kd)(M:List dL)(hs:List (Wh×Int))(bs:List (Int×Wh))(rs:List dL)(gs:List (Wh×Int))(cs:List (Int×Wh)):Prop where
 run: ∀s9 s10 s11 s12 s13:Sl,∃t9 t10 t11 t12 t13,cJ (ZN pg L sure rws M hs bs kds.length row s9 s10 s11 s12 s13)=some (.nx (ZN pg L sure rws (M++rs) (hs++gs) (bs++cs) kds.length row t9 t10 t11 t12 t13))
 si:SI L (kds++[k]) (M++rs) (hs++gs) (bs++cs)
 nar: ∀(gs':List (Wh×Int)) (cs':List (Int×Wh)) (rows:List dL) (M':List dL),RB L (bW (hs++gs++gs')) (OK (bs++cs++cs')) (kds++[k]) rows (M.length+rs.length) M'->RB L (bW (hs++gs++gs')) (OK (bs++cs++cs')) kds (row::rows) M.length (rs++M')
theorem AS{hs0 gs:List (Wh×Int)}{k:Wh}(h: ∃a,bW hs0 k=some a):V0 (bW (hs0++gs)) k=hv hs0 k:=by
 unfold V0;rw[V1 ⟨gs,rfl⟩ h];rfl
theorem NE{L:Nat}{kds:List Kd}{M:List dL}{hs:List (Wh×Int)}{bs:List (Int×Wh)}(I:SI L kds M hs bs){gs gs':List (Wh×Int)}{l:Option Int}{a:Int}(h:bW gs ((kds.length:Int),l)=some a):bW (hs++gs++gs') ((kds.length:Int),l)=some a:=by
 refine RU ?_;rw[A2 (I.new l)];exact h
theorem F3{bs:List (Int×Wh)}{m:Nat}(hb:Bk bs m){n:Int}{ls:List (Option Int)}{i:Nat}{l:Option Int}(e:ls[i]? =some l)(cs':List (Int×Wh)):OK (bs++W2 n ls m++cs') ((m+i:Nat):Int)=some (n,l):=by
 refine zB9 ?_;rw[zB8 fun p hp z=>by have:=hb.2 p hp;lia];exact MS ls m i l e
section
variable{pg:dL}{L:Nat}{sure:Int}{rws:dL}{kds:List Kd}{M:List dL}{hs:List (Wh×Int)}{bs:List (Int×Wh)}
theorem QY{k j:Kd}{d:dL}(h1:k≠j)(h2:j≠ .n):VJ k d≠j:=fun z=>by
 unfold VJ at z;split at z
 ·split at z
  ·exact h2 z.symm
  ·exact h1 z
 ·exact h2 z.symm
theorem QX{L:Nat}{i:Int}(i0:0<=i)(i1:i<L):some i∈SH L:=Ay.mpr ⟨i.toNat,Ct.mpr (by lia),by congr 1;lia⟩
theorem NF{α:Type}(L:Nat)(f:Option Int->α):(SH L).map f=(Bt L).map fun l:Nat=>f (some (l:Int)):=by
 unfold SH;rw[Dw];rfl
theorem CS(hL4:L<=4)(I:SI L kds M hs bs)(hk:kds.length<1000){row:dL}(h:bB (Nm kds .w) row): ∃rs gs cs,G6 L pg sure rws kds row (VJ .w row) M hs bs rs gs cs:=by
 have z1:=I.hz;have z2:=I.mz;have z3:=I.bz;have hm:=(TQ h 0 id).mem;have hkk: ∀a∈YB row,∃b,bW hs (a,none)=some b:=fun a ha=>I.w a (hm a ha);refine⟨[aL 0 (fun a=>hv hs (a,none)) row],alc kds.length [none] M.length,W2 kds.length [none] M.length,fun s9 s10 s11 s12 s13=> ?_,?_,fun gs' cs' rows M' N=> ?_⟩
 ·obtain ⟨t10,t12,t13,e⟩ := F7 (pg := pg) (L := L) (sure := sure) (rws := rws) (n := (kds.length : Int)) (row := row) h hs none hkk M hs bs s10 s12 s13 ⟨I.once,I.new none,⟨[],by simp⟩,by lia,by lia,I.bk,by lia⟩
  refine⟨.va .non,t10,.va row,t12,t13,?_⟩;rw[zH8 h,X6,P2,TL];rw[show(ZN pg L sure rws M hs bs kds.length row s9 s10 (.va row) s12 s13).set 9 (.va .non)=ZN pg L sure rws M hs bs kds.length row (.va (ZK none)) s10 (.va row) s12 s13 from rfl,e,TM,zFZ];rfl
 ·exact I.more hL4 (ls:=[none]) (PD _ _) (by simp) (by simp) (fun _=>by simp) (fun z=>absurd z (QY (by decide) (by decide))) (by simpa using I.bk.alc (n:=kds.length) (ls:=[none])) (by simp) (by simp[W2])
 ·have q := RB.nar (L := L) (hm := bW (hs ++ alc kds.length [none] M.length ++ gs')) (bk := OK (bs ++ W2 kds.length [none] M.length ++ cs')) h (NE I (by simpa using RG (n := kds.length) [none] M.length 0 none (by simp) rfl)) (by simpa using F3 I.bk (n := kds.length) (ls := [none]) (i := 0) rfl cs') N
  have e:aL 0 (fun a=>hv hs (a,none)) row=aL 0 (fun x=>V0 (bW (hs++alc kds.length [none] M.length++gs')) (x,none)) row:=OX fun a ha=>by rw[Bl,AS (hkk a ha)]
  rw[e];exact q
theorem CV(hL4:L<=4)(I:SI L kds M hs bs)(hk:kds.length<1000){ds:List dL}(h:bB (Nm kds .p) (.tup ds))(hn: ∀n,ds≠[.str "number",.int n]): ∃rs gs cs,G6 L pg sure rws kds (.tup (.str "wide"::ds)) (VJ .p (.tup ds)) M hs bs rs gs cs:=by
 have z1:=I.hz;have z2:=I.mz;have z3:=I.bz;have hm:=(TQ h 0 id).mem;have hkk: ∀(l:Int),0<=l->l<L-> ∀a∈YB (.tup ds),∃b,bW hs (a,some l)=some b:=fun l l0 l1 a ha=>I.p a (hm a ha) l l0 l1;refine⟨(SH L).map fun lane=>aL (lane.getD 0) (fun a=>hv hs (a,lane)) (.tup ds),alc kds.length (SH L) M.length,W2 kds.length (SH L) M.length,fun s9 s10 s11 s12 s13=> ?_,?_,fun gs' cs' rows M' N=> ?_⟩
 ·obtain ⟨t9,t10,t12,t13,e⟩ := A3 (pg := pg) (L := (L : Int)) (sure := sure) (rws := rws) (n := (kds.length : Int)) (row := .tup (.str "wide" :: ds)) (fun lane => ∃ l : Int,lane = some l /\ 0 <= l /\ l < L) aK true (fun lane => aL (lane.getD 0) (fun a => hv hs (a,lane)) (.tup ds)) hs (.va (.tup ds)) (fun lane M hs' bs s10 s12 s13 R hl => by
   obtain⟨l,rfl,l0,l1⟩:=hl;exact F7 h hs (some l) (hkk l l0 l1) M hs' bs s10 s12 s13 R) (SH L) (WP L) (fun lane=>PP) M hs bs s9 s10 s12 s13 I.once (fun lane _=>I.new lane) ⟨[],by simp⟩ (by rw[ZR];lia) (by rw[ZR];lia) I.bk (by rw[ZR];lia)
  refine⟨t9,t10,.va (.tup ds),t12,t13,?_⟩;rw[zH5 hL4 h hn,<- PN,e];rfl
 ·exact I.more hL4 (PD _ _) (WP L) (by rw[ZR];exact hL4) (fun z=>absurd z (QY (by decide) (by decide))) (fun _ i i0 i1=>QX i0 i1) (by simpa using I.bk.alc (n:=kds.length) (ls:=SH L)) (by simp[ZR];lia) (by rw[Br,JC,ZR];lia)
 ·rw[Bz,ZR] at N
  have q:=RB.wid (L:=L) (hm:=bW (hs++alc kds.length (SH L) M.length++gs')) (bk:=OK (bs++W2 kds.length (SH L) M.length++cs')) h hn (fun l hl=>⟨NE I (RG (SH L) M.length l _ (WP L) (L4 hl)),F3 I.bk (L4 hl) cs'⟩) N;rw[NF];have e:((Bt L).map fun l:Nat=>aL ((some (l:Int)).getD 0) (fun a=>hv hs (a,some (l:Int))) (.tup ds))=(Bt L).map fun l:Nat=>aL l (fun x=>V0 (bW (hs++alc kds.length (SH L) M.length++gs')) (x,some (l:Int))) (.tup ds):=Dq fun l hl=>OX fun a ha=>by rw[Bl,AS (hkk l (by lia) (by have:=Ct.mp hl;lia) a ha)]
  rw[e];exact q
theorem E8(hL4:L<=4)(I:SI L kds M hs bs)(hk:kds.length<1000){ws:List Int}(hw:ws.length=L)(hws: ∀w∈ws,0<=w/\w<=999): ∃rs gs cs,G6 L pg sure rws kds (.tup [.str "wide",.str "number",.tup (ws.map .int)]) .p M hs bs rs gs cs:=by
 have z1:=I.hz;have z2:=I.mz;have z3:=I.bz;refine⟨ws.map (fun w=> .tup [.str "number",.int w]),alc kds.length (SH L) M.length,[],fun s9 s10 s11 s12 s13=> ?_,?_,fun gs' cs' rows M' N=> ?_⟩
 ·obtain ⟨t9,t10,t12,t13,e⟩ := A3 (pg := pg) (L := (L : Int)) (sure := sure) (rws := rws) (n := (kds.length : Int)) (row := .tup [.str "wide",.str "number",.tup (ws.map .int)]) (fun lane => ∃ l : Int,lane = some l /\ 0 <= l /\ l < L) ZV false (fun lane => .tup [.str "number",(W4 (ws.map dL.int) (lane.getD 0)).getD .non]) hs s11 (fun lane M hs' bs s10 s12 s13 R hl => by
   obtain⟨t10,t12,t13,e⟩:=zB4 (pg:=pg) (sure:=sure) (rws:=rws) hw hs s11 lane M hs' bs s10 s12 s13 R hl;exact⟨t10,t12,t13,by rw[e];simp⟩) (SH L) (WP L) (fun lane=>PP) M hs bs s9 s10 s12 s13 I.once (fun lane _=>I.new lane) ⟨[],by simp⟩ (by rw[ZR];lia) (by rw[ZR];lia) I.bk (by rw[ZR];lia)
  refine⟨t9,t10,s11,t12,t13,?_⟩;rw[zH7 hL4,<- PN,e];have em:(SH L).map (fun lane=>dL.tup [.str "number",(W4 (ws.map dL.int) (lane.getD 0)).getD .non])=ws.map fun w=> .tup [.str "number",.int w]:=by
   rw[NF];refine List.ext_getElem (by simp[hw]) fun i h1 h2=> ?_;simp at h1 h2;have:W4 (ws.map dL.int) (i:Int)=some (.int ws[i]):=by rw[XQ (by lia) (by simp;lia)];simp[h2]
   simp[this]
  rw[em];simp
 ·exact I.more hL4 (PD _ _) (WP L) (by rw[ZR];exact hL4) (fun z=>by cases z) (fun _ i i0 i1=>QX i0 i1) (by simpa using I.bk.le (by simp)) (by simp[hw];lia) (by simp)
 ·rw[Bz,hw] at N
  exact RB.wnum hw hws (fun l hl=>NE I (RG (SH L) M.length l _ (WP L) (L4 hl))) N
theorem CP(hL4:L<=4)(I:SI L kds M hs bs)(hk:kds.length<1000){rs:List Int}(hr:rs.length=L)(hrs: ∀r∈rs,Nm kds .w r): ∃rs' gs cs,G6 L pg sure rws kds (.tup [.str "gather",.tup (rs.map .int)]) .p M hs bs rs' gs cs:=by
 have z1:=I.hz;refine⟨[],(SH L).map fun lane=>(((kds.length:Int),lane),hv hs (rs.getD (lane.getD 0).toNat 0,none)),[],fun s9 s10 s11 s12 s13=> ?_,?_,fun gs' cs' rows M' N=> ?_⟩
 ·obtain ⟨t9,t10,t12,t13,e⟩ := A5 (pg := pg) (L := (L : Int)) (sure := sure) (rws := rws) (n := (kds.length : Int)) (row := .tup [.str "gather",.tup (rs.map .int)]) ZW (fun lane => hv hs (rs.getD (lane.getD 0).toNat 0,none)) hs M bs s11 (fun lane hs' s10 s12 s13 ho hn he hz hl => zB6 hr hs (fun r h => I.w r (hrs r h)) M bs s11 lane hs' s10 s12 s13 ho hn he hz hl) (SH L) (WP L) (fun lane => PP) hs s9 s10 s12 s13 I.once (fun lane _ => I.new lane) ⟨[],by simp⟩ (by rw [ZR];lia)
  refine⟨t9,t10,s11,t12,t13,?_⟩;rw[zHA hL4,<- PN,e];simp
 ·exact I.more hL4 (ls:=SH L) (by rw[Dw];rfl) (WP L) (by rw[ZR];exact hL4) (fun z=>by cases z) (fun _ i i0 i1=>QX i0 i1) (by simpa using I.bk) (by simp) (by simp)
 ·refine RB.gather hr hrs (fun l hl => ?_) N
  have hlt:l<rs.length:=by lia
  have hk2:=I.w (rs.getD l 0) (hrs _ (by simp[hlt]));rw[NE I (PF (r:=fun lane=>hv hs (rs.getD (lane.getD 0).toNat 0,none)) (QX (L:=L) (i:=(l:Int)) (by lia) (by lia))),Bl,V1 ⟨_,rfl⟩ hk2];simp
theorem CU(hL:2<=L)(hL4:L<=4)(I:SI L kds M hs bs)(hk:kds.length<1000){p q:Int}{ps:List Int}(hp:Nm kds .p p)(hq:Nm kds .p q)(hr:ps.length=L)(hx: ∀x∈ps,0<=x/\x<2*L): ∃rs' gs cs,G6 L pg sure rws kds (.tup [.str "shuffle",.int p,.int q,.tup (ps.map .int)]) .p M hs bs rs' gs cs:=by
 have z1:=I.hz;refine⟨[],(SH L).map fun lane=>(((kds.length:Int),lane),hv hs (shO L p q ps lane)),[],fun s9 s10 s11 s12 s13=> ?_,?_,fun gs' cs' rows M' N=> ?_⟩
 ·obtain ⟨t9,t10,t12,t13,e⟩ := A5 (pg := pg) (L := (L : Int)) (sure := sure) (rws := rws) (n := (kds.length : Int)) (row := .tup [.str "shuffle",.int p,.int q,.tup (ps.map .int)]) ZX (fun lane => hv hs (shO L p q ps lane)) hs M bs s11 (fun lane hs' s10 s12 s13 ho hn he hz hl => zB3 hr hL hL4 hx hs (fun k => I.p p hp k) (fun k => I.p q hq k) M bs s11 lane hs' s10 s12 s13 ho hn he hz hl) (SH L) (WP L) (fun lane => PP) hs s9 s10 s12 s13 I.once (fun lane _ => I.new lane) ⟨[],by simp⟩ (by rw [ZR];lia)
  refine⟨t9,t10,s11,t12,t13,?_⟩;rw[zH6 hL4,<- PN,e];simp
 ·exact I.more hL4 (ls:=SH L) (by rw[Dw];rfl) (WP L) (by rw[ZR];exact hL4) (fun z=>by cases z) (fun _ i i0 i1=>QX i0 i1) (by simpa using I.bk) (by simp) (by simp)
 ·refine RB.shuf hp hq hr hx (fun l hl => ?_) N
  have hlt:l<ps.length:=by lia
  have hxx:=hx (ps.getD l 0) (by simp[hlt]);have hk2: ∃a,bW hs (shO L p q ps (some (l:Int)))=some a:=by
   show∃a,bW hs (if ps.getD ((l:Int)).toNat 0<(L:Int) then(p,some (ps.getD ((l:Int)).toNat 0)) else(q,some (ps.getD ((l:Int)).toNat 0 - L)))=some a;rw[Cy];split
   ·exact I.p p hp _ hxx.1 (by assumption)
   ·exact I.p q hq _ (by lia) (by lia)
  rw[NE I (PF (r:=fun lane=>hv hs (shO L p q ps lane)) (QX (L:=L) (i:=(l:Int)) (by lia) (by lia))),Bl,V1 ⟨_,rfl⟩ hk2]
theorem CQ(hL4:L<=4)(I:SI L kds M hs bs)(hk:kds.length<1000){p k:Int}(hp:Nm kds .p p)(h0:0<=k)(h1:k<L): ∃rs' gs cs,G6 L pg sure rws kds (.tup [.str "lane",.int p,.int k]) .w M hs bs rs' gs cs:=by
 have z1:=I.hz;refine⟨[],[none].map fun lane=>(((kds.length:Int),lane),hv hs (p,some k)),[],fun s9 s10 s11 s12 s13=> ?_,?_,fun gs' cs' rows M' N=> ?_⟩
 ·refine⟨s9,s10,s11,s12,s13,?_⟩
  rw[zH9,zB5 hs (I.p p hp k h0 h1) M bs s9 s10 s11 s12 s13 I.once (I.new none) (by lia)];simp
 ·exact I.more hL4 (ls:=[none]) (by rw[Dw];rfl) (by simp) (by simp) (fun _=>by simp) (fun z=>by cases z) (by simpa using I.bk) (by simp) (by simp)
 ·refine RB.lane hp h0 h1 ?_ N
  rw[NE I (PF (r:=fun _=>hv hs (p,some k)) (ls:=[none]) (l:=none) (by simp)),Bl,V1 ⟨_,rfl⟩ (I.p p hp k h0 h1)]
theorem CT(hL:2<=L)(hL4:L<=4)(I:SI L kds M hs bs)(hk:kds.length<1000){row:dL}{k:Kd}(r:PR L kds row k): ∃rs gs cs,G6 L pg sure rws kds row k M hs bs rs gs cs:=by
 cases r with
 |nar h=>exact CS hL4 I hk h
 |wid h hn=>exact CV hL4 I hk h hn
 |wnum hw hws=>exact E8 hL4 I hk hw hws
 |gather hr hrs=>exact CP hL4 I hk hr hrs
 |shuf hp hq hr hx=>exact CU hL hL4 I hk hp hq hr hx
 |lane hp h0 h1=>exact CQ hL4 I hk hp h0 h1
end
theorem CO{L:Nat}(hL:2<=L)(hL4:L<=4)(pg:dL)(sure:Int)(rws:dL){kds ai:List Kd}{rows:List dL}(h:SG L kds rows ai): ∀(M:List dL) (hs:List (Wh×Int)) (bs:List (Int×Wh)),SI L kds M hs bs->kds.length+rows.length<1000-> ∀s7 s8 s9 s10 s11 s12 s13:Sl,
  ∃M' gs cs t7 t8 t9 t10 t11 t12 t13,aD (M9 2 (b4 (gN 7) (b4 (gN 8) YA))) cJ (YS kds.length rows) (nsF pg L sure rws M hs bs s7 s8 s9 s10 s11 s12 s13)=some (.nx (nsF pg L sure rws (M++M') (hs++gs) (bs++cs) t7 t8 t9 t10 t11 t12 t13))∧
   RB L (bW (hs++gs)) (OK (bs++cs)) kds rows M.length M'/\SI L ai (M++M') (hs++gs) (bs++cs):=by
 induction h with
 |nil=>exact fun M hs bs I _ s7 s8 s9 s10 s11 s12 s13=>⟨[],[],[],s7,s8,s9,s10,s11,s12,s13,by simp[YS],.nil,by simpa using I⟩
 | @cons kds ai row k rows r h ih=>
  intro M hs bs I hk s7 s8 s9 s10 s11 s12 s13;simp only[Bg] at hk;obtain⟨rs,gs,cs,S⟩:=CT (pg:=pg) (sure:=sure) (rws:=rws) hL hL4 I (by lia) r;obtain⟨t9,t10,t11,t12,t13,e⟩:=S.run s9 s10 s11 s12 s13;obtain⟨M',gs',cs',u7,u8,u9,u10,u11,u12,u13,e2,N,I2⟩:=ih (M++rs) (hs++gs) (bs++cs) S.si (by simp;lia) (.va (.int kds.length)) (.va row) t9 t10 t11 t12 t13;refine⟨rs++M',gs++gs',cs++cs',u7,u8,u9,u10,u11,u12,u13,?_,?_,?_⟩
  ·rw[TH,X6]
   have g:M9 2 (b4 (gN 7) (b4 (gN 8) YA)) (.tup [.int kds.length,row]) (nsF pg L sure rws M hs bs s7 s8 s9 s10 s11 s12 s13)=some (ZN pg L sure rws M hs bs kds.length row s9 s10 s11 s12 s13):=rfl;rw[g,TL,e,TM];simp only[Br,Bg,Eu] at e2;rw[<- Bl,<- Bl,<- Bl];exact e2
  ·rw[Br] at N
   rw[<- Bl,<- Bl];exact S.nar gs' cs' rows M' N
  ·rw[<- Bl,<- Bl,<- Bl]
   exact I2
theorem J6{L:Nat}(hL:2<=L)(hL4:L<=4)(sure:Int){rows:List dL}{kds:List Kd}(h:SG L [] rows kds)(hr:rows.length<900): ∃(M:List dL) (hs:List (Wh×Int)) (bs:List (Int×Wh)),ZU [.tup [.int L,.int sure,.tup rows]]=some (.tup [.tup [.int L,.int sure,.tup M],TC bs],[])/\RB L (bW hs) (OK bs) [] rows 0 M/\M.length<=4*rows.length:=by
 obtain⟨M',gs,cs,t7,t8,t9,t10,t11,t12,t13,e,N,I⟩:=CO hL hL4 (.tup [.int L,.int sure,.tup rows]) sure (.tup rows) h [] [] [] ⟨by simp[VQ],by simp,fun r hr=>(by cases hr.2),fun r hr=>(by cases hr.2),⟨by simp,by simp⟩,by simp,by simp,by simp⟩ (by simp;lia) .no .no .no .no .no .no .no;simp only[Co] at e N I;have hm:=I.mz;rw[h.len] at hm;refine⟨M',gs,cs,?_,N,by simpa using hm⟩;have hM:M'.length<=16777216:=by simp at hm;lia
 unfold ZU;rw[c5,W7.eq_1];unfold nsF at e;have e0:Q9 []= .dcn [] []:=rfl;have e1:TC []= .dct [] []:=rfl;rw[e0,e1] at e;simp only[Eu] at e;generalize Q9 gs=HM at*;generalize TC cs=BK at*;simp -implicitDefEqProofs [cV,e]
theorem SG.app{L:Nat}{k0 k1 k2:List Kd}{A B:List dL}(h:SG L k0 A k1)(g:SG L k1 B k2):SG L k0 (A++B) k2:=by
 induction h with
 |nil=>exact g
 |cons r _ ih=>exact .cons r (ih g)
structure Gd(nk:List Kd)(row:dL):Prop where
 ok:(∀p,UN row=some p->p<=63)->bB (Nm nk .w) row
 bad: ∀p,UN row=some p->63<p-> ∀j:List Kd,Z7 [row,.lst ((Wb (nk++j)).map .bl)]=some (.bl false,[])
 hd: ∃(x:String) (t:List dL),row= .tup (.str x::t)/\x∉["wide","gather","shuffle","lane"]
 pos: ∀p,UN row=some p->0<=p
theorem Nm.more{nk:List Kd}{k:Kd}{a:Int}(h:Nm nk k a)(j:List Kd):Nm (nk++j) k a:=⟨h.1,by rw[Af (Ai.mp h.2).1];exact h.2⟩
theorem Gd.more{nk:List Kd}{row:dL}(h:Gd nk row)(j:List Kd):Gd (nk++j) row:=
 ⟨fun z=>(h.ok z).imp fun a ha=>ha.more j,fun p z1 z2 i=>by rw[Bl];exact h.bad p z1 z2 _,h.hd,h.pos⟩
theorem zCF{M:Int->Prop}{row:dL}(h:bB M row){l:Int}(l0:0<=l){f:Int->Int}{nk:List Kd}(hf: ∀a∈YB row,Nm nk .w (f a)):Gd nk (aL l f row):=by
 have S:=TQ h l f;have hp: ∀p,UN (aL l f row)=some p-> ∃q,UN row=some q/\p=q+l/\0<=q/\q<=63:=fun p z=>by
  rw[S.pl] at z;obtain⟨q,e,rfl⟩:=Al.mp z;exact⟨q,e,rfl,S.pl0 q e⟩
 refine⟨fun z=>S.ok _ hf fun q e=> ?_,fun p z1 z2 j=> ?_,?_,fun p z=> ?_⟩
 ·have:=S.pl0 q e
  exact⟨by lia,z _ (by rw[S.pl,e];rfl)⟩
 ·obtain⟨q,e,rfl,_⟩:=hp p z1
  exact S.bad _ q (fun a ha=>((hf a ha).more j).w) e z2
 ·obtain⟨x,v,t,rfl,hx,_⟩:=hd5 h
  unfold aL P4;simp only;split
  ·exact⟨x,_,rfl,by simp[hx]⟩
  ·split<;>exact⟨x,_,rfl,by simp[hx]⟩
 ·obtain⟨q,_,rfl,_⟩:=hp p z
  lia
theorem zFY{w:Int}(h0:0<=w)(h1:w<=999)(nk:List Kd):Gd nk (.tup [.str "number",.int w]):=by
 have e:UN (.tup [.str "number",.int w])=none:=by kernel_rfl
 exact⟨fun _=> .number h0 h1,fun p z=>(by rw[e] at z;cases z),⟨_,_,rfl,by decide⟩,fun p z=>(by rw[e] at z;cases z)⟩
def Spl(L:Nat)(nk:List Kd)(M:List dL)(nk':List Kd):Prop:=
 (SG L nk M nk'/\ ∀row∈M,∀p,UN row=some p->0<=p/\p<=63)∨
  ∃(A:List dL) (b:dL) (B:List dL) (j:List Kd),M=A++b::B/\SG L nk A j/\Z7 [b,.lst ((Wb j).map .bl)]=some (.bl false,[])/\(∃(x:String) (t:List dL),b= .tup (.str x::t)/\x∉["wide","gather","shuffle","lane"])/\ ∃p,UN b=some p/\63<p
theorem Spl.app{L:Nat}{nk k1 k2:List Kd}{A B:List dL}(h:Spl L nk A k1)(g:Spl L k1 B k2):Spl L nk (A++B) k2:=by
 rcases h with⟨h1,h2⟩|⟨A',b,B',j,rfl,h1,h2,h3,h4⟩
 ·rcases g with⟨g1,g2⟩|⟨A',b,B',j,rfl,g1,g2,g3,g4⟩
  ·refine .inl ⟨h1.app g1,fun row hr => ?_⟩
   rcases Bi.mp hr with hr|hr
   ·exact h2 row hr
   ·exact g2 row hr
  ·exact .inr ⟨A++A',b,B',j,by simp,h1.app g1,g2,g3,g4⟩
 ·exact .inr ⟨A',b,B'++B,j,by simp,h1,h2,h3,h4⟩
theorem zBQ{L:Nat}{nk:List Kd}{row:dL}(G:Gd nk row):Spl L nk [row] (nk++[VJ .w row]):=by
 by_cases h: ∀p,UN row=some p->p<=63
 ·refine .inl ⟨.cons (.nar (G.ok h)) .nil,fun r hr p z => ?_⟩
  rw[Ak.mp hr] at z;exact⟨G.pos p z,h p z⟩
 ·obtain⟨p,h⟩:=Jy.mp h
  obtain⟨e,h⟩:=Classical.not_imp.mp h;exact .inr ⟨[],row,[],nk,rfl,.nil,by simpa using G.bad p e (by lia) [],G.hd,p,e,by lia⟩
theorem CN{L:Nat}{k:Kd}: ∀(rs:List dL) (nk:List Kd),(∀row∈rs,Gd nk row/\VJ .w row=k)->Spl L nk rs (nk++Bj rs.length k)
 |[],nk,_=> .inl ⟨by simpa using SG.nil,by simp⟩
 |r::rs,nk,h=>by
  obtain⟨G,e⟩:=h r Ax;have ih:=CN (L:=L) (k:=k) rs (nk++[k]) fun row hr=>⟨(h row (Am _ hr)).1.more _,(h row (Am _ hr)).2⟩;have h1:=zBQ (L:=L) G;rw[e] at h1;have:=h1.app ih;simpa[Km] using this
theorem zB2{L:Nat}{hm:Wh->Option Int}{bk:Int->Option Wh}{kds:List Kd}{rows:List dL}{a:Nat}{M:List dL}(N:RB L hm bk kds rows a M): ∀nk:List Kd,nk.length=a->(∀r,Nm kds .w r->Nm nk .w (V0 hm (r,none)))->(∀r,Nm kds .p r-> ∀l:Nat,l<L->Nm nk .w (V0 hm (r,some (l:Int))))-> ∃nk',Spl L nk M nk':=by
 have hmi: ∀{k:Wh} {v:Int},hm k=some v->V0 hm k=v:=fun e=>by unfold V0;rw[e];rfl
 have hme: ∀{k j:Wh},hm k=hm j->V0 hm k=V0 hm j:=fun e=>by unfold V0;rw[e]
 have ei: ∀{nk:List Kd} {k:Kd} {c l:Nat},l<c->Nm (nk++Bj c k) k ((nk.length+l:Nat):Int):=fun{nk k c l} h=>⟨by lia,by
  rw[Cy,As (by lia)];simp[h]⟩
 induction N with
 |nil=>exact fun nk _ _ _=>⟨nk,.inl ⟨.nil,by simp⟩⟩
 | @nar kds row rows a M h e1 e2 N ih=>
  intro nk hl hW hP;subst hl;have S:=TQ h 0 (fun x=>V0 hm (x,none));have G:=zCF h (l:=0) (by decide) (f:=fun x=>V0 hm (x,none)) (nk:=nk) fun a ha=>hW a (S.mem a ha);obtain⟨nk',g⟩:=ih (nk++[VJ .w row]) (by simp) (fun r hr=>by
   rcases Z1 hr with hr|⟨rfl,hk⟩
   ·exact(hW r hr).more _
   ·rw[hmi e1,hk]
    exact Nm.new) (fun r hr l hl=>by
   rcases Z1 hr with hr|⟨_,hk⟩
   ·exact(hP r hr l hl).more _
   ·exact absurd hk (QY (by decide) (by decide)))
  have h1:=zBQ (L:=L) G;rw[S.mkq] at h1;exact⟨nk',h1.app g⟩
 | @wid kds ds rows a M h hn e1 N ih=>
  intro nk hl hW hP;subst hl;have mm:=(TQ h 0 id).mem;have g1:=CN (L:=L) (k:=VJ .w (.tup ds)) ((Bt L).map fun l:Nat=>aL l (fun x=>V0 hm (x,some (l:Int))) (.tup ds)) nk fun row hr=>by
   obtain⟨l,hl,rfl⟩:=Ay.mp hr;have hl:=Ct.mp hl;exact⟨zCF h (by lia) fun a ha=>hP a (mm a ha) l hl,(TQ h l _).mkq _⟩
  rw[Bz,Gq] at g1;obtain⟨nk',g⟩:=ih (nk++Bj L (VJ .w (.tup ds))) (by simp) (fun r hr=>by
   rcases Z1 hr with hr|⟨_,hk⟩
   ·exact(hW r hr).more _
   ·exact absurd hk (QY (by decide) (by decide))) (fun r hr l hl=>by
   rcases Z1 hr with hr|⟨rfl,hk⟩
   ·exact(hP r hr l hl).more _
   ·have hk2:VJ .w (.tup ds)= .w:=by
     unfold VJ at hk⊢;split at hk
     ·split at hk
      ·cases hk
      ·rename_i z;rw[if_neg z]
     ·cases hk
    rw[hmi (e1 l hl).1,hk2];exact ei hl)
  exact⟨nk',g1.app g⟩
 | @wnum kds ws rows a M hw hws e1 N ih=>
  intro nk hl hW hP;subst hl;have g1:=CN (L:=L) (k:= .w) (ws.map fun w=> .tup [.str "number",.int w]) nk fun row hr=>by
   obtain⟨w,hw,rfl⟩:=Ay.mp hr;exact⟨zFY (hws w hw).1 (hws w hw).2 nk,by kernel_rfl⟩
  rw[Bz,hw] at g1;obtain⟨nk',g⟩:=ih (nk++Bj L .w) (by simp) (fun r hr=>by
   rcases Z1 hr with hr|⟨_,hk⟩
   ·exact(hW r hr).more _
   ·cases hk) (fun r hr l hl=>by
   rcases Z1 hr with hr|⟨rfl,hk⟩
   ·exact(hP r hr l hl).more _
   ·rw[hmi (e1 l hl)]
    exact ei hl)
  exact⟨nk',g1.app g⟩
 | @gather kds rs rows a M hr hrs e1 N ih=>
  intro nk hl hW hP;refine ih nk hl (fun r h=> ?_) (fun r h l hl2=> ?_)
  ·rcases Z1 h with h|⟨_,hk⟩
   ·exact hW r h
   ·cases hk
  ·rcases Z1 h with h|⟨rfl,hk⟩
   ·exact hP r h l hl2
   ·rw[hme (e1 l hl2)]
    have hlt:l<rs.length:=by lia
    exact hW _ (hrs _ (by simp[hlt]))
 | @shuf kds p q ps rows a M hp hq hr hx e1 N ih=>
  intro nk hl hW hP;refine ih nk hl (fun r h=> ?_) (fun r h l hl2=> ?_)
  ·rcases Z1 h with h|⟨_,hk⟩
   ·exact hW r h
   ·cases hk
  ·rcases Z1 h with h|⟨rfl,hk⟩
   ·exact hP r h l hl2
   ·rw[hme (e1 l hl2)]
    have hlt:l<ps.length:=by lia
    have hxx:=hx (ps.getD l 0) (by simp[hlt]);show Nm nk .w (V0 hm (if ps.getD ((l:Int)).toNat 0<(L:Int) then(p,some (ps.getD ((l:Int)).toNat 0)) else(q,some (ps.getD ((l:Int)).toNat 0 - L))));rw[Cy];split
    ·rw [show ps.getD l 0 = (((ps.getD l 0).toNat : Nat) : Int) by lia]
     exact hP p hp _ (by lia)
    ·rw [show ps.getD l 0 - (L : Int) = (((ps.getD l 0 - L).toNat : Nat) : Int) by lia]
     exact hP q hq _ (by lia)
 | @lane kds p k rows a M hp h0 h1 e1 N ih=>
  intro nk hl hW hP;refine ih nk hl (fun r h=> ?_) (fun r h l hl2=> ?_)
  ·rcases Z1 h with h|⟨rfl,hk⟩
   ·exact hW r h
   ·rw [hme e1,show k = ((k.toNat : Nat) : Int) by lia]
    exact hP p hp _ (by lia)
  ·rcases Z1 h with h|⟨_,hk⟩
   ·exact hP r h l hl2
   ·cases hk
theorem KS{L:Nat}(hL:L<=4)(a:dL)(rest:List dL): ∀{kds ai:List Kd} {rows:List dL} (h:SG L kds rows ai) (s t:Sl),kds.length+rows.length<1000-> ∃s' t',aD (gN 4) cO (rows++rest) [.va a,.va (.int L),.ow (.lst ((Wb kds).map .bl)),.ow (.lst ((Pb kds).map .bl)),s,t]=
  aD (gN 4) cO rest [.va a,.va (.int L),.ow (.lst ((Wb ai).map .bl)),.ow (.lst ((Pb ai).map .bl)),s',t']
 |_,_,[],.nil,s,t,_=>⟨s,t,rfl⟩
 |kds,_,row::rows,.cons (k:=k) r h,s,t,hl=>by
  obtain⟨s',t',e⟩:=KS hL a rest h (.va row) (.va (WB k)) (by simp at hl⊢;omega);refine⟨s',t',?_⟩;have h1:kds.length<16777216:=by omega
  have w1:Wb (kds++[k])=Wb kds++[decide (k= .w)]:=by simp[Wb]
  have p1:Pb (kds++[k])=Pb kds++[decide (k= .p)]:=by simp[Pb]
  rw[w1,p1] at e;have lw:(Wb kds).length=kds.length:=by simp[Wb]
  have lp:(Pb kds).length=kds.length:=by simp[Pb]
  have pr:=OT r hL;simp only[Fh,Be,Fq] at e;have body:cO [.va a,.va (.int L),.ow (.lst ((Wb kds).map .bl)),.ow (.lst ((Pb kds).map .bl)),.va row,t]=some (.nx [.va a,.va (.int L),.ow (.lst ((Wb kds).map .bl++[.bl (decide (k= .w))])),.ow (.lst ((Pb kds).map .bl++[.bl (decide (k= .p))])),.va row,.va (WB k)]):=by simp[cO,pr,dL.hard,F1 r,zC9,zCA,lw,lp,h1]
  rw[Dv,X6,P2,TL];show qf2 _ _ _ (cO [.va a,.va (.int L),.ow (.lst ((Wb kds).map .bl)),.ow (.lst ((Pb kds).map .bl)),.va row,t])=_;rw[body,TM];exact e
theorem ES{L:Nat}{sure:Int}{M A B:List dL}{b:dL}{j:List Kd}(hM:M=A++b::B)(h:SG L [] A j)(hb:Z7 [b,.lst ((Wb j).map .bl)]=some (.bl false,[]))(hd: ∃(x:String) (t:List dL),b= .tup (.str x::t)/\x∉["wide","gather","shuffle","lane"]) (hL2:2<=L) (hL:L<=4) (h0:0<=sure) (h1:sure<=64) (hr:M.length<=400):bQ [.tup [.int L,.int sure,.tup M]]=some (.bl false,[]):=by
 have hA:A.length<=400:=by
  rw[hM,Br] at hr;lia
 obtain⟨s',t',e⟩:=KS hL (.tup M) (b::B) h .no .no (by simp;omega);have e0:bD [b,.int L,.lst ((Wb j).map .bl),.lst ((Pb j).map .bl)]=some (.bl false,[]):=by
  obtain⟨x,t,rfl,hx⟩:=hd;unfold bD;rw[c5];unfold Y6;simp only[Aj,Av,or_false,not_or] at hx;have hz: ¬((t.length:Int)+1=0):=by omega
  simp[cV,hx,hz,hb]
 have e2:bT [.tup M,.int L]=some (.bl false,[]):=by
  unfold bT;rw[c5,ZQ.eq_1];rw[<- hM,show(Wb []).map dL.bl=[] from rfl,show(Pb []).map dL.bl=[] from rfl] at e;have e5: ∃δ,aD (gN 4) cO M [.va (.tup M),.va (.int L),.ow (.lst []),.ow (.lst []),.no,.no]=some (.rt (.bl false) δ):=⟨_,by
   rw[e,X6];simp[cO,e0];rfl⟩
  obtain⟨δ,e5⟩:=e5;simp[cV,e5]
 have e3:ZB [.int L]=some (.bl true,[]):=by
  have a1:(2:Int)<=L:=by omega
  have a2:(L:Int)<=4:=by omega
  unfold ZB;rw[c5];unfold VY;simp[cV,XZ,XM,a1,a2]
 have h2: ¬(400:Int)<M.length:=by omega
 unfold bQ;rw[c5];unfold XO;simp[cV,e3,WT,Z0,h0,h1,h2,e2]
def At(V:List dL)(i:Int)(d:dL):Prop:=0<=i/\V[i.toNat]? =some d
theorem At.at{V:List dL}{i:Int}{d:dL}(h:At V i d):W4 V i=some d:=by
 have:=(Ai.mp h.2).1;have:=h.1;rw[XQ h.1 (by lia)];exact h.2
theorem At.app{V:List dL}{i:Int}{d:dL}(h:At V i d)(t:List dL):At (V++t) i d:=⟨h.1,by rw[Af (Ai.mp h.2).1];exact h.2⟩
theorem At.new{V:List dL}{d:dL}{t:List dL}{k:Nat}(h:t[k]? =some d):At (V++t) ((V.length+k:Nat):Int) d:=⟨by lia,by
 rw[Cy,As (by lia)];rw[show V.length+k - V.length=k by lia];exact h⟩
def wv(m:List dL)(a:Int):Int:=match W4 m a with
 |some (.int x)=>x
 |_=>0
theorem DM{V:List dL}{i w:Int}(h:At V i (.int w)):wv V i=w:=by
 unfold wv;rw[h.at]
noncomputable def NJ(m:List dL)(a:Int)(k:Nat):Int:=match W4 m a with
 |some (.lst xs)=>match xs[k]? with
  |some (.int x)=>x
  |_=>0
 |_=>0
structure NZ(L:Nat)(hm:Wh->Option Int)(kds:List Kd)(W V:List dL):Prop where
 len:W.length=kds.length
 word: ∀r,Nm kds .w r-> ∃w,Wd w/\At W r (.int w)/\At V (V0 hm (r,none)) (.int w)
 pack: ∀r,Nm kds .p r-> ∃xs:List Int,xs.length=L/\(∀x∈xs,Wd x)/\At W r (.lst (xs.map .int))/\ ∀l:Nat,l<L->At V (V0 hm (r,some (l:Int))) (.int (xs.getD l 0))
theorem NZ.w{L:Nat}{hm:Wh->Option Int}{kds:List Kd}{W V:List dL}(R:NZ L hm kds W V){r:Int}(h:Nm kds .w r):Wd (wv W r)/\W4 W r=some (.int (wv W r))/\At V (V0 hm (r,none)) (.int (wv W r)):=by
 obtain⟨w,h1,h2,h3⟩:=R.word r h;rw[DM h2];exact⟨h1,h2.at,h3⟩
theorem NZ.p{L:Nat}{hm:Wh->Option Int}{kds:List Kd}{W V:List dL}(R:NZ L hm kds W V){r:Int}(h:Nm kds .p r){l:Nat}(hl:l<L): ∃xs:List Int,xs.length=L/\(∀x∈xs,Wd x)/\W4 W r=some (.lst (xs.map .int))/\W4 (xs.map dL.int) (l:Int)=some (.int (NJ W r l))/\Wd (NJ W r l)/\At V (V0 hm (r,some (l:Int))) (.int (NJ W r l))/\NJ W r l=xs.getD l 0:=by
 obtain⟨xs,h1,h2,h3,h4⟩:=R.pack r h;have hlt:l<xs.length:=by lia
 have e:NJ W r l=xs.getD l 0:=by
  unfold NJ;rw[h3.at];simp[hlt]
 have e2:xs.getD l 0=xs[l]:=by simp[hlt]
 refine⟨xs,h1,h2,h3.at,?_,?_,?_,e⟩
 ·rw [XQ (by lia) (by simp;lia),e,Cy]
  simp[hlt]
 ·rw[e,e2]
  exact h2 _ (Iu hlt)
 ·rw[e]
  exact h4 l hl
theorem NZ.more{L:Nat}{hm:Wh->Option Int}{kds:List Kd}{W V:List dL}(R:NZ L hm kds W V)(t:List dL)(d:dL)(k:Kd)(hw:k= .w-> ∃w,Wd w/\d= .int w/\At (V++t) (V0 hm ((kds.length:Int),none)) (.int w))(hp:k= .p-> ∃xs:List Int,xs.length=L/\(∀x∈xs,Wd x)/\d= .lst (xs.map .int)/\ ∀l:Nat,l<L->At (V++t) (V0 hm ((kds.length:Int),some (l:Int))) (.int (xs.getD l 0))):NZ L hm (kds++[k]) (W++[d]) (V++t):=by
 have new:At (W++[d]) (kds.length:Int) d:=by
  have:=At.new (V:=W) (t:=[d]) (k:=0) (d:=d) rfl;rw[R.len] at this;exact this
 refine⟨by simp[R.len],fun r h=> ?_,fun r h=> ?_⟩
 ·rcases Z1 h with h|⟨rfl,hk⟩
  ·obtain⟨w,h1,h2,h3⟩:=R.word r h
   exact⟨w,h1,h2.app _,h3.app _⟩
  ·obtain⟨w,h1,rfl,h3⟩:=hw hk
   exact⟨w,h1,new,h3⟩
 ·rcases Z1 h with h|⟨rfl,hk⟩
  ·obtain⟨xs,h1,h2,h3,h4⟩:=R.pack r h
   exact⟨xs,h1,h2,h3.app _,fun l hl=>(h4 l hl).app _⟩
  ·obtain⟨xs,h1,h2,rfl,h4⟩:=hp hk
   exact⟨xs,h1,h2,new,h4⟩
theorem K1{M:Int->Prop}{row:dL}(h:bB M row)(ws cs:List Int)(lane:Int)(hl:0<=lane)(hw:ws.length=JK row)(hws: ∀w∈ws,Wd w)(hcs: ∀c∈cs,Wd c): ∃m y cs',PrB row lane ws cs m y cs':=by
 by_cases hn: ∀n,row≠ .tup [.str "number",.int n]
 ·exact E7 h hn ws cs lane hl hw hws hcs
 ·obtain⟨n,hn⟩:=Jy.mp hn
  have hn:=Classical.not_not.mp hn;subst hn;have hW:Wd n:=by
   generalize hr:dL.tup [.str "number",.int n]=row at h;cases h with
   |number a b=>cases hr;exact⟨a,b⟩
   |two hx _ _=>
    simp only[dL.tup.injEq,Jp,dL.str.injEq,b5] at hr;exact absurd hr.1.symm (PJ hx (by decide)).1
   |_=>simp[b5] at hr
  exact⟨.int n,.non,cs,HX,fun f=>by rw[show aL lane f (.tup [.str "number",.int n])= .tup [.str "number",.int n] by kernel_rfl];exact HX,rfl,hcs,.inl rfl,.inr ⟨n,rfl,hW⟩,fun _ _=>⟨n,rfl,hW⟩⟩
theorem MB{M:Int->Prop}{row:dL}(h:bB M row)(l:Int)(f:Int->Int): ∃(x:String) (v:Int) (t:List dL),aL l f row= .tup (.str x:: .int v::t)/\¬x= "wide" /\¬x= "gather" /\¬x= "shuffle" /\¬x= "lane":=by
 cases h with
 | @number n _ _=>exact⟨"number",n,[],by kernel_rfl,by decide⟩
 |two hx _ _=>exact⟨_,_,_,(KQ hx (PJ hx (by decide)).1).2,(PJ hx (by decide)).1,(PJ hx (by decide)).1,(PJ hx (by decide)).1,(PJ hx (by decide)).1⟩
 |pick=>exact⟨_,_,_,NL,by decide⟩
 |load=>exact⟨_,_,_,Q1,by decide⟩
 |take=>exact⟨_,_,_,UP,by decide⟩
 |store=>exact⟨_,_,_,SY,by decide⟩
 |put=>exact⟨_,_,_,R6,by decide⟩
theorem HI(row:dL):JK row<=3:=by
 unfold JK;split
 ·split
  ·omega
  ·split
   ·omega
   ·split<;>omega
 ·omega
noncomputable def fW(m:List dL):dL->dL
 | .int a=> .int (wv m a)
 |_=> .non
theorem zFK(m:List dL)(as:List Int):(as.map dL.int).map (fW m)=(as.map (wv m)).map dL.int:=by simp[fW]
theorem AE{V:List dL}{as:List Int}(has:as.length<=4)(hV: ∀a∈as,W4 V a=some (.int (wv V a))):ZZ 1 1 (gN 1) X5 (f2 cT (fO 0) (fV 1)) (as.map .int) [] [.ow (.lst V)]=some ((as.map (wv V)).map .int,[.ow (.lst V)]):=by
 rw[YE 1 _ [.ow (.lst V)] (fW V) rfl _ [] (fun d hd=> ?_) (by simp;omega),zFK]
 ·rfl
 ·obtain⟨x,hx,rfl⟩:=Ay.mp hd
  simp[hV x hx,fW]
theorem HJ{x:String}{v:Int}{t:List dL}(hx: ¬x= "wide" /\¬x= "gather" /\¬x= "shuffle" /\¬x= "lane") {as:List Int} (hn:aI [.tup (.str x:: .int v::t)]=some (.lst (as.map .int),[])) (has:as.length<=4) {V:List dL} (hV: ∀a∈as,W4 V a=some (.int (wv V a))) {cs cs':List Int} {m y:dL} (B:a9 [.tup (.str x:: .int v::t),.lst ((as.map (wv V)).map .int),.lst (cs.map .int),.int 0]=some (.tup [m,y],[.lst (cs'.map .int)])) (L:Int):
  cY [.tup (.str x:: .int v::t),.int L,.lst V,.lst (cs.map .int)]=some (.tup [m,.non,y],[.lst V,.lst (cs'.map .int)]):=by
 have c:=AE has hV;generalize as.map (wv V)=ws at B c;obtain⟨x2,x3,x4,x5⟩:=hx;have y3: ¬ "gather"=x:=fun z=>x3 z.symm;have y4: ¬ "shuffle"=x:=fun z=>x4 z.symm;have y5: ¬ "lane"=x:=fun z=>x5 z.symm;unfold cY;rw[c5];unfold bE;simp[cV,x2,y3,y4,y5,hn,bM,c,B]
theorem A6{M:Int->Prop}{row:dL}(h:bB M row)(l:Int)(f:Int->Int){V:List dL}{g:Int->Int}(hV: ∀a∈YB row,At V (f a) (.int (g a))){cs cs':List Int}{m y:dL}(B:a9 [aL l f row,.lst (((YB row).map g).map .int),.lst (cs.map .int),.int 0]=some (.tup [m,y],[.lst (cs'.map .int)]))(L:Int):
  cY [aL l f row,.int L,.lst V,.lst (cs.map .int)]=some (.tup [m,.non,y],[.lst V,.lst (cs'.map .int)]):=by
 have S:=TQ h l f;have hn:=S.nms;have hg:(YB row).map g=((YB row).map f).map (wv V):=by
  rw[Dw];exact Dq fun a ha=>(DM (hV a ha)).symm
 rw[hg] at B;obtain⟨x,v,t,e,hx⟩:=MB h l f;rw[e] at hn B⊢;have hc:=S.cntq;have:=HI row;exact HJ hx hn (by simp;lia) (fun a ha=>by
  obtain⟨b,hb,rfl⟩:=Ay.mp ha;rw[DM (hV b hb)];exact(hV b hb).at) B L
noncomputable def QG(pg cells:dL)(L sure:Int)(rows:dL)(cs:List Int)(pm:List dL)(a b c d e:Sl):Ev:=
 [.va pg,.va cells,.va (.int L),.va (.int sure),.va rows,.ow (.lst (cs.map .int)),.ow (.lst pm),a,b,c,d,e]
abbrev rG:VG:=M9 2 (b4 (gN 7) (b4 (gN 8) YA))
theorem V7{pg cells rws:dL}{L sure:Int}{row m ln:dL}{V:List dL}{cs cs':List Int}(h:cY [row,.int L,.lst V,.lst (cs.map .int)]=some (.tup [m,ln,.non],[.lst V,.lst (cs'.map .int)]))(hV:V.length<10000)(i:Nat)(rest:List dL)(a b c d e:Sl):
  aD rG cX (.tup [.int i,row]::rest) (QG pg cells L sure rws cs V a b c d e)=aD rG cX rest (QG pg cells L sure rws cs' (V++[m]) (.va (.int i)) (.va row) (.va m) (.va ln) (.va .non)):=by
 have hV':V.length<16777216:=by omega
 have b0:cX (QG pg cells L sure rws cs V (.va (.int i)) (.va row) c d e)=some (.nx (QG pg cells L sure rws cs' (V++[m]) (.va (.int i)) (.va row) (.va m) (.va ln) (.va .non))):=by simp[cX,QG,h,hV']
 have p0:aD rG cX (.tup [.int i,row]::rest) (QG pg cells L sure rws cs V a b c d e)=qf2 rG cX rest (cX (QG pg cells L sure rws cs V (.va (.int i)) (.va row) c d e)):=by
  rw[X6];simp[QG]
 rw[p0,b0,TM]
theorem R7{pg cells rws:dL}{L sure:Int}{row m ln:dL}{s:String}{V:List dL}{cs cs':List Int}(h:cY [row,.int L,.lst V,.lst (cs.map .int)]=some (.tup [m,ln,.str s],[.lst V,.lst (cs'.map .int)]))(i:Nat)(rest:List dL)(a b c d e:Sl):
  ∃δ,aD rG cX (.tup [.int i,row]::rest) (QG pg cells L sure rws cs V a b c d e)=some (.rt (.tup [.lst (cs'.map .int),.tup [.int i,ln,.str s]]) δ):=by
 have b0: ∃δ',cX (QG pg cells L sure rws cs V (.va (.int i)) (.va row) c d e)=some (.rt (.tup [.lst (cs'.map .int),.tup [.int i,ln,.str s]]) δ'):=⟨_,by
  simp[cX,QG,h];rfl⟩
 obtain⟨δ,b0⟩:=b0;have p0:aD rG cX (.tup [.int i,row]::rest) (QG pg cells L sure rws cs V a b c d e)=qf2 rG cX rest (cX (QG pg cells L sure rws cs V (.va (.int i)) (.va row) c d e)):=by
  rw[X6];simp[QG]
 exact⟨δ,by rw[p0,b0,zBY]⟩
noncomputable def IS(inner:dL)(L:Int)(pm:List dL)(cs:List Int)(acc:List dL)(a b c d:Sl):Ev:=
 [.va inner,.va (.int L),.ow (.lst pm),.ow (.lst (cs.map .int)),.ow (.lst acc),a,b,c,d]
theorem E3(lo:Int)(n:Nat):ZT lo (n+1)= .int lo::ZT (lo+1) n:=by
 unfold ZT;rw[Gi];simp only[Be,Dw];refine congr (congrArg List.cons (by simp)) (Dq fun k _=> ?_);simp only[Kt];congr 1;push_cast
 omega
noncomputable def fP(m:List dL)(k:Nat):dL->dL
 | .int a=> .int (NJ m a k)
 |_=> .non
theorem zFL(m:List dL)(k:Nat)(as:List Int):(as.map dL.int).map (fP m k)=(as.map fun a=>NJ m a k).map dL.int:=by simp[fP]
theorem EN{inner:dL}{lane:Int}{ws cs cs':List Int}{m y:dL}(B:PrB inner lane ws cs m y cs'){as:List Int}{pm:List dL}(hn:aI [inner]=some (.lst (as.map .int),[]))
  (hc:ZZ 2 1 (gN 2) X5 (f2 cT (f2 cT (fO 0) (fV 2)) (fV 1)) (as.map .int) [] [.ow (.lst pm),.va (.int lane)]=some (ws.map .int,[.ow (.lst pm),.va (.int lane)]))
  (L:Int) (acc:List dL) (b c d:Sl) (ha:acc.length<1000):
  (y= .non/\ZS (IS inner L pm cs acc (.va (.int lane)) b c d)=some (.nx (IS inner L pm cs' (acc++[m]) (.va (.int lane)) (.va (.lst (ws.map .int))) (.va m) (.va .non))))∨
  (∃s:String,y= .str s/\ZS (IS inner L pm cs acc (.va (.int lane)) b c d)=some (.rt (.tup [.lst acc,.int lane,.str s]) (IS inner L pm cs' acc (.va (.int lane)) (.va (.lst (ws.map .int))) (.va m) (.va (.str s))))):=by
 have ha':acc.length<16777216:=by omega
 have e:=B.prog;rcases B.why with rfl|⟨s,rfl⟩
 ·exact .inl ⟨rfl,by simp[ZS,IS,hn,bM,hc,e,ha']⟩
 ·exact .inr ⟨s,rfl,by simp[ZS,IS,hn,bM,hc,e]⟩
section
variable{L:Nat}{hm:Wh->Option Int}{kds:List Kd}{W V:List dL}(pg cells rws:dL)(sure:Int)
theorem ND(R:NZ L hm kds W V){inner:dL}(h:bB (Nm kds .p) inner)(hL:L<=4)(hV:V.length<9000)(M:List dL):
  ∀(k j:Nat),j+k=L-> ∀(cs:List Int) (acc:List dL) (a b c d a' b' c' d' e':Sl),(∀x∈cs,Wd x)->acc.length=j→
  (∃(cs':List Int) (ms:List dL) (t1 t2 t3 t4 u1 u2 u3 u4 u5:Sl),ms.length=k/\(∀x∈cs',Wd x)/\(VJ .w inner= .w-> ∃xs:List Int,ms=xs.map .int/\ ∀x∈xs,Wd x)∧
   aD (gN 5) ZS (ZT j k) (IS inner L W cs acc a b c d)=some (.nx (IS inner L W cs' (acc++ms) t1 t2 t3 t4))∧
   aD rG cX (YS (V.length+j) ((Mm j k).map (fun l:Nat=>aL l (fun x=>V0 hm (x,some (l:Int))) inner)++M)) (QG pg cells L sure rws cs (V++acc) a' b' c' d' e')=aD rG cX (YS (V.length+L) M) (QG pg cells L sure rws cs' (V++(acc++ms)) u1 u2 u3 u4 u5))∨
  (∃(cs':List Int) (lane:Nat) (s:String) (aw:List dL) (δ:Ev) (t1 t2 t3 t4:Sl),lane<L∧
   aD (gN 5) ZS (ZT j k) (IS inner L W cs acc a b c d)=some (.rt (.tup [.lst aw,.int lane,.str s]) (IS inner L W cs' aw t1 t2 t3 t4))∧
   aD rG cX (YS (V.length+j) ((Mm j k).map (fun l:Nat=>aL l (fun x=>V0 hm (x,some (l:Int))) inner)++M)) (QG pg cells L sure rws cs (V++acc) a' b' c' d' e')=some (.rt (.tup [.lst (cs'.map .int),.tup [.int ((V.length+lane:Nat):Int),.non,.str s]]) δ))
 |0,j,hjk,cs,acc,a,b,c,d,a',b',c',d',e',hcs,ax=> .inl ⟨cs,[],a,b,c,d,a',b',c',d',e',rfl,hcs,fun _=>⟨[],rfl,fun _ h=>nomatch h⟩,by simp,by rw[show L=j by lia];simp⟩
 | k + 1,j,hjk,cs,acc,a,b,c,d,a',b',c',d',e',hcs,ax => by
  have S:=TQ h j (fun x=>V0 hm (x,some (j:Int)));have hj:j<L:=by lia
  have hc:=S.cntq;have hc3:=HI inner;have hP: ∀a∈YB inner,∃xs:List Int,xs.length=L/\(∀x∈xs,Wd x)/\W4 W a=some (.lst (xs.map .int))/\W4 (xs.map dL.int) (j:Int)=some (.int (NJ W a j))/\Wd (NJ W a j)/\At V (V0 hm (a,some (j:Int))) (.int (NJ W a j))/\NJ W a j=xs.getD j 0:=fun a ha=>R.p (S.mem a ha) hj;have hws: ∀w∈(YB inner).map (fun a=>NJ W a j),Wd w:=fun w hw=>by
   obtain⟨a,ha,rfl⟩:=Ay.mp hw;obtain⟨_,_,_,_,_,z,_,_⟩:=hP a ha;exact z
  obtain⟨m,y,cs1,B⟩:=K1 h ((YB inner).map fun a=>NJ W a j) cs (j:Int) (by omega) (by simp[hc]) hws hcs;have hcc:ZZ 2 1 (gN 2) X5 (f2 cT (f2 cT (fO 0) (fV 2)) (fV 1)) ((YB inner).map .int) [] [.ow (.lst W),.va (.int j)]=some (((YB inner).map fun a=>NJ W a j).map .int,[.ow (.lst W),.va (.int j)]):=by
   rw[YE 2 _ [.ow (.lst W),.va (.int j)] (fP W j) rfl _ [] (fun d hd=> ?_) (by simp;omega),zFL]
   ·rfl
   ·obtain⟨a,ha,rfl⟩:=Ay.mp hd
    obtain⟨xs,_,_,e2,e3,_⟩:=hP a ha;simp[e2,e3,fP]
  have e2:=EN B S.nmr hcc L acc b c d (by omega);have e3:=A6 h j (fun x=>V0 hm (x,some (j:Int))) (V:=V++acc) (g:=fun a=>NJ W a j) (fun a ha=>by
   obtain⟨_,_,_,_,_,_,z,_⟩:=hP a ha;exact z.app _) (B.narr _) (L:Int)
  rw[E3,X6,P2,TL,List.range'_succ,Be,Dv,TH];have s2:(IS inner L W cs acc a b c d).set 5 (.va (.int j))=IS inner L W cs acc (.va (.int j)) b c d:=rfl;rw[s2];rcases e2 with⟨rfl,e2⟩|⟨s,rfl,e2⟩
  ·rw [e2,TM,show ((j : Int) + 1) = ((j + 1 : Nat) : Int) by push_cast;rfl,V7 e3 (by simp;lia),Bl,Nf]
   rcases ND R h hL hV M k (j+1) (by omega) cs1 (acc++[m]) (.va (.int j)) (.va (.lst (((YB inner).map fun a=>NJ W a j).map .int))) (.va m) (.va .non) (.va (.int ((V.length+j:Nat):Int))) (.va (aL j (fun x=>V0 hm (x,some (j:Int))) inner)) (.va m) (.va .non) (.va .non) B.ok (by simp[ax]) with
    ⟨cs',ms,t1,t2,t3,t4,u1,u2,u3,u4,u5,q1,q3,q4,q5,q6⟩|⟨cs',lane,s,aw,δ,t1,t2,t3,t4,q1,q3,q4⟩
   ·refine .inl ⟨cs',m :: ms,t1,t2,t3,t4,u1,u2,u3,u4,u5,by simp [q1],q3,fun hk => ?_,by rw [q5];simp,by rw [q6];simp⟩
    obtain⟨xs,rfl,hx⟩:=q4 hk;obtain⟨w,rfl,hw⟩:=B.word rfl hk;exact⟨w::xs,rfl,fun x hx'=>by
     rcases Aj.mp hx' with z|z
     ·rw[z];exact hw
     ·exact hx x z⟩
   ·exact .inr ⟨cs',lane,s,aw,δ,t1,t2,t3,t4,q1,q3,q4⟩
  ·obtain ⟨δ,e4⟩ := R7 (pg := pg) (cells := cells) (rws := rws) (sure := sure) e3 (V.length + j) (YS (V.length + j + 1) ((Mm (j + 1) k).map (fun l : Nat => aL l (fun x => V0 hm (x,some (l : Int))) inner) ++ M)) a' b' c' d' e'
   rw[e2,zBY];exact .inr ⟨cs1,j,s,acc,δ,_,_,_,_,hj,rfl,e4⟩
theorem J9(M:List dL)(cs:List Int): ∀(ws:List Int) (V:List dL) (a b c d e:Sl),V.length+ws.length<9000-> ∃u1 u2 u3 u4 u5,aD rG cX (YS V.length (ws.map (fun w=> .tup [.str "number",.int w])++M)) (QG pg cells L sure rws cs V a b c d e)=aD rG cX (YS (V.length+ws.length) M) (QG pg cells L sure rws cs (V++ws.map .int) u1 u2 u3 u4 u5)
 |[],V,a,b,c,d,e,_=>⟨a,b,c,d,e,by simp⟩
 | w :: ws,V,a,b,c,d,e,hl => by
  simp only[Bg] at hl;have e1:cY [.tup [.str "number",.int w],.int L,.lst V,.lst (cs.map .int)]=some (.tup [.int w,.non,.non],[.lst V,.lst (cs.map .int)]):=
   HJ (x:= "number") (t:=[]) (by decide) (as:=[]) (by kernel_rfl) (by simp) (fun _ h=>nomatch h) HX L
  obtain⟨u1,u2,u3,u4,u5,ih⟩:=J9 M cs ws (V++[.int w]) (.va (.int V.length)) (.va (.tup [.str "number",.int w])) (.va (.int w)) (.va .non) (.va .non) (by simp;lia);refine⟨u1,u2,u3,u4,u5,?_⟩;rw[Be,Dv,TH,V7 e1 (by lia)];rw[Br,Jj] at ih;rw[ih];simp[Nf,Nat.add_comm 1]
end
inductive Dn(bk:Int->Option Wh)(pg pg' cells rws cj:dL)(L sure:Int)(w n:Option Ou):Prop
 |go {cs:List Int} {W V:List dL} {t1 t2 t3 t4 t5 u1 u2 u3 u4 u5:Sl}:w=some (.nx (QG pg cells L sure rws cs W t1 t2 t3 t4 t5))->n=some (.nx (QG pg' cells L sure cj cs V u1 u2 u3 u4 u5))->Dn bk pg pg' cells rws cj L sure w n
 |stop {cs:List Int} {i j:Int} {lane:Option Int} {s:String} {δ δ':Ev}:bk j=some (i,lane)->w=some (.rt (.tup [.lst (cs.map .int),.tup [.int i,ZK lane,.str s]]) δ)->n=some (.rt (.tup [.lst (cs.map .int),.tup [.int j,.non,.str s]]) δ')->Dn bk pg pg' cells rws cj L sure w n
theorem zFH{row:dL}(h:VJ .p row= .p):VJ .w row= .w:=by
 unfold VJ at h⊢;split at h
 ·split at h
  ·cases h
  ·rename_i z;rw[if_neg z]
 ·cases h
def zv(zs:List Int)(i:Int):Int:=zs.getD i.toNat 0
noncomputable def fZ(zs:List Int):dL->dL
 | .int i=> .int (zv zs i)
 |_=> .non
theorem zGF{zs:List Int}{i:Int}(h0:0<=i)(h1:i<zs.length)(hz: ∀z∈zs,Wd z):W4 (zs.map dL.int) i=some (.int (zv zs i))/\Wd (zv zs i):=by
 have hlt:i.toNat<zs.length:=by lia
 have e:zv zs i=zs[i.toNat]:=by simp[zv,hlt]
 refine⟨?_,by rw[e];exact hz _ (Iu hlt)⟩;rw[XQ h0 (by simpa using h1),e];simp[hlt]
theorem zFJ(zs is:List Int):(is.map dL.int).map (fZ zs)=(is.map (zv zs)).map dL.int:=by simp[fZ]
theorem dyn{L:Nat}(hL:2<=L)(hL4:L<=4)(pg pg' cells rws cj:dL)(sure:Int){hm:Wh->Option Int}{bk:Int->Option Wh}{kds:List Kd}{rows:List dL}{a:Nat}{M:List dL}(N:RB L hm bk kds rows a M): ∀(W V:List dL),NZ L hm kds W V->V.length=a-> ∀(cs:List Int),(∀c∈cs,Wd c)->kds.length+rows.length<1000->a+M.length<8000-> ∀(t1 t2 t3 t4 t5 u1 u2 u3 u4 u5:Sl),
  Dn bk pg pg' cells rws cj L sure (aD rG cX (YS kds.length rows) (QG pg cells L sure rws cs W t1 t2 t3 t4 t5)) (aD rG cX (YS a M) (QG pg' cells L sure cj cs V u1 u2 u3 u4 u5)):=by
 have hmi: ∀{k:Wh} {v:Int},hm k=some v->V0 hm k=v:=fun e=>by unfold V0;rw[e];rfl
 have hme: ∀{k j:Wh},hm k=hm j->V0 hm k=V0 hm j:=fun e=>by unfold V0;rw[e]
 induction N with
 |nil=>exact fun W V R hV cs hcs h1 h2 t1 t2 t3 t4 t5 u1 u2 u3 u4 u5=> .go (by simp[YS];rfl) (by simp[YS];rfl)
 | @nar kds row rows a M h e1 e2 N ih=>
  intro W V R hV cs hcs h1 h2 t1 t2 t3 t4 t5 u1 u2 u3 u4 u5;subst hV;simp only[Bg] at h1 h2;have S:=TQ h 0 (fun x=>V0 hm (x,none));have hc:=S.cntq;have hc3:=HI row;have hP: ∀a∈YB row,Wd (wv W a)/\W4 W a=some (.int (wv W a))/\At V (V0 hm (a,none)) (.int (wv W a)):=fun a ha=>R.w (S.mem a ha);obtain⟨m,y,cs1,B⟩:=K1 h ((YB row).map (wv W)) cs 0 (by decide) (by simp[hc]) (fun w hw=>by
   obtain⟨a,ha,rfl⟩:=Ay.mp hw;exact(hP a ha).1) hcs
  have ew:cY [row,.int L,.lst W,.lst (cs.map .int)]=some (.tup [m,.non,y],[.lst W,.lst (cs1.map .int)]):=by
   have hn:=S.nmr;have hb:=B.prog;have hq: ∀a∈YB row,W4 W a=some (.int (wv W a)):=fun a ha=>(hP a ha).2.1;generalize YB row=as at*;obtain⟨x,v,t,rfl,hx,_⟩:=hd5 h;exact HJ hx hn (by lia) hq hb L
  have en:=A6 h 0 (fun x=>V0 hm (x,none)) (V:=V) (g:=wv W) (fun a ha=>(hP a ha).2.2) (B.narr _) (L:Int);rw[TH,TH];have hW:=R.len;rcases B.why with rfl|⟨s,rfl⟩
  ·rw [V7 ew (by lia),V7 en (by lia)]
   have hl1:(kds++[VJ .w row]).length=kds.length+1:=by simp
   rw[<- hl1];refine ih (W++[m]) (V++[m]) (R.more [m] m _ (fun hk=> ?_) (fun hk=>absurd hk (QY (by decide) (by decide)))) (by simp) cs1 B.ok (by rw[hl1];lia) (by lia) _ _ _ _ _ _ _ _ _ _;obtain⟨w,rfl,hw⟩:=B.word rfl hk;refine⟨w,hw,rfl,?_⟩;rw[hmi e1];exact At.new (k:=0) rfl
  ·obtain⟨δ,z1⟩:=R7 (pg:=pg) (cells:=cells) (rws:=rws) (sure:=sure) ew kds.length (YS (kds.length+1) rows) t1 t2 t3 t4 t5
   obtain⟨δ',z2⟩:=R7 (pg:=pg') (cells:=cells) (rws:=cj) (sure:=sure) en V.length (YS (V.length+1) M) u1 u2 u3 u4 u5;exact .stop (lane:=none) e2 z1 z2
 | @wid kds ds rows a M h hn e1 N ih=>
  intro W V R hV cs hcs h1 h2 t1 t2 t3 t4 t5 u1 u2 u3 u4 u5;subst hV;simp only[Bg,Br,Bz,Gq] at h1 h2;have hLb:(-4611686018427387904:Int)<=L/\(L:Int)<4611686018427387904:=by omega
  have hW:=R.len;rw[TH];have sim:=ND pg' cells cj sure R h hL4 (by lia) M L 0 (by lia) cs [] .no .no .no .no u1 u2 u3 u4 u5 hcs rfl;simp only[Int.natCast_zero,Co,Nat.add_zero,Ca,<- List.range_eq_range'] at sim;obtain⟨x,v,t,hd,hx,hxn⟩:=hd5 h;cases hd;have x1: ¬x= "number":=fun z=>by
   subst z;exact hn v (by rw[hxn rfl])
  have hP: ∀r,BV [2,3] (qS (aD (gN 5) ZS (ZT 0 L) (IS (.tup (.str x:: .int v::t)) L W cs [] .no .no .no .no)) (cE (aZ (dH (fO 4) (dH (fC .non) (dH (fC .non) cK))))))=some r→
    Y4 [.tup (.str x:: .int v::t),.int L,.lst W,.lst (cs.map .int)]=some r:=fun r hr=>by
   rw[<- hr];unfold Y4;rw[c5,UC.eq_1];simp -implicitDefEqProofs [cV,x1,hLb,IS]
  have hP2: ∀{r:dL} {cs':List Int},Y4 [.tup (.str x:: .int v::t),.int L,.lst W,.lst (cs.map .int)]=some (r,[.lst W,.lst (cs'.map .int)])->cY [.tup (.str "wide":: .str x:: .int v::t),.int L,.lst W,.lst (cs.map .int)]=some (r,[.lst W,.lst (cs'.map .int)]):=fun{r cs'} hr=>by
   unfold cY;rw[c5];unfold bE;simp -implicitDefEqProofs [cV,hr]
  rcases sim with⟨cs',ms,s1,s2,s3,s4,v1,v2,v3,v4,v5,q1,q3,q4,q5,q6⟩|⟨cs',lane,s,aw,δ,s1,s2,s3,s4,q1,q3,q4⟩
  ·have ew := hP2 (hP _ (by rw [q5];simp [IS];exact ⟨rfl,rfl⟩))
   rw[q6,V7 ew (by lia)];have hl1:(kds++[VJ .p (.tup (.str x:: .int v::t))]).length=kds.length+1:=by simp
   rw[<- hl1];refine ih (W++[.lst ms]) (V++ms) (R.more ms (.lst ms) _ (fun hk=>absurd hk (QY (by decide) (by decide))) (fun hk=> ?_)) (by simp[q1]) cs' q3 (by rw[hl1];lia) (by lia) _ _ _ _ _ _ _ _ _ _;obtain⟨xs,rfl,hw⟩:=q4 (zFH hk);refine⟨xs,by simpa using q1,hw,rfl,fun l hl=> ?_⟩;rw[hmi (e1 l hl).1];rw[Bz] at q1;have hlt:l<xs.length:=by lia
   exact At.new (by simp[hlt])
  ·have ew := hP2 (hP _ (by rw [q3];simp [IS];exact ⟨rfl,rfl⟩))
   obtain⟨δ2,z1⟩:=R7 (pg:=pg) (cells:=cells) (rws:=rws) (sure:=sure) ew kds.length (YS (kds.length+1) rows) t1 t2 t3 t4 t5;exact .stop (lane:=some (lane:Int)) (e1 lane q1).2 z1 q4
 | @wnum kds ws rows a M hw hws e1 N ih=>
  intro W V R hV cs hcs h1 h2 t1 t2 t3 t4 t5 u1 u2 u3 u4 u5;subst hV;simp only[Bg,Br,Bz] at h1 h2;have hW:=R.len;have ew:cY [.tup [.str "wide",.str "number",.tup (ws.map .int)],.int L,.lst W,.lst (cs.map .int)]=some (.tup [.lst (ws.map .int),.non,.non],[.lst W,.lst (cs.map .int)]):=by
   have e1:Y4 [.tup [.str "number",.tup (ws.map .int)],.int L,.lst W,.lst (cs.map .int)]=some (.tup [.lst (ws.map .int),.non,.non],[.lst W,.lst (cs.map .int)]):=by
    unfold Y4;rw[c5,UC.eq_1];simp -implicitDefEqProofs [cV]
   unfold cY;rw[c5];unfold bE;simp -implicitDefEqProofs [cV,e1]
  obtain⟨v1,v2,v3,v4,v5,q⟩:=J9 (L:=L) pg' cells cj sure M cs ws V u1 u2 u3 u4 u5 (by lia);rw[TH,V7 ew (by lia),q,hw];have hl1:(kds++[Kd.p]).length=kds.length+1:=by simp
  rw[<- hl1];refine ih (W++[.lst (ws.map .int)]) (V++ws.map .int) (R.more _ _ _ (fun hk=>nomatch hk) (fun hk=>⟨ws,hw,hws,rfl,fun l hl=> ?_⟩)) (by simp[hw]) cs hcs (by rw[hl1];lia) (by lia) _ _ _ _ _ _ _ _ _ _;rw[hmi (e1 l hl)];have hlt:l<ws.length:=by lia
  exact At.new (by simp[hlt])
 | @gather kds rs rows a M hr hrs e1 N ih=>
  intro W V R hV cs hcs h1 h2 t1 t2 t3 t4 t5 u1 u2 u3 u4 u5;simp only[Bg] at h1;have hW:=R.len;have c2:=AE (V:=W) (as:=rs) (by lia) fun a ha=>(R.w (hrs a ha)).2.1;have e0:XY [.tup [.str "gather",.tup (rs.map .int)],.lst W]=some (.lst ((rs.map (wv W)).map .int),[.lst W]):=by
   generalize (rs.map (wv W)).map dL.int=o at c2⊢;unfold XY;rw[c5];unfold RN;simp only[cV];simp -implicitDefEqProofs [bM,c2]
  have ew:cY [.tup [.str "gather",.tup (rs.map .int)],.int L,.lst W,.lst (cs.map .int)]=some (.tup [.lst ((rs.map (wv W)).map .int),.non,.non],[.lst W,.lst (cs.map .int)]):=by
   generalize (rs.map (wv W)).map dL.int=o at e0⊢;unfold cY;rw[c5];unfold bE;simp -implicitDefEqProofs [cV,e0]
  rw[TH,V7 ew (by lia)];have hl1:(kds++[Kd.p]).length=kds.length+1:=by simp
  rw[<- hl1];have R2:=R.more [] (.lst ((rs.map (wv W)).map .int)) .p (fun hk=>nomatch hk) (fun hk=>⟨rs.map (wv W),by simp[hr],fun x hx=>by
   obtain⟨a,ha,rfl⟩:=Ay.mp hx;exact(R.w (hrs a ha)).1,rfl,fun l hl=>by
   have hlt:l<rs.length:=by lia
   rw[hme (e1 l hl)];have:=(R.w (hrs (rs.getD l 0) (by simp[hlt]))).2.2;simpa[hlt] using this⟩)
  rw[Ca] at R2;exact ih _ V R2 hV cs hcs (by rw[hl1];lia) h2 _ _ _ _ _ _ _ _ _ _
 | @shuf kds p q ps rows a M hp hq hr hx e1 N ih=>
  intro W V R hV cs hcs h1 h2 t1 t2 t3 t4 t5 u1 u2 u3 u4 u5;simp only[Bg] at h1;have hW:=R.len;obtain⟨xs,l1,x1,a2,_⟩:=R.p hp (l:=0) (by lia);obtain⟨ys,l2,y1,b2,_⟩:=R.p hq (l:=0) (by lia);have hz: ∀z∈xs++ys,Wd z:=fun z hz=>(Bi.mp hz).elim (x1 z) (y1 z);have am:(xs++ys).length=2*L:=by simp;omega
  have hzz:xs.map dL.int++ys.map dL.int=(xs++ys).map dL.int:=by simp
  have hle:xs.length+ys.length<=16777216:=by omega
  have zz: ∀x∈ps,W4 ((xs++ys).map dL.int) x=some (.int (zv (xs++ys) x))/\Wd (zv (xs++ys) x):=fun x hx'=>zGF (hx x hx').1 (by rw[am];have:=(hx x hx').2;omega) hz;have c2:ZZ 1 1 (gN 1) X5 (f2 cT (fV 0) (fV 1)) (ps.map .int) [] [.va (.lst (xs.map dL.int++ys.map dL.int))]=some ((ps.map (zv (xs++ys))).map .int,[.va (.lst (xs.map dL.int++ys.map dL.int))]):=by
   rw[YE 1 _ [.va (.lst (xs.map dL.int++ys.map dL.int))] (fZ (xs++ys)) rfl _ [] (fun d hd=> ?_) (by simp;omega),zFJ]
   ·rfl
   ·obtain⟨x,hx',rfl⟩:=Ay.mp hd
    have:=(zz x hx').1;rw[<- hzz] at this;simp[this,fZ]
  have e0:XY [.tup [.str "shuffle",.int p,.int q,.tup (ps.map .int)],.lst W]=some (.lst ((ps.map (zv (xs++ys))).map .int),[.lst W]):=by
   generalize (ps.map (zv (xs++ys))).map dL.int=o at c2⊢;unfold XY;rw[c5];unfold RN;simp only[cV];simp -implicitDefEqProofs [bM,a2,b2,hle,c2]
  have ew:cY [.tup [.str "shuffle",.int p,.int q,.tup (ps.map .int)],.int L,.lst W,.lst (cs.map .int)]=some (.tup [.lst ((ps.map (zv (xs++ys))).map .int),.non,.non],[.lst W,.lst (cs.map .int)]):=by
   generalize (ps.map (zv (xs++ys))).map dL.int=o at e0⊢;unfold cY;rw[c5];unfold bE;simp -implicitDefEqProofs [cV,e0]
  rw[TH,V7 ew (by lia)];have hl1:(kds++[Kd.p]).length=kds.length+1:=by simp
  rw[<- hl1];have R2:=R.more [] (.lst ((ps.map (zv (xs++ys))).map .int)) .p (fun hk=>nomatch hk) (fun hk=>⟨ps.map (zv (xs++ys)),by simp[hr],fun x hx'=>by
   obtain⟨a,ha,rfl⟩:=Ay.mp hx';exact(zz a ha).2,rfl,fun l hl=>by
   have hlt:l<ps.length:=by lia
   have hxx:=hx (ps.getD l 0) (by simp[hlt]);rw[hme (e1 l hl),Ca];have e5:(ps.map (zv (xs++ys))).getD l 0=zv (xs++ys) (ps.getD l 0):=by simp[hlt]
   rw[e5];unfold shO;show At V (V0 hm (if ps.getD ((l:Int)).toNat 0<(L:Int) then(p,some (ps.getD ((l:Int)).toNat 0)) else(q,some (ps.getD ((l:Int)).toNat 0 - L)))) _;rw[Cy];generalize ps.getD l 0=k at hxx⊢;split
   ·rename_i hk
    obtain⟨xs',_,_,a3,_,_,a4,a5⟩:=R.p hp (l:=k.toNat) (by lia);rw[a2] at a3;have hxe:xs=xs':=by
     injection a3 with a3;injection a3 with a3;exact(Ku fun u v e=>by injection e).mp a3
    subst hxe;rw[a5] at a4;rw[show((k.toNat:Nat):Int)=k by lia] at a4;have:zv (xs++ys) k=xs.getD k.toNat 0:=by
     unfold zv;have:k.toNat<xs.length:=by lia
     simp[Af this]
    rw[this];exact a4
   ·rename_i hk
    obtain⟨xs',_,_,a3,_,_,a4,a5⟩:=R.p hq (l:=(k - L).toNat) (by lia);rw[b2] at a3;have hxe:ys=xs':=by
     injection a3 with a3;injection a3 with a3;exact(Ku fun u v e=>by injection e).mp a3
    subst hxe;rw[a5] at a4;rw[show(((k - L).toNat:Nat):Int)=k - L by lia] at a4;have:zv (xs++ys) k=ys.getD (k - L).toNat 0:=by
     unfold zv;have h5:xs.length<=k.toNat:=by lia
     simp only[List.getD_eq_getElem?_getD];rw[As h5,show k.toNat - xs.length=(k - L).toNat by lia]
    rw[this];exact a4⟩)
  rw[Ca] at R2;exact ih _ V R2 hV cs hcs (by rw[hl1];lia) h2 _ _ _ _ _ _ _ _ _ _
 | @lane kds p k rows a M hp h0 hk e1 N ih=>
  intro W V R hV cs hcs h1 h2 t1 t2 t3 t4 t5 u1 u2 u3 u4 u5;simp only[Bg] at h1;have hW:=R.len;obtain⟨xs,_,_,a2,a3,a4,a5,_⟩:=R.p hp (l:=k.toNat) (by lia);rw[show((k.toNat:Nat):Int)=k by lia] at a3 a5;have e0:XY [.tup [.str "lane",.int p,.int k],.lst W]=some (.int (NJ W p k.toNat),[.lst W]):=by
   unfold XY;rw[c5];unfold RN;simp -implicitDefEqProofs [cV,a2,a3]
  have ew:cY [.tup [.str "lane",.int p,.int k],.int L,.lst W,.lst (cs.map .int)]=some (.tup [.int (NJ W p k.toNat),.non,.non],[.lst W,.lst (cs.map .int)]):=by
   unfold cY;rw[c5];unfold bE;simp -implicitDefEqProofs [cV,e0]
  rw[TH,V7 ew (by lia)];have hl1:(kds++[Kd.w]).length=kds.length+1:=by simp
  rw[<- hl1];have R2:=R.more [] (.int (NJ W p k.toNat)) .w (fun _=>⟨_,a4,rfl,by rw[hme e1,Ca];exact a5⟩) (fun hk=>nomatch hk);rw[Ca] at R2;exact ih _ V R2 hV cs hcs (by rw[hl1];lia) h2 _ _ _ _ _ _ _ _ _ _
theorem AD{cs:List Int}{sure:Int}(hcs: ∀c∈cs,Wd c)(h1:sure<=cs.length)(h2:cs.length<=64):X3 [.lst (cs.map .int),.int sure]=some (.bl true,[]):=by
 have e:=YE 0 (cZ 3 [] cD (aE (fV 0) (aE (fC (.int 0)) (aE (fC bV) cI)))) [] (fun _=> .bl true) rfl (cs.map .int) [] (fun x hx=>by
  obtain⟨w,hw',rfl⟩:=Ay.mp hx;have:=hcs w hw';simp[bV,this.1,this.2]) (by simp;omega)
 have h3:(cs.length:Int)<=64:=by omega
 unfold X3;rw[c5];unfold SN;simp only[Co] at e;simp[cV,VT,h1,h3,bM,e]
theorem zBH(ns:List Int)(n:Nat)(sure:Int)(hl:ns.length<=63)(hn:n<10000)(h0:0<=sure)(h1:sure<=64): ∃(cs:List Int) (n':Nat),(∀c∈cs,Wd c)/\sure<=cs.length/\cs.length<=64/\n'<=n+70/\YM [QM ns,TZ n,.int sure]=some (.lst (cs.map .int),[TZ n']):=by
 have d0:=aH ns n 9 hl (by omega) (by decide);have k0:=VN ns n (b:=9) (by decide);obtain⟨y,hy,ey⟩:=X1 ns (n+1) [.int sure,.int (if sure+PK ns n 9<64 then sure+PK ns n 9 else 64),.int 64] hl (by omega) (by simp);obtain⟨m,rfl,m0,m1⟩: ∃m:Int,y= .int m/\sure<=m/\m<=64:=by
  simp only[Aj,Av,or_false] at hy;rcases hy with h|h|h
  ·exact⟨_,h,by omega,by omega⟩
  ·exact⟨_,h,by split<;>omega,by split<;>omega⟩
  ·exact⟨_,h,by omega,by omega⟩
 obtain⟨z,hz,ez⟩:=X1 ns (n+2) [.int 2,.int 4,.int 1000] hl (by omega) (by simp);obtain⟨b,rfl,b0,b1⟩: ∃b:Int,z= .int b/\0<b/\b<=1000:=by
  simp only[Aj,Av,or_false] at hz;rcases hz with h|h|h<;>exact⟨_,h,by omega,by omega⟩
 have hrl:=OW m.toNat;obtain⟨ws,w1,w2,w3⟩:=UB ns b hl b0 (cZ 3 [1] cP (aE (fV 0) (aO 1 (aE (fV 2) cI)))) .no [.va (.int b)] 3 rfl (fun q d hq=>by simp[aH ns q b hl (by omega) b0]) (ZT 0 m.toNat) (n+3) [] (by rw[hrl];omega) (by rw[hrl];simp;omega);simp only[Co,hrl,Dv] at w3;rw[hrl] at w1;have hm:(-4611686018427387904:Int)<=m/\m<4611686018427387904:=by omega
 refine⟨ws,n+3+m.toNat,fun c hc=> ?_,by omega,by omega,by omega,?_⟩
 ·have:=w2 c hc
  exact⟨by omega,by omega⟩
 ·unfold YM
  rw[c5];unfold UZ;simp[cV,d0,ey,ez,hm,bM,w3]
theorem zC8(j:Int): ∀bs:List (Int×Wh),bO (bs.map fun p=>(.inl p.1:YY)) (bs.map fun p=>dL.tup [.int p.2.1,ZK p.2.2]) (.inl j)=(OK bs j).map fun k=> .tup [.int k.1,ZK k.2]
 |[]=>rfl
 | p :: bs => by
  have ih:=zC8 j bs;simp only[Be,bO];unfold OK at ih⊢;by_cases h:p.1=j
  ·simp[h]
  ·rw [if_neg (fun z => h (by injection z)),ih]
   simp[h]
theorem zI4{bs:List (Int×Wh)}{j i:Int}{lane:Option Int}(h:OK bs j=some (i,lane)):cT (TC bs) (.int j)=some (.tup [.int i,ZK lane]):=by
 unfold TC;rw[zB1,zC8,h];rfl
theorem CA{L:Nat}{sure:Int}{rows M:List dL}{kds kM:List Kd}{hs:List (Wh×Int)}{bs:List (Int×Wh)}(h:SG L [] rows kds)(hM:SG L [] M kM)(N:RB L (bW hs) (OK bs) [] rows 0 M)(hL:2<=L)(hL4:L<=4)(h0:0<=sure)(h1:sure<=64)(hr:rows.length<=400)(hr2:M.length<=400)(cs:List Int)(hcs: ∀c∈cs,Wd c)(hsu:sure<=cs.length)(np:cs.length<=64):
  ∃(cs':List Int) (ft ft':dL),aP [.tup [.int L,.int sure,.tup rows],.lst (cs.map .int)]=some (.tup [.lst (cs'.map .int),ft],[])/\aP [.tup [.int L,.int sure,.tup M],.lst (cs.map .int)]=some (.tup [.lst (cs'.map .int),ft'],[])∧
   ((ft= .non/\ft'= .non)∨ ∃(i j:Int) (lane:Option Int) (s:String),OK bs j=some (i,lane)/\ft= .tup [.int i,ZK lane,.str s]/\ft'= .tup [.int j,.non,.str s]):=by
 have hp:=UG h hL hL4 h0 h1 hr;have hp2:=UG hM hL hL4 h0 h1 hr2;have hc:=AD hcs hsu np;have R:NZ L (bW hs) [] [] []:=⟨rfl,fun r z=>(by cases z.2),fun r z=>(by cases z.2)⟩;have sim:=dyn hL hL4 (.tup [.int L,.int sure,.tup rows]) (.tup [.int L,.int sure,.tup M]) (.lst (cs.map .int)) (.tup rows) (.tup M) sure N [] [] R rfl cs hcs (by simp;lia) (by lia) .no .no .no .no .no .no .no .no .no .no;simp only[Eu,QG] at sim;unfold aP;rw[c5,c5,WO.eq_1];rcases sim with⟨z1,z2⟩|⟨hb,z1,z2⟩
 ·rename_i cs' _ _ _ _ _ _ _ _ _ _ _ _
  exact⟨cs',.non,.non,by simp -implicitDefEqProofs [cV,hp,hc,z1,QG],by simp -implicitDefEqProofs [cV,hp2,hc,z2,QG],.inl ⟨rfl,rfl⟩⟩
 ·rename_i cs' i j lane s _ _
  exact⟨cs',.tup [.int i,ZK lane,.str s],.tup [.int j,.non,.str s],by simp -implicitDefEqProofs [cV,hp,hc,z1],by simp -implicitDefEqProofs [cV,hp2,hc,z2],.inr ⟨i,j,lane,s,hb,rfl,rfl⟩⟩
theorem zFG{L:Nat}{hm:Wh->Option Int}{bk:Int->Option Wh}{kds:List Kd}{rows:List dL}{a:Nat}{M:List dL}(N:RB L hm bk kds rows a M): ∀row∈M,∃(x:String) (v:Int) (t:List dL),row= .tup (.str x:: .int v::t):=by
 induction N with
 |nil=>exact fun _ h=>nomatch h
 |nar h _ _ _ ih=>
  intro row hr;rcases Aj.mp hr with rfl|hr
  ·obtain⟨x,v,t,e,_⟩:=MB h 0 _
   exact⟨x,v,t,e⟩
  ·exact ih row hr
 |wid h _ _ _ ih=>
  intro row hr;rcases Bi.mp hr with hr|hr
  ·obtain⟨l,_,rfl⟩:=Ay.mp hr
   obtain⟨x,v,t,e,_⟩:=MB h l _;exact⟨x,v,t,e⟩
  ·exact ih row hr
 |wnum _ _ _ _ ih=>
  intro row hr;rcases Bi.mp hr with hr|hr
  ·obtain⟨w,_,rfl⟩:=Ay.mp hr
   exact⟨_,_,_,rfl⟩
  ·exact ih row hr
 |gather _ _ _ _ ih=>exact ih
 |shuf _ _ _ _ _ _ ih=>exact ih
 |lane _ _ _ _ _ ih=>exact ih
theorem LN: ∀(M acc:List dL),(∀row∈M,∃(x:String) (v:Int) (t:List dL),row= .tup (.str x:: .int v::t))->acc.length+M.length<16777216→
  ZZ 0 1 (gN 0) (fB (f2 (YC false) (f2 cT (fV 0) (fC (.int 0))) (aZ (dH (fC (.str "load")) (dH (fC (.str "take")) (dH (fC (.str "store")) (dH (fC (.str "put")) cK))))))) (f2 cT (fV 0) (fC (.int 1))) M acc []=some (acc++(M.filterMap UN).map .int,[])
 |[],acc,_,_=>by simp
 | row :: M,acc,h,hl => by
  obtain⟨x,v,t,rfl⟩:=h row Ax;simp only[Bg] at hl;have ax:acc.length<16777216:=by lia
  have hc:(fB (f2 (YC false) (f2 cT (fV 0) (fC (.int 0))) (aZ (dH (fC (.str "load")) (dH (fC (.str "take")) (dH (fC (.str "store")) (dH (fC (.str "put")) cK))))))) [.va (.tup (.str x:: .int v::t))]=some (GA x,[.va (.tup (.str x:: .int v::t))]):=by simp[GA,b5,eq_comm]
  have he:(f2 cT (fV 0) (fC (.int 1))) [.va (.tup (.str x:: .int v::t))]=some (.int v,[.va (.tup (.str x:: .int v::t))]):=by simp
  have hs:([]++[Sl.no]:Ev).set 0 (.va (.tup (.str x:: .int v::t)))=[.va (.tup (.str x:: .int v::t))]:=rfl;simp only[LM,A7,P2,hs,BY,hc];have hp:UN (.tup (.str x:: .int v::t))=if GA x=true then some v else none:=rfl
  rw[Fn,hp];cases hx:GA x with
  |true=>
   have ih:=LN M (acc++[.int v]) (fun r hr=>h r (Am _ hr)) (by simp;lia);simp only[BZ,he,B0,if_pos ax,Mq,ih];simp
  |false=>
   have ih:=LN M acc (fun r hr=>h r (Am _ hr)) (by lia);simp only[zHG,Mq,ih];simp
theorem zB7(l:List Int):63<W8 (0::l)↔ ∃p∈l,63<p:=by
 have sp:=F5.spec (0::l) (by simp);constructor
 ·intro h
  rcases Aj.mp sp.1 with e|e
  ·rw[e] at h
   cases h
  ·exact⟨_,e,h⟩
 ·rintro ⟨p,hp,h⟩
  have:=sp.2 p (Am _ hp);lia
theorem FX: ∀ns:List Int,WA (ns.map .int)=some ns
 |[]=>rfl
 |n::ns=>by
  have ih:=FX ns;simp only[Be,WA,ih];rfl
@[simp] theorem zLR{a b:Bool}:BC (.bl a) (.bl b)=some (.bl (a==b)):=(rfl)
@[simp] theorem zJJ{a b:Bool}:F8 (.bl a) (.bl b)=some (.bl (!(a==b))):=(rfl)
theorem zEG{k:Nat}{l:Option Int}:P7 k (ZK l):=by
 cases l
 ·exact F9
 ·exact V5
section
variable{L:Nat}{sure:Int}{rows M:List dL}{kds kM:List Kd}{hs:List (Wh×Int)}{bs:List (Int×Wh)}
noncomputable def lwE(ns:List Int)(n:Nat)(L sure:Int)(rows M:List dL)(bs:List (Int×Wh))(s5 s6 s7 s8 s9 s10:Sl):Ev:=
 [.va (QM ns),.ow (TZ n),.va (.tup [.int L,.int sure,.tup rows]),.va (.tup [.int L,.int sure,.tup M]),.va (TC bs),s5,s6,s7,s8,s9,s10]
theorem EO(h:SG L [] rows kds)(hM:SG L [] M kM)(N:RB L (bW hs) (OK bs) [] rows 0 M)(hL:2<=L)(hL4:L<=4)(h0:0<=sure)(h1:sure<=64)(hr:rows.length<=400)(hr2:M.length<=400)(ns:List Int)(hl:ns.length<=63)(n:Nat)(hn:n<9000)(s5 s6 s7 s8 s9 s10:Sl):
  ∃(n':Nat) (t7 t8 t9 t10:Sl),n'<=n+70/\T6 (lwE ns n L sure rows M bs s5 s6 s7 s8 s9 s10)=some (.nx (lwE ns n' L sure rows M bs s5 s6 t7 t8 t9 t10)):=by
 obtain⟨cs,n',hcs,c1,c2,hn',ec⟩:=zBH ns n sure hl (by lia) h0 h1;obtain⟨cs',ft,ft',r1,r2,hf⟩:=CA h hM N hL hL4 h0 h1 hr hr2 cs hcs c1 c2;have okf:P7 2 ft:=by
  rcases hf with⟨rfl,rfl⟩|⟨i,j,lane,s,hb,rfl,rfl⟩
  ·exact F9
  ·exact X0 (cF V5 (cF zEG (cF bX Y7)))
 have hk:P7 3 (.tup [.lst (cs'.map .int),ft]):=X0 (cF (zAY (k:=1) (okI _)) (cF okf Y7));have n1:L6 (.tup [.lst (cs'.map .int),ft]) (.tup [.lst (cs'.map .int),ft])=some (.bl false):=by rw[zI2 hk hk,AJ hk];rfl
 generalize cs.map dL.int=cd at*;generalize cs'.map dL.int=cd' at*;unfold lwE;generalize hBK:TC bs=BK at*;rcases hf with⟨rfl,rfl⟩|⟨i,j,lane,s,hb,rfl,rfl⟩
 ·exact⟨n',_,_,_,_,hn',by
   simp -implicitDefEqProofs [T6,ec,r1,r2,n1];exact⟨rfl,rfl,rfl,rfl⟩⟩
 ·have hd:=zI4 hb
  rw[hBK] at hd;exact⟨n',_,_,_,_,hn',by
   simp -implicitDefEqProofs [T6,ec,r1,r2,n1,hd];exact⟨rfl,rfl,rfl,rfl⟩⟩
theorem OJ(h:SG L [] rows kds)(hM:SG L [] M kM)(N:RB L (bW hs) (OK bs) [] rows 0 M)(hL:2<=L)(hL4:L<=4)(h0:0<=sure)(h1:sure<=64)(hr:rows.length<=400)(hr2:M.length<=400)(ns:List Int)(hl:ns.length<=63): ∀(its:List dL) (n:Nat) (_:n+70*its.length<9000) (s5 s6 s7 s8 s9 s10:Sl),
  ∃δ,aD (gN 6) T6 its (lwE ns n L sure rows M bs s5 s6 s7 s8 s9 s10)=some (.nx δ)
 |[],n,_,s5,s6,s7,s8,s9,s10=>⟨_,rfl⟩
 |it::its,n,hn,s5,s6,s7,s8,s9,s10=>by
  simp only[Bg] at hn;obtain⟨n',t7,t8,t9,t10,hn',e⟩:=EO h hM N hL hL4 h0 h1 hr hr2 ns hl n (by lia) s5 (.va it) s7 s8 s9 s10;obtain⟨δ,ih⟩:=OJ h hM N hL hL4 h0 h1 hr hr2 ns hl its n' (by lia) s5 (.va it) t7 t8 t9 t10;refine⟨δ,?_⟩;rw[X6,P2,TL];show qf2 _ _ _ (T6 (lwE ns n L sure rows M bs s5 (.va it) s7 s8 s9 s10))=_;rw[e,TM,ih]
end
end L2
namespace RR
open PySem L2
theorem A1(ns:List Int)(hl:ns.length<=63):MP [.lst (ns.map .int)]=some (.bl true,[]):=by
 obtain⟨L,n',sure,rows,kds,hL,hL4,s0,s1,hr,hn',h,ep⟩:=zAL ns 0 hl (by omega);obtain⟨M,hs,bs,en,N,hM⟩:=J6 hL hL4 sure h (by lia);obtain⟨nk,sp⟩:=zB2 N [] rfl (fun r hr=>(by cases hr.2)) (fun r hr=>(by cases hr.2));have hp:=UG h hL hL4 s0 s1 (by omega);have ec:=LN M [] (zFG N) (by simp;lia);have hpl:(M.filterMap UN).length<=M.length:=List.length_filterMap_le _ _;have hgt:=zB7 (M.filterMap UN);have hsp:(SG L [] M nk/\¬ ∃p∈M.filterMap UN,63<p)∨(bQ [.tup [.int L,.int sure,.tup M]]=some (.bl false,[])/\ ∃p∈M.filterMap UN,63<p):=by
  rcases sp with⟨g1,g2⟩|⟨A,b,B,j,e,g1,g2,g3,p,g4,g5⟩
  ·refine .inl ⟨g1,fun ⟨p,hp,h6⟩ => ?_⟩
   obtain⟨row,hr,e⟩:=Fx.mp hp;have:=g2 row hr p e;lia
  ·exact .inr ⟨ES e g1 g2 g3 hL hL4 s0 s1 (by lia),p,Fx.mpr ⟨b,by rw[e];simp,g4⟩,g5⟩
 have hb:A9 W8 (.lst (.int 0::(M.filterMap UN).map .int))=some (.int (W8 (0::M.filterMap UN))):=by
  show(WA (.int 0::(M.filterMap UN).map .int)).map _=_;rw[show dL.int 0::(M.filterMap UN).map .int=(0::M.filterMap UN).map .int from rfl,FX];rfl
 generalize M.filterMap UN=pl at*;have ht0:dL.lst []=TZ 0:=rfl;have hS:dL.lst (ns.map .int)=QM ns:=rfl;have hle:pl.length+1<=16777216:=by lia
 have ll:1+pl.length<=16777216:=by lia
 simp only[Co] at ec;rw[hS];unfold MP;rw[c5,AN.eq_1];rcases hsp with⟨g1,g2⟩|⟨g1,g2⟩
 ·have hx : ¬ 63 < W8 (0 :: pl) := fun z => g2 (hgt.mp z)
  have hp2:=UG g1 hL hL4 s0 s1 (by lia);obtain⟨δ,e⟩:=OJ h g1 N hL hL4 s0 s1 (by lia) (by lia) ns hl [.int 0,.int 1,.int 2] n' (by simp;lia) (.va (.lst (pl.map .int))) .no .no .no .no .no;unfold lwE at e;rw[X6,P2,TL] at e;simp only[List.set_cons_succ,List.set_cons_zero] at e;generalize TC bs=BK at*;simp -implicitDefEqProofs [cV,ht0,ep,en,bM,ec,hb,hle,ll,hx,hp2,e]
 ·have hx:63<W8 (0::pl):=hgt.mpr g2
  generalize TC bs=BK at*;simp -implicitDefEqProofs [cV,ht0,ep,en,bM,ec,hb,hle,ll,hx,hp,g1]
end RR
namespace KK
open PySem PySem.W
noncomputable abbrev g(a i:Nat)(n:Str)(d m:Value):Obj:=⟨.type "function",none,.func (fnOf n n (L2.ZP (RR.top i)) (L2.aQ (RR.top i)) (L2.c9 (RR.top i)) d .none .none m none (.ref (a - 1)) .none),#[]⟩
theorem p(P:Lw)(a i:Nat)(n:Str)(m:Value)(h1:nsIn (K P) mainGlobals n=some (some (.ref a)):=by kernel_rfl)(h2:(K P).lookup a=some (g a i n .none m):=by kernel_rfl)(h3:codeIn (K P) (.ref (a - 1)) n=true:=by kernel_rfl):L2.A4 (K P) n (RR.top i) a:=L2.a4 h1 h2 h3 (by unfold keepIn;simp only[h2])
end KK
namespace RR
open PySem L2
abbrev Zn(K:An)(x:Str):Prop:=Iq K mainGlobals x=some none
abbrev Gn(K:An)(x:Str)(v:Value):Prop:=Iq K mainGlobals x=some (some v)
theorem K9{α:Type}{P:List α->Prop}(z: ∀a,P [a]): ∀us:List α,us.length=1->P us
 |[a],_=>z a
theorem UT{α:Type}{P:List α->Prop}(z: ∀a b,P [a,b]): ∀us:List α,us.length=2->P us
 |[a,b],_=>z a b
theorem PY{α:Type}{P:List α->Prop}(z: ∀a b c,P [a,b,c]): ∀us:List α,us.length=3->P us
 |[a,b,c],_=>z a b c
theorem Len4{α:Type}{P:List α->Prop}(z: ∀a b c d,P [a,b,c,d]): ∀us:List α,us.length=4->P us
 |[a,b,c,d],_=>z a b c d
theorem Len5{α:Type}{P:List α->Prop}(z: ∀a b c d e,P [a,b,c,d,e]): ∀us:List α,us.length=5->P us
 |[a,b,c,d,e],_=>z a b c d e
theorem zGB{l:Nj}{w:World}{K:An}{h:Heap}{mg:Str->Option Value}{fa:Addr}(X:K.In h)(G:h.Ns mainGlobals mg)(hfa:mg "law"=some (.ref fa))
  {f_x0 f_x1 f_x2 f_x3 f_x4 f_x5 f_x6 f_x7 f_x8 f_x9 f_x10 f_x11 f_x12 f_x13 f_x14 f_x15 f_x16 f_x17 f_x18 f_x19 f_x20 f_x21:Addr}
  {kV_x21 dc_x21 pm_x21 cd_x21 ct_x21:Value}
  {t1:Tok}
  {a2 f_x22 f_x23 f_x24 f_x25 f_x26 f_x27 f_x28 f_x29 f_x30 f_x31 f_x32 f_x33 f_x34 f_x35 f_x36 f_x37 f_x38 f_x39 f_x40 f_x41 f_x42 f_x43 f_x44 f_x45:Addr}
  {kV_x45 dc_x45 pm_x45 cd_x45 ct_x45:Value}
  {t3 t4 t5 t6 t7 t8 t9 t10:Tok}
  {a11:Addr}
  {t12 t13 t14 t15 t16 t17 t18:Tok}
  {a19:Addr}
  {h20 h21 h22 h23 h24 h25 h26:Int}
  {t27 t28 t29 t30:Tok}
  {a31:Addr}
  {t32 t33 t34 t35 t36 t37 t38:Tok}
  {a39:Addr}
  {t40 t41 t42:Tok}
  {a43:Addr}
  {t44:Tok}
  {a45:Addr}
  {t46 t47 t48:Tok}
  {a49:Addr}
  {t50 t51:Tok}
  {a52:Addr}
  {t53 t54 t55:Tok}
  {a56 a57:Addr}
  {h58 h59 h60 h61 h62 h63:Int}
  {t64 t65:Tok}
  {a66:Addr}
  {t67 t68:Tok}
  {a69:Addr}
  {t70 t71 t72 t73:Tok}
  (mh:A4 K "is_whole" (top 7) f_x0)
  (kl:A4 K "plus" (top 8) f_x1)
  (k6:A4 K "minus" (top 9) f_x2)
  (jt:A4 K "times" (top 10) f_x3)
  (jg:A4 K "least" (top 11) f_x4)
  (ja:A4 K "most" (top 12) f_x5)
  (j9:A4 K "less" (top 13) f_x6)
  (j8:A4 K "over" (top 14) f_x7)
  (mf:A4 K "pick" (top 15) f_x8)
  (me:A4 K "done" (top 17) f_x9)
  (kj:A4 K "parts_of" (top 25) f_x10)
  (ki:A4 K "makes_word" (top 26) f_x11)
  (kh:A4 K "place_of" (top 27) f_x12)
  (kg:A4 K "names_of" (top 28) f_x13)
  (kf:A4 K "may_name" (top 29) f_x14)
  (kc:A4 K "fits" (top 30) f_x15)
  (ka:A4 K "is_row" (top 31) f_x16)
  (k9:A4 K "is_lanes" (top 35) f_x17)
  (k8:A4 K "is_cells" (top 38) f_x18)
  (k7:A4 K "touches" (top 39) f_x19)
  (k5:A4 K "do_on_cell" (top 40) f_x20)
  (l4:K.lookup a2=some ⟨.type "tuple",none,.seq #[.int 0 t1] 0,#[]⟩)
  (gw:Iq K mainGlobals "do_row"=some (some (.ref f_x21)))
  (lb:K.lookup f_x21=some ⟨.type "function",none,.func (Hh "do_row" "do_row" (ZP (top 41)) (aQ (top 41)) (c9 (top 41)) (.ref a2) kV_x21 dc_x21 pm_x21 none cd_x21 ct_x21),#[]⟩)
  (lz:Hs K cd_x21 "do_row"=true)
  (dr:Ga K (.ref f_x21)=true)
  (k4:A4 K "is_for_lanes" (top 44) f_x22)
  (k3:A4 K "is_wide" (top 45) f_x23)
  (jz:A4 K "is_gather" (top 46) f_x24)
  (jy:A4 K "is_shuffle" (top 47) f_x25)
  (jx:A4 K "is_lane" (top 48) f_x26)
  (jw:A4 K "is_program_row" (top 49) f_x27)
  (jv:A4 K "kind_made" (top 50) f_x28)
  (ju:A4 K "are_program_rows" (top 51) f_x29)
  (js:A4 K "is_program" (top 52) f_x30)
  (jr:A4 K "do_wide" (top 53) f_x31)
  (jq:A4 K "moved" (top 54) f_x32)
  (jo:A4 K "do_program_row" (top 55) f_x33)
  (jm:A4 K "run_program" (top 56) f_x34)
  (jl:A4 K "_law_cell_at" (top 58) f_x35)
  (jk:A4 K "_law_mixed" (top 59) f_x36)
  (jj:A4 K "_law_draw" (top 60) f_x37)
  (ji:A4 K "_law_pick" (top 61) f_x38)
  (jh:A4 K "_law_place" (top 62) f_x39)
  (jf:A4 K "_law_row" (top 63) f_x40)
  (je:A4 K "_law_cells" (top 64) f_x41)
  (jd:A4 K "_law_names" (top 65) f_x42)
  (jc:A4 K "_law_program" (top 66) f_x43)
  (jb:A4 K "_law_narrowed" (top 67) f_x44)
  (m7:Iq K mainGlobals "law"=some (some (.ref f_x45)))
  (la:K.lookup f_x45=some ⟨.type "function",none,.func (Hh "law" "law" (ZP (top 68)) (aQ (top 68)) (c9 (top 68)) .none kV_x45 dc_x45 pm_x45 none cd_x45 ct_x45),#[]⟩)
  (ly:Hs K cd_x45 "law"=true)
  (lc:Ga K (.ref f_x45)=true)
  (j5:Zn K "len")
  (gj:Zn K "range")
  (j3:Zn K "min")
  (j4:Zn K "max")
  (gx:Zn K "list")
  (gh:Zn K "tuple")
  (ci:Zn K "isinstance")
  (gy:Zn K "bool")
  (j6:Zn K "int")
  (iz:Zn K "str")
  (cq:Zn K "enumerate")
  (iy:Zn K "zip")
  (j7:Zn K "all")
  (cw:Gn K "MOST_WORD" (.int 999 t3))
  (l6:K.lookup a11=some ⟨.type "tuple",none,.seq #[.str "plus" t4,.str "minus" t5,.str "times" t6,.str "least" t7,.str "most" t8,.str "less" t9,.str "over" t10] 0,#[]⟩)
  (gl:Gn K "DEEDS" (.ref a11))
  (l5:K.lookup a19=some ⟨.type "dict",none,.dict #[⟨h20,.str "plus" t12,.ref f_x1⟩,⟨h21,.str "minus" t13,.ref f_x2⟩,⟨h22,.str "times" t14,.ref f_x3⟩,⟨h23,.str "least" t15,.ref f_x4⟩,⟨h24,.str "most" t16,.ref f_x5⟩,⟨h25,.str "less" t17,.ref f_x6⟩,⟨h26,.str "over" t18,.ref f_x7⟩] 7,#[]⟩)
  (l9:(a19==Dx)=false)
  (i9:Gn K "MADE" (.ref a19))
  (cx:Gn K "MOST_SURE" (.int 64 t27))
  (ck:Gn K "MOST_PLACE" (.int 63 t28))
  (l3:K.lookup a31=some ⟨.type "tuple",none,.seq #[.str "row" t29,.str "row" t30] 0,#[]⟩)
  (cp:Gn K "DEED_PARTS" (.ref a31))
  (kz:K.lookup a39=some ⟨.type "tuple",none,.seq #[.str "word" t38] 0,#[]⟩)
  (kx:K.lookup a43=some ⟨.type "tuple",none,.seq #[.str "row" t40,.str "row" t41,.str "row" t42] 0,#[]⟩)
  (kw:K.lookup a45=some ⟨.type "tuple",none,.seq #[.str "place" t44] 0,#[]⟩)
  (ku:K.lookup a49=some ⟨.type "tuple",none,.seq #[.str "place" t46,.str "row" t47,.str "row" t48] 0,#[]⟩)
  (kr:K.lookup a52=some ⟨.type "tuple",none,.seq #[.str "place" t50,.str "row" t51] 0,#[]⟩)
  (kq:K.lookup a56=some ⟨.type "tuple",none,.seq #[.str "place" t53,.str "row" t54,.str "row" t55] 0,#[]⟩)
  (ko:K.lookup a57=some ⟨.type "dict",none,.dict #[⟨h58,.str "number" t32,.ref a39⟩,⟨h59,.str "pick" t33,.ref a43⟩,⟨h60,.str "load" t34,.ref a45⟩,⟨h61,.str "take" t35,.ref a49⟩,⟨h62,.str "store" t36,.ref a52⟩,⟨h63,.str "put" t37,.ref a56⟩] 6,#[]⟩)
  (l8:(a57==Dx)=false)
  (bw:Gn K "OTHER_PARTS" (.ref a57))
  (kn:K.lookup a66=some ⟨.type "tuple",none,.seq #[.str "load" t64,.str "take" t65] 0,#[]⟩)
  (dn:Gn K "READERS" (.ref a66))
  (km:K.lookup a69=some ⟨.type "tuple",none,.seq #[.str "store" t67,.str "put" t68] 0,#[]⟩)
  (dm:Gn K "WRITERS" (.ref a69))
  (bx:Gn K "LEAST_LANES" (.int 2 t70))
  (cm:Gn K "MOST_LANES" (.int 4 t71))
  (cn:Gn K "MOST_CELLS" (.int 64 t72))
  (ay:Gn K "MOST_PROGRAM_ROWS" (.int 400 t73)):
  ∃fd:Ee,(∀(s:Ah) (v:Value),Mc s fd ⟨[v],[]⟩ [("_law_script",v)])/\ ∀base:Heap,K.In base->base.Ns mainGlobals mg->bC l.prog w K mg base CX0 10 fa fd ["_law_script"] (spV K [] 1 MP):=by
 have e:=hfa.symm.trans (Fg X G m7);cases e;have T:Txt K mg:=⟨fun _ _ e=>Fg X G e,
   Dk X G j5,
   Dk X G gj,
   Dk X G j3,
   Dk X G j4,
   Dk X G gx,
   Dk X G gh,
   Dk X G ci,
   Dk X G gy,
   Dk X G j6,
   Dk X G iz,
   Dk X G cq,
   Dk X G iy,
   Dk X G j7,
   ⟨_,.ref a11,Fg X G gl,rfl,fun _ _ _=>(.tup (xs:=[.str "plus",.str "minus",.str "times",.str "least",.str "most",.str "less",.str "over"]) (.inr ⟨_,_,_,l6,rfl,rfl,(by show 7<=sizeLine;decide),(.cons ⟨_,rfl⟩ (.cons ⟨_,rfl⟩ (.cons ⟨_,rfl⟩ (.cons ⟨_,rfl⟩ (.cons ⟨_,rfl⟩ (.cons ⟨_,rfl⟩ (.cons ⟨_,rfl⟩ .nil)))))))⟩) (.cons (.str _) (.cons (.str _) (.cons (.str _) (.cons (.str _) (.cons (.str _) (.cons (.str _) (.cons (.str _) .nil))))))))⟩,
   ⟨_,.ref a31,Fg X G cp,rfl,fun _ _ _=>(.tup (xs:=[.str "row",.str "row"]) (.inr ⟨_,_,_,l3,rfl,rfl,(by show 2<=sizeLine;decide),(.cons ⟨_,rfl⟩ (.cons ⟨_,rfl⟩ .nil))⟩) (.cons (.str _) (.cons (.str _) .nil)))⟩,
   ⟨_,.int 2,Fg X G bx,⟨_,rfl⟩,fun _ _ _=>(.int _)⟩,
   ⟨_,.ref a19,Fg X G i9,rfl,fun _ _ _=>(.ktb (D:=[("plus",.ref f_x1),("minus",.ref f_x2),("times",.ref f_x3),("least",.ref f_x4),("most",.ref f_x5),("less",.ref f_x6),("over",.ref f_x7)]) ⟨l9,_,_,_,l5,⟨rfl,rfl,rfl⟩,rfl,(.cons rfl rfl (.cons rfl rfl (.cons rfl rfl (.cons rfl rfl (.cons rfl rfl (.cons rfl rfl (.cons rfl rfl .nil)))))))⟩ (.cons (.fn kl.ns) (.cons (.fn k6.ns) (.cons (.fn jt.ns) (.cons (.fn jg.ns) (.cons (.fn ja.ns) (.cons (.fn j9.ns) (.cons (.fn j8.ns) .nil))))))))⟩,
   ⟨_,.int 64,Fg X G cn,⟨_,rfl⟩,fun _ _ _=>(.int _)⟩,
   ⟨_,.int 4,Fg X G cm,⟨_,rfl⟩,fun _ _ _=>(.int _)⟩,
   ⟨_,.int 63,Fg X G ck,⟨_,rfl⟩,fun _ _ _=>(.int _)⟩,
   ⟨_,.int 400,Fg X G ay,⟨_,rfl⟩,fun _ _ _=>(.int _)⟩,
   ⟨_,.int 64,Fg X G cx,⟨_,rfl⟩,fun _ _ _=>(.int _)⟩,
   ⟨_,.int 999,Fg X G cw,⟨_,rfl⟩,fun _ _ _=>(.int _)⟩,
   ⟨_,.ref a57,Fg X G bw,rfl,fun _ _ _=>(.ktb (D:=[("number",.ref a39),("pick",.ref a43),("load",.ref a45),("take",.ref a49),("store",.ref a52),("put",.ref a56)]) ⟨l8,_,_,_,ko,⟨rfl,rfl,rfl⟩,rfl,(.cons rfl rfl (.cons rfl rfl (.cons rfl rfl (.cons rfl rfl (.cons rfl rfl (.cons rfl rfl .nil))))))⟩ (.cons (.tup (xs:=[.str "word"]) (.inr ⟨_,_,_,kz,rfl,rfl,(by show 1<=sizeLine;decide),(.cons ⟨_,rfl⟩ .nil)⟩) (.cons (.str _) .nil)) (.cons (.tup (xs:=[.str "row",.str "row",.str "row"]) (.inr ⟨_,_,_,kx,rfl,rfl,(by show 3<=sizeLine;decide),(.cons ⟨_,rfl⟩ (.cons ⟨_,rfl⟩ (.cons ⟨_,rfl⟩ .nil)))⟩) (.cons (.str _) (.cons (.str _) (.cons (.str _) .nil)))) (.cons (.tup (xs:=[.str "place"]) (.inr ⟨_,_,_,kw,rfl,rfl,(by show 1<=sizeLine;decide),(.cons ⟨_,rfl⟩ .nil)⟩) (.cons (.str _) .nil)) (.cons (.tup (xs:=[.str "place",.str "row",.str "row"]) (.inr ⟨_,_,_,ku,rfl,rfl,(by show 3<=sizeLine;decide),(.cons ⟨_,rfl⟩ (.cons ⟨_,rfl⟩ (.cons ⟨_,rfl⟩ .nil)))⟩) (.cons (.str _) (.cons (.str _) (.cons (.str _) .nil)))) (.cons (.tup (xs:=[.str "place",.str "row"]) (.inr ⟨_,_,_,kr,rfl,rfl,(by show 2<=sizeLine;decide),(.cons ⟨_,rfl⟩ (.cons ⟨_,rfl⟩ .nil))⟩) (.cons (.str _) (.cons (.str _) .nil))) (.cons (.tup (xs:=[.str "place",.str "row",.str "row"]) (.inr ⟨_,_,_,kq,rfl,rfl,(by show 3<=sizeLine;decide),(.cons ⟨_,rfl⟩ (.cons ⟨_,rfl⟩ (.cons ⟨_,rfl⟩ .nil)))⟩) (.cons (.str _) (.cons (.str _) (.cons (.str _) .nil)))) .nil)))))))⟩,
   ⟨_,.ref a66,Fg X G dn,rfl,fun _ _ _=>(.tup (xs:=[.str "load",.str "take"]) (.inr ⟨_,_,_,kn,rfl,rfl,(by show 2<=sizeLine;decide),(.cons ⟨_,rfl⟩ (.cons ⟨_,rfl⟩ .nil))⟩) (.cons (.str _) (.cons (.str _) .nil)))⟩,
   ⟨_,.ref a69,Fg X G dm,rfl,fun _ _ _=>(.tup (xs:=[.str "store",.str "put"]) (.inr ⟨_,_,_,km,rfl,rfl,(by show 2<=sizeLine;decide),(.cons ⟨_,rfl⟩ (.cons ⟨_,rfl⟩ .nil))⟩) (.cons (.str _) (.cons (.str _) .nil)))⟩⟩
 have de:=zBF (st:=top 41) lb lz dr;have m6:=de.binds (ps:=NY) (ds:=[]) (m:=4) l4 rfl fun _ _ _ _ _ _ us hl=>match us,hl with|[_,_,_,_],_=>⟨_,rfl,rfl⟩
 have ij:=de.binds (ps:=NY) (ds:=[.int 0 t1]) (m:=3) l4 rfl fun _ _ _ _ _ _ us hl=>match us,hl with|[_,_,_],_=>⟨_,rfl,rfl⟩
 have m8:=AM (st:=top 68) la ly lc;refine⟨Hh "law" "law" (ZP (top 68)) (aQ (top 68)) (c9 (top 68)) .none kV_x45 dc_x45 pm_x45 none cd_x45 ct_x45,fun s v=> .of_eq rfl,fun base _ _=> ?_⟩;have aq:cM l.prog w K mg base "is_whole" 1 DP [] cD f_x0:=Z8 X G mh (fun U=>zHZ U T) (PY fun _ _ _=>rfl);have iw:cM l.prog w K mg base "plus" 1 Qx1 [] QK f_x1:=Z8 X G kl (fun U=>zHY U T) (UT fun _ _=>rfl);have iu:cM l.prog w K mg base "minus" 1 Qx2 [] T3 f_x2:=Z8 X G k6 (fun U=>zHX U T) (UT fun _ _=>rfl);have iq:cM l.prog w K mg base "times" 1 Qx3 [] T4 f_x3:=Z8 X G jt (fun U=>zHW U T) (UT fun _ _=>rfl);have ip:cM l.prog w K mg base "least" 1 Qx4 [] T2 f_x4:=Z8 X G jg (fun U=>zHV U T) (UT fun _ _=>rfl);have io:cM l.prog w K mg base "most" 1 Qx5 [] QI f_x5:=Z8 X G ja (fun U=>zHU U T) (UT fun _ _=>rfl);have im:cM l.prog w K mg base "less" 1 Qx6 [] QH f_x6:=Z8 X G j9 (fun U=>zHT U T) (UT fun _ _=>rfl);have il:cM l.prog w K mg base "over" 1 Qx7 [] US f_x7:=Z8 X G j8 (fun U=>zHS U T) (UT fun _ _=>rfl);have ik:cM l.prog w K mg base "pick" 1 Qx8 [] QJ f_x8:=Z8 X G mf (fun U=>zHR U T) (PY fun _ _ _=>rfl);have gn:cM l.prog w K mg base "done" 2 Qx9 [] UR f_x9:=Z8 X G me (fun U=>zHQ U T iw iu iq ip io im il ik) (UT fun _ _=>rfl);have cg:cM l.prog w K mg base "parts_of" 1 DX [] aX f_x10:=Z8 X G kj (fun U=>zFF U T) (K9 fun _=>rfl);have di:cM l.prog w K mg base "makes_word" 1 Qx11 [] YD f_x11:=Z8 X G ki (fun U=>zFE U T) (K9 fun _=>rfl);have dh:cM l.prog w K mg base "place_of" 1 Qx12 [] bU f_x12:=Z8 X G kh (fun U=>zFD U T) (K9 fun _=>rfl);have cf:cM l.prog w K mg base "names_of" 2 DY [] aI f_x13:=Z8 X G kg (fun U=>zFC U T cg) (K9 fun _=>rfl);have au:cM l.prog w K mg base "may_name" 2 IU [] bA f_x14:=Z8 X G kf (fun U=>zFB U T aq) (UT fun _ _=>rfl);have gf:cM l.prog w K mg base "fits" 3 Qx15 [] X2 f_x15:=Z8 X G kc (fun U=>zFA U T aq au) (PY fun _ _ _=>rfl);have cb:cM l.prog w K mg base "is_row" 4 DZ [] Z7 f_x16:=Z8 X G ka (fun U=>zF9 U T cg gf) (UT fun _ _=>rfl);have gd:cM l.prog w K mg base "is_lanes" 2 Qx17 [] ZB f_x17:=Z8 X G k9 (fun U=>zF8 U T aq) (K9 fun _=>rfl);have gc:cM l.prog w K mg base "is_cells" 2 Qx18 [] X3 f_x18:=Z8 X G k8 (fun U=>zF7 U T aq) (UT fun _ _=>rfl);have gb:cM l.prog w K mg base "touches" 1 Qx19 [] ZM f_x19:=Z8 X G k7 (fun U=>zF6 U T) (UT fun _ _=>rfl);have dg:cM l.prog w K mg base "do_on_cell" 2 Qx20 [3] cQ f_x20:=Z8 X G k5 (fun U=>zF5 U T gb) (Len4 fun _ _ _ _=>rfl);have cy:cM l.prog w K mg base "do_row" 3 NY [2] a9 f_x21:=⟨Fg X G gw,⟨_,BE de T gn dh dg,m6⟩,dr⟩;have d8:DefD l.prog w K mg base "do_row" 3 NY (spV K [2] 4 a9) f_x21 (.int 0):=⟨Fg X G gw,⟨_,_,BE de T gn dh dg,ij,by first|exact⟨_,rfl⟩|rfl⟩,dr⟩;have bn:cM l.prog w K mg base "is_for_lanes" 1 G5 [] bI f_x22:=Z8 X G k4 (fun U=>zF4 U T) (UT fun _ _=>rfl);have ga:cM l.prog w K mg base "is_wide" 5 Qx23 [] YL f_x23:=Z8 X G k3 (fun U=>zF3 U T aq cb bn) (PY fun _ _ _=>rfl);have g9:cM l.prog w K mg base "is_gather" 3 Qx24 [] YK f_x24:=Z8 X G jz (fun U=>zF2 U T au bn) (PY fun _ _ _=>rfl);have g8:cM l.prog w K mg base "is_shuffle" 3 Qx25 [] Y5 f_x25:=Z8 X G jy (fun U=>zF1 U T aq au bn) (PY fun _ _ _=>rfl);have fw:cM l.prog w K mg base "is_lane" 3 Qx26 [] XH f_x26:=Z8 X G jx (fun U=>zF0 U T aq au) (PY fun _ _ _=>rfl);have fu:cM l.prog w K mg base "is_program_row" 6 Qx27 [] bD f_x27:=Z8 X G jw (fun U=>zEZ U T cb ga g9 g8 fw) (Len4 fun _ _ _ _=>rfl);have fo:cM l.prog w K mg base "kind_made" 2 Qx28 [] XV f_x28:=Z8 X G jv (fun U=>zEY U T di) (K9 fun _=>rfl);have fm:cM l.prog w K mg base "are_program_rows" 7 Qx29 [] bT f_x29:=Z8 X G ju (fun U=>zEX U T fu fo) (UT fun _ _=>rfl);have bq:cM l.prog w K mg base "is_program" 8 D0 [] bQ f_x30:=Z8 X G js (fun U=>zEW U T aq gd fm) (K9 fun _=>rfl);have fj:cM l.prog w K mg base "do_wide" 4 Qx31 [2,3] Y4 f_x31:=Z8 X G jr (fun U=>zEV U T cf cy) (Len4 fun _ _ _ _=>rfl);have fg:cM l.prog w K mg base "moved" 1 Qx32 [1] XY f_x32:=Z8 X G jq (fun U=>zEU U T) (UT fun _ _=>rfl);have f9:cM l.prog w K mg base "do_program_row" 5 Qx33 [2,3] cY f_x33:=Z8 X G jo (fun U=>zET U T cf cy fj fg d8) (Len4 fun _ _ _ _=>rfl);have df:cM l.prog w K mg base "run_program" 9 Qx34 [] aP f_x34:=Z8 X G jm (fun U=>zES U T gc bq f9) (UT fun _ _=>rfl);have f8:cM l.prog w K mg base "_law_cell_at" 1 Qx35 [] aN f_x35:=Z8 X G jl (fun U=>zER U T) (UT fun _ _=>rfl);have f7:cM l.prog w K mg base "_law_mixed" 2 Qx36 [] YN f_x36:=Z8 X G jk (fun U=>zEQ U T f8) (PY fun _ _ _=>rfl);have al:cM l.prog w K mg base "_law_draw" 3 LA [1] cP f_x37:=Z8 X G jj (fun U=>zEP U T f7) (PY fun _ _ _=>rfl);have ao:cM l.prog w K mg base "_law_pick" 4 IV [1] bZ f_x38:=Z8 X G ji (fun U=>zEO U T al) (PY fun _ _ _=>rfl);have bu:cM l.prog w K mg base "_law_place" 5 Qx39 [1,2] aU f_x39:=Z8 X G jh (fun U=>zEN U T al ao) (Len5 fun _ _ _ _ _=>rfl);have f6:cM l.prog w K mg base "_law_row" 6 Qx40 [1,3] XI f_x40:=Z8 X G jf (fun U=>zEM U T al ao bu) (Len5 fun _ _ _ _ _=>rfl);have eu:cM l.prog w K mg base "_law_cells" 5 Qx41 [1] YM f_x41:=Z8 X G je (fun U=>zEL U T al ao) (PY fun _ _ _=>rfl);have et:cM l.prog w K mg base "_law_names" 1 Qx42 [] ZC f_x42:=Z8 X G jd (fun U=>zEK U T) (K9 fun _=>rfl);have eo:cM l.prog w K mg base "_law_program" 7 Qx43 [1] ZL f_x43:=Z8 X G jc (fun U=>zEJ U T al ao f6) (PY fun _ _ _=>rfl);have ek:cM l.prog w K mg base "_law_narrowed" 2 Qx44 [] ZU f_x44:=Z8 X G jb (fun U=>zEI U T et) (K9 fun _=>rfl);exact zEH m8 T bq df eu eo ek
theorem CM(K:An)(H:Hp)(a:Addr)(ns:List Int)(hl:ns.length<=63)(h:WZ K H a (ns.map V.int)):spV K [] 1 MP [.ref a] H (fun v _=>v= .bl true) fun _ _ _=>False:=by
 have hr:cH K (Zp (fun _=>False) [] [.ref a]) H (ns.map V.int) (ns.map dL.int):=by
  clear h hl;induction ns with
  |nil=>exact .nil
  |cons n ns ih=>exact .cons (.int n) ih
 have hz: ∀b,¬Zp (fun _=>False) [] [V.ref a] b:=fun b h=>by
  rcases h with h|⟨i,h,_⟩
  ·exact h
  ·cases h
 refine⟨fun _=>False,[.lst (ns.map .int)],.bl true,[],rfl,⟨rfl,(fun i h=>nomatch h),fun i d hi e=> ?_,(fun i d h=>nomatch h),(fun i j b h=>nomatch h),fun a h=>h.elim⟩,A1 ns hl,fun v H' _ _ r=>by cases r;rfl⟩;cases i with
 |zero=>
  cases e;refine⟨_,rfl,?_⟩;rcases h with(h|⟨o,h⟩)|h
  ·exact .lst h (hz a) hr
  ·exact .fzl (.inl ⟨o,h⟩) hr
  ·exact .fzl (.inr h) hr
 |succ i=>cases i<;>cases e
end RR
open PySem PySem.W PyProof.Rows
set_option maxRecDepth 100000 in
set_option maxHeartbeats 0 in
theorem PySem.Challenge.cw_lanepacks_k49_whole_narrowed_holds : PySem.Challenge.rw_lanepacks_k49_whole_narrowed.Holds := by
 w_on;refine holds_law KK.said fun said=> ?_
 refine holds_open (q:=KK.view) (loose:=KK.lo) (Xt:=KK.X) (XP:=XL KK.view []) (Yf:=KK.H.obs) (Ya:=KK.H.val) (YP:=KK.H.says) (N:=4912) KK.hl (Hook.of _) (Hook.keeps _) (fun s e=>xl_of s (Cs.mp e).1) XL.keeps (by rfl) (by rfl) (by rfl) (fun s e=>recFacts_of (Cs.mp e).2) (by rfl) (by first|assumption|decide+kernel) (by decide+kernel) ⟨rfl,rfl,rfl,rfl,rfl,by decide+kernel⟩ ?hw ?hc
 case hw=>w_witness2
 refine L2.DJ (l:=Hy) (n:=63) (k:=10) (x:= "_law_script") (CX:=L2.CX0) (sp:=fun K=>L2.spV K [] 1 L2.MP) rfl (by decide) rfl ⟨rfl,by decide,by decide⟩ (fun w h Y=>W.kIn_of (K:=KK.K) (as:=KK.A) (e:=KK.kA) Y) ?F (fun K H a ns hl _ hS=>RR.CM K H a ns hl hS) fun _ _ _ _ z=>z
 case F=>
  intro w mg fa h KX G hmg;exact RR.zGB (K:=KK.K w.params) (f_x0:=59) (f_x1:=66) (f_x2:=73) (f_x3:=80) (f_x4:=87) (f_x5:=94) (f_x6:=101) (f_x7:=108) (f_x8:=115) (f_x9:=123) (f_x10:=140) (f_x11:=147) (f_x12:=154) (f_x13:=159) (f_x14:=166) (f_x15:=173) (f_x16:=178) (f_x17:=185) (f_x18:=190) (f_x19:=197) (f_x20:=204) (f_x21:=212) (kV_x21:= .none) (dc_x21:= .none) (pm_x21:= .str "lanepacks.running" 453) (cd_x21:= .ref 211) (ct_x21:= .none) (t1:=481) (a2:=205) (f_x22:=219) (f_x23:=224) (f_x24:=229) (f_x25:=234) (f_x26:=241) (f_x27:=248) (f_x28:=255) (f_x29:=262) (f_x30:=269) (f_x31:=274) (f_x32:=279) (f_x33:=284) (f_x34:=291) (f_x35:=298) (f_x36:=305) (f_x37:=312) (f_x38:=319) (f_x39:=326) (f_x40:=331) (f_x41:=336) (f_x42:=343) (f_x43:=348) (f_x44:=353) (f_x45:=358) (kV_x45:= .none) (dc_x45:= .none) (pm_x45:= .str "law_lanepacks_k49_whole_narrowed" 611) (cd_x45:= .ref 357) (ct_x45:= .none) (t3:=241) (t4:=243) (t5:=244) (t6:=245) (t7:=246) (t8:=247) (t9:=248) (t10:=249) (a11:=52) (t12:=325) (t13:=326) (t14:=327) (t15:=328) (t16:=329) (t17:=330) (t18:=331) (a19:=116) (h20:=Bw w.params "plus") (h21:=Bw w.params "minus") (h22:=Bw w.params "times") (h23:=Bw w.params "least") (h24:=Bw w.params "most") (h25:=Bw w.params "less") (h26:=Bw w.params "over") (t27:=351) (t28:=353) (t29:=355) (t30:=356) (a31:=124) (t32:=358) (t33:=360) (t34:=364) (t35:=366) (t36:=370) (t37:=373) (t38:=359) (a39:=126) (t40:=361) (t41:=362) (t42:=363) (a43:=127) (t44:=365) (a45:=128) (t46:=367) (t47:=368) (t48:=369) (a49:=129) (t50:=371) (t51:=372) (a52:=130) (t53:=374) (t54:=375) (t55:=376) (a56:=131) (a57:=125) (h58:=Bw w.params "number") (h59:=Bw w.params "pick") (h60:=Bw w.params "load") (h61:=Bw w.params "take") (h62:=Bw w.params "store") (h63:=Bw w.params "put") (t64:=384) (t65:=385) (a66:=132) (t67:=387) (t68:=388) (a69:=133) (t70:=442) (t71:=444) (t72:=455) (t73:=497) KX G hmg
   (KK.p _ 59 7 "is_whole" (.str "lanepacks.words" 239))
   (KK.p _ 66 8 "plus" (.str "lanepacks.words" 239))
   (KK.p _ 73 9 "minus" (.str "lanepacks.words" 239))
   (KK.p _ 80 10 "times" (.str "lanepacks.words" 239))
   (KK.p _ 87 11 "least" (.str "lanepacks.words" 239))
   (KK.p _ 94 12 "most" (.str "lanepacks.words" 239))
   (KK.p _ 101 13 "less" (.str "lanepacks.words" 239))
   (KK.p _ 108 14 "over" (.str "lanepacks.words" 239))
   (KK.p _ 115 15 "pick" (.str "lanepacks.words" 239))
   (KK.p _ 123 17 "done" (.str "lanepacks.words" 239))
   (KK.p _ 140 25 "parts_of" (.str "lanepacks.blocks" 349))
   (KK.p _ 147 26 "makes_word" (.str "lanepacks.blocks" 349))
   (KK.p _ 154 27 "place_of" (.str "lanepacks.blocks" 349))
   (KK.p _ 159 28 "names_of" (.str "lanepacks.blocks" 349))
   (KK.p _ 166 29 "may_name" (.str "lanepacks.blocks" 349))
   (KK.p _ 173 30 "fits" (.str "lanepacks.blocks" 349))
   (KK.p _ 178 31 "is_row" (.str "lanepacks.blocks" 349))
   (KK.p _ 185 35 "is_lanes" (.str "lanepacks.plans" 440))
   (KK.p _ 190 38 "is_cells" (.str "lanepacks.running" 453))
   (KK.p _ 197 39 "touches" (.str "lanepacks.running" 453))
   (KK.p _ 204 40 "do_on_cell" (.str "lanepacks.running" 453))
   (by kernel_rfl)
   (by kernel_rfl)
   (by kernel_rfl)
   (by kernel_rfl)
   (by kernel_rfl)
   (KK.p _ 219 44 "is_for_lanes" KK.m)
   (KK.p _ 224 45 "is_wide" KK.m)
   (KK.p _ 229 46 "is_gather" KK.m)
   (KK.p _ 234 47 "is_shuffle" KK.m)
   (KK.p _ 241 48 "is_lane" KK.m)
   (KK.p _ 248 49 "is_program_row" KK.m)
   (KK.p _ 255 50 "kind_made" KK.m)
   (KK.p _ 262 51 "are_program_rows" KK.m)
   (KK.p _ 269 52 "is_program" KK.m)
   (KK.p _ 274 53 "do_wide" KK.m)
   (KK.p _ 279 54 "moved" KK.m)
   (KK.p _ 284 55 "do_program_row" KK.m)
   (KK.p _ 291 56 "run_program" KK.m)
   (KK.p _ 298 58 "_law_cell_at" (.str "law_lanepacks_k49_whole_narrowed" 611))
   (KK.p _ 305 59 "_law_mixed" (.str "law_lanepacks_k49_whole_narrowed" 611))
   (KK.p _ 312 60 "_law_draw" (.str "law_lanepacks_k49_whole_narrowed" 611))
   (KK.p _ 319 61 "_law_pick" (.str "law_lanepacks_k49_whole_narrowed" 611))
   (KK.p _ 326 62 "_law_place" (.str "law_lanepacks_k49_whole_narrowed" 611))
   (KK.p _ 331 63 "_law_row" (.str "law_lanepacks_k49_whole_narrowed" 611))
   (KK.p _ 336 64 "_law_cells" (.str "law_lanepacks_k49_whole_narrowed" 611))
   (KK.p _ 343 65 "_law_names" (.str "law_lanepacks_k49_whole_narrowed" 611))
   (KK.p _ 348 66 "_law_program" (.str "law_lanepacks_k49_whole_narrowed" 611))
   (KK.p _ 353 67 "_law_narrowed" (.str "law_lanepacks_k49_whole_narrowed" 611))
   (by kernel_rfl)
   (by kernel_rfl)
   (by kernel_rfl)
   (by kernel_rfl)
   (by kernel_rfl)
   (by kernel_rfl)
   (by kernel_rfl)
   (by kernel_rfl)
   (by kernel_rfl)
   (by kernel_rfl)
   (by kernel_rfl)
   (by kernel_rfl)
   (by kernel_rfl)
   (by kernel_rfl)
   (by kernel_rfl)
   (by kernel_rfl)
   (by kernel_rfl)
   (by kernel_rfl)
   (by kernel_rfl)
   (by kernel_rfl)
   (by kernel_rfl)
   (by decide)
   (by kernel_rfl)
   (by kernel_rfl)
   (by kernel_rfl)
   (by kernel_rfl)
   (by kernel_rfl)
   (by kernel_rfl)
   (by kernel_rfl)
   (by kernel_rfl)
   (by kernel_rfl)
   (by kernel_rfl)
   (by kernel_rfl)
   (by kernel_rfl)
   (by decide)
   (by kernel_rfl)
   (by kernel_rfl)
   (by kernel_rfl)
   (by kernel_rfl)
   (by kernel_rfl)
   (by kernel_rfl)
   (by kernel_rfl)
   (by kernel_rfl)
   (by kernel_rfl)
end
