import PyProof.Rows.All
import KE.KFromBytes
import KE.KTab
import KE.KIsAll
import KE.KDictOf
import KE.KEqDeep
import KE.KItem
import KE.KUnpackStar
import Wide.FinOn
import Wide.Line
import KE.KSortTup
import PyProof.AttrMissSeq
import KE.KRevIter
import PySem.Challenge.RW_lanepacks_k05_whole_must
set_option Elab.async false
set_option linter.all false
set_option maxRecDepth 100000
set_option maxHeartbeats 4000000
set_option bootstrap.genMatcherCode false
set_option compiler.extract_closed false
open PySem renaming wpAny_bind→Aa,Shared→Af,wpAny_pure→Ah,starEach→Aj,wpAny_mono→Aw,bootBuiltins→Bh,Program→Bk,mem_of_lookup→Bq,wpAny_holding→Ck,wpAny_newObj_type→Co,sizeLine_eq→Ct,Around→Cz,compareOp→Dg,wpAny_callSpecial?_slot→Dj,wpAny_call_entry→Ds,wpAny_field→Du,wpAny_truthy_bool→Dx,wpAny_standAt→Ee,wpAny_seqItems→Es,letOwnedTupleGo→Eu,wpAny_setField_rec→Fg,sysModules→Fm,assign→Fn,wpAny_passesOwn→Fo,wpAny_pyIter_list→Fp,swapsWithSole→Fx,swappedStores→Fy,backTo→Gc,wpAny_rule→Ge,codeAny→Gg,binaryOp→Gj,FuncData→Gk,wpAny_Call_Name_kw→Gm,swapsWith→Gp,wpAny_assign_Name→Gx,wpAny_of_eq→Hi,wpAny_comprehension_free→Hm,wpAny_pyIter_tuple→Ho,behindInMarks→Hq,attributeBase→Hs,tupleKind_room_in1→Ht,wpAny_pyIter_rangeiter→Hy,sliceBounds→Ic,wpAny_bindName→Ij,wpAny_updateSeq_pair→Iq,bindName→Iu,unpackItems→Jf,keywordEach→Jg,Keyword→Jh,pushCells_keeps→Jm,codeAny_mono→Jx,wpAny_typeOf→Jy,newFunctionEnv→Kb,Spec→Kf,wpAny_sequenceKey→Ki,pushCells→Kn,IsRangeIter→Kv,getItem→Kw,Builtin→La,wpAny_onRaise→Lb,wpAny_eqBool_int→Li,noFill_tuple_add→Lk,wpAny_pyNext_list_item→Lo,wpAny_pyNext_range_end→Lp,codeAny_compStart_list→Lr,DictEntry→Lu,importedModules→Lv,wpAny_execs_nil→Lx,wpAny_pyNext_list_end→Ly,concat_meets→Ma,call_meetsIn→Mc,theTreesLotGoes→Me,wpAny_specialOf→Mf,exec_Assign_Name_used→Mj,codeAny_builtin→Mk,ZipApart→Mp,PyData→Mx,callerA→Nb,bltViewBooted→Nk,seq_tuple_add→Nq,backToKw→Nr,wpAny_attempt→Nx,name_of_addr→Ny,getattributeRaised→Ob,plainId_quiet→Od,standAt→Oh,call_meets→Oj,valueAt→Ol,wpAny_Call_method→Om,wpAny_pyIter_enum→Oq,call_range_1→Pb,codeAny_loop→Pd,compTurn→Py,compEnvC→Pz,Params→Qb,PassesOwn→Qf,pyIter→Qg,lastMarks→Qh,Result→Qi,BindsTo→Qj,noteFrame→Ql,wpAny_noted→Qm,wpAny_letGo→Qp,again→Qr,wpAny_Name→Rp,call→Rr,newList→Rx,Within→Sc,stored→Sf
open PySem.Heap renaming get?_push_of_some→Ac,lt_size→Am,get?_push_size→Aq,size_push→Cy,SameBut→Fd,get?_push_ne→Ie,ExtBut→Jj,get?_update_ne→Nj
open Bool renaming and_eq_true→Ad,false_ne_true→Df,and_eq_true_iff→Dm,false_eq_true→Ef,or_eq_true→Fu,true_and→Le,beq_eq_decide_eq→Ml,false_or→Rw,not_true→Sa
open List renaming getElem?_eq_some_iff→Ae,getElem?_append_left→Ai,mem_cons→Ak,mem_cons_of_mem→Ao,mem_singleton→Ar,size_toArray→As,range→At,mem_cons_self→Au,mem_append_right→Av,append_assoc→Ay,map_cons→Az,not_mem_nil→Ba,replicate→Bb,mem_map→Be,length_cons→Bm,mem_append→Bo,length_take→Bp,getElem?_eq_none→Br,getElem?_append_right→Bt,mem_append_left→Bv,getElem?_set_ne→Bw,length_map→Bz,getElem?_take_of_lt→Cb,length_set→Cc,length_append→Cd,take_of_length_le→Cf,getElem?_eq_getElem→Cg,mem_range→Ci,lookup_cons→Cj,drop_eq_getElem_cons→Cn,getElem?_map→Cq,getElem?_replicate→Cu,nodup_cons→Cv,take_append_of_le_length→Cw,mem_of_getElem?→Dc,getElem?_set_self→De,drop_length→Di,append_nil→Dn,nil_append→Dr,lookup_cons_self→Dz,perm_append_comm→Ea,take_append_drop→Eb,mem_filter→Ec,map_nil→Eg,set_comm→El,pairwise_append→Ep,map_congr_left→Ex,range_succ_eq_map→Fb,length_singleton→Ff,map_map→Fh,set_append_right→Fj,length_eq_zero_iff→Ga,pairwise_lt_range'→Gb,cons_append→Gd,pairwise_cons→Go,find?_cons→Gr,map_append→Gs,any_cons→Ha,length_range→Hb,getElem?_eq_none_iff→Hf,getElem_mem→Hh,range'→Hj,set_cons_succ→Hw,set_cons_zero→Hx,length_replicate→Ik,mem_iff_getElem?→Im,all_eq_true→Io,filterMap_cons→Je,forIn_cons→Ji,idxOf_lt_length_of_mem→Js,getElem?_take→Jz,pairwise_iff_getElem→Ke,ext_getElem?→Kk,zip_nil_left→Kl,mem_range'_1→Ko,pairwise_map→Ks,pairwise_singleton→Lc,take_length→Lm,range'_succ→Ln,of_mem_zip→Lz,length_nil→Mb,zip_append→Mh,pairwise_flatMap→Mm,getElem?_mapIdx→Mq,drop_zero→My,forIn_nil→Mz,lookup→Nc,take_succ_cons→Nd,getElem_of_mem→Nh,mem_filterMap→No,getElem_range→Nv,getElem_idxOf→Oe,flatMap_cons→Pa,getElem_inj→Ph,length_drop→Pk,isEmpty_iff→Pn,zipIdx_cons→Po,reverse_nil→Ps,countP_cons→Pt,mem_flatMap→Pw,zipIdx_nil→Qo,filter_map→Qx,mapM_cons→Ra,take_succ→Rb,drop_take→Rc,take_zero→Rf,drop_drop→Rg,take_take→Rh,take_left→Rj,all_cons→Ry,all_map→Sh,any_map→Si
open Nat renaming le_refl→Ag,lt_of_lt_of_le→Ax,ne_of_lt→Bd,le_trans→Bu,lt_irrefl→Ca,zero_le→Cr,le_of_lt→Db,le_of_not_lt→Dt,le_of_succ_le→Ek,le_succ→Ew,zero_add→Fw,ne_of_gt→Gq,lt_of_succ_lt→Ii,add_assoc→Ja,le_antisymm→Jp,min_eq_left→Jq,le_of_lt_succ→Kp,lt_of_not_le→Ll,min_le_left→Mi,lt_of_le_of_lt→Nu,lt_succ_of_lt→Oy,lt_trans→Pc,add_comm→Pf,add_zero→Pg,succ_le_succ→Pq,not_le_of_lt→Pr,not_lt_zero→Qq
open Option renaming bind_some→An,map_some→Mn,isSome_some→Nt,getD_none→Pl
open PySem.W renaming Frag→Ap,mg_none_of→Dd,kia_one→Fq,kas_item→Iz,mg_of→Jn,keepIn→Mo,fnOf→Mu,kitx_list→Na,codeIn→Np,kas_rev→Ov,nsIn→Pe,cellsFrom_some→Pj,methodObj→Qe,kasC_bind→Qs,kasC_modify→Qt,kasC_cons→Qu,kas_item_eq→Qw,looseW→Rk,instObj→Sb,OpenLaw→Sg
open PySem.F renaming slot_list_append→Bf,type_list_append→Bg,slot_dict_get→Dy,entry_dict_get→Fa,slot_tuple_iterator_next→Fc,args_tuple_add_2→Hk,entry_tuple_add→Hr,args_dict_get_2→Hu,slot_tuple_add→Hz,args_tuple_iterator_next_1→Ix,entry_tuple_iterator_next→Jk,slot_zip_next→Jl,slot_dict_getitem→Ka,args_dict_get_3→Kx,plainAttrs_dict→Ky,plainAttrs_list→Kz,type_dict_get→Md,plain_reversed_new→Mr,args_zip_next_1→Ot,entry_zip_next→Pp
open PySem.Str renaming ofString→Bi,ofString_eq_toList→Ia
open PySem.NameKind renaming free→Bj,cell→Bx
open PySem.Value renaming ref→Bn,type→Kg,int→Qc,str→Qd,bool→Ro,isStrOf→Ru,builtin→Rz,isInt→Sm,float→Sq
open PySem.Builtin.SmallTypes renaming nextOf→By,ownedTupleIsFree→Dv,ownedTupleHandOut→Hg
open Option.some renaming inj→Ce,injEq→Kr
open ForInStep renaming yield→Cm
open PyProof.Rows renaming callWith_type1→Cp,assignInOrder_cons→Ed,slot_tuple_getitem→Ej,SortSt→Ez,seqObj→Hn,assignInOrder_nil→Ib,envOfC→Lj,subscriptTail_builtinR→Lq,AllBare→Lw,listUpdate_at→Oa,unpackItems_tuple→Oi,IntsAre→Oo,pairsOf→Ox,SortKind→Qa,seqEpoch_at→Qv,expectedOf→Rl,plainGoodE→Rm,plainGoodD→Rn,boot_range→Rq,drecsOf→Rt,tail_any→Rv
open PySem.Builtin.Range renaming rangeFitsLong→Cs,rangeSize→Fz,rangeFields→Ri,small→Sw
open Prod renaming fst→Dh,snd→Eh,ext→Sy
open Ne renaming symm→Dk
open PySem.PassesOwn renaming never→Dq
open Array renaming toList_append→Dw,length_toList→Ei,toList_push→Et,getD→Fv,getD_eq_getD_getElem?→Gv,toList_reverse→Hd,toList_inj→Ip,perm_iff_toList_perm→Jw,eraseIdxIfInBounds→Km,append_empty→Nz,append_push→Ow,toList→Se
open PySem.SeqAt renaming shaped→Em
open Int renaming emod_lt_of_pos→Eo,toNat_natCast→Gz,emod_nonneg→Hv
open PySem.PyData renaming keyHash→Er,depthAll→Ey,canLay0→Gf,canLayAll0→Ig,depth→Il,eqv→Jb,int→Op,strOk→Sj
open PySem.Calls renaming spliced_cons→Fe,callWith_builtin→Gh,spliced_nil→Gy,evalArgs_plain→Hc,Name_function_global→Jt
open List.Perm renaming append_left→Fi,append_right→Gi,trans→Jo
open PySem.Builtin.Slice renaming slicePlaces→Fk,sliceAdjust→He,sliceApplied→Ju,slicePartIndex→Px,sliceFields→Qz
open PyProof.Rows.KTD renaming datumAt→Fl
open PySem.Builtin.Tuple renaming tupleExact→Fs,tupleItemsOf→Jv,tupleIsExact→Qy
open PySem.Obj renaming mapSeq→Ft,data_mapFields→Nw
open Pure renaming pure→Gu
open False renaming elim→Gw
open PySem.AutoSeq1 renaming wpAny_loadPart'→Hl
open PyProof.Rows.SortSt renaming mk'→Ih
open PySem.Around renaming under_plainId→Ir
open Function renaming comp→Iy
open Prod.mk renaming inj→Jd
open List.cons renaming injEq→Jr
open Classical renaming byContradiction→Kc,choose_spec→Mg
open PyProof.Rows.IsTup renaming new→Kh
open List.Pairwise renaming nil→Kj,map→Kt,filter→Mt
open PySem.Challenge renaming pw_lanepacks_k05_whole_must→Ku,rw_lanepacks_k05_whole_must→Lg
open PySem.Builtin.Dict renaming updateFrom→Ld,pairItems→Ls,missed→Ng
open Or renaming inl→Mv,inr→Mw
open PySem.Heap.SameBut renaming update→Nf
open PySem.Paired renaming length→Nl,snoc→Sv
open Sum renaming inl→Of,inr→Og
open Char renaming toNat→Oz
open PySem.Heap.DictOf renaming new→Qk
open PySem.Shared renaming heap→Qn
open PySem.Walks renaming list→Rs,range→Sr
open PySem.MeetsSeq.EqGives renaming int→Sk
open PySem.IsRange renaming new→Su
open PySem.Heap.Ns renaming new→Sx
open PySem.Heap.IsSliceOf renaming new→Sz
open PySem.W.WShape renaming has→Ta
noncomputable section
namespace RR
open PySem
def top(i:Nat):Stmt:=PySem.Challenge.pw_lanepacks_k05_whole_must.main.body.getD i (.Pass ⟨0,0,0,0⟩)
end RR
namespace KK
open PySem PySem.W PySem.Calls PyProof.Rows
def dA(s:Stmt):Arguments:=match s with
 | .FunctionDef _ a _ _ _ _ _ _ _ _=>a
 |_=>⟨[],[],none,[],[],none,[]⟩
def dB(s:Stmt):List Stmt:=match s with
 | .FunctionDef _ _ b _ _ _ _ _ _ _=>b
 |_=>[]
def dS(s:Stmt):Scope:=match s with
 | .FunctionDef _ _ _ _ _ _ c _ _ _=>c
 |_=>{kind:= .function,names:=[],isGenerator:=false,isCoroutine:=false}
abbrev s(x:Str)(t:Nat):Value:= .str x t
abbrev e(P:Qb)(x:Str)(t:Nat)(v:Value):Lu:=⟨PyData.keyHash P x,s x t,v⟩
abbrev f(a i:Nat)(n:Str)(d m:Value):Nat×Obj:=(a,⟨.type "function",none,.func (fnOf n n (dA (RR.top i)) (dB (RR.top i)) (dS (RR.top i)) d .none .none m none (.ref (a - 1)) .none),#[]⟩)
abbrev fk(a i:Nat)(n:Str)(d k m:Value):Nat×Obj:=(a,⟨.type "function",none,.func (fnOf n n (dA (RR.top i)) (dB (RR.top i)) (dS (RR.top i)) d k .none m none (.ref (a - 1)) .none),#[]⟩)
abbrev co(a:Nat)(n:Str)(t:Nat)(l k:Int)(u:Nat)(x y z v:Value):Nat×Obj:=(a,⟨.type "code",none,.fields #[s n t,s n (t+1),s "/claim/cut.py" (t+2),.int l 0,.int k 0,.int 0 0,.int 0 0,.int 3 0,x,.bool true,.int 181 0,y,.none,z,v,.ref (a - 1),.int u 0,.int l 0,s "/claim/cut.py" (u+1)],#[]⟩)
abbrev c(a:Nat)(n:Str)(t:Nat)(l k:Int)(u:Nat):Nat×Obj:=co a n t l k u (.ref (a - 5)) (.ref (a - 4)) (.ref (a - 3)) (.ref (a - 2))
abbrev b(a:Nat)(n:Str)(t:Nat)(l k:Int)(u:Nat):Nat×Obj:=co a n t l k u (.ref (a - 3)) (.ref (a - 2)) .none .none
abbrev m:Value:=s "law_lanepacks_k05_whole_must" 457
noncomputable def K(P:Qb):Frag:=[(3,⟨.type "dict",none,.dict #[e P "__name__" 165 (s "law_lanepacks_k05_whole_must" 457),e P "__doc__" 166 (.none),e P "__package__" 167 (.none),e P "__loader__" 168 (.builtin "__main__.__loader__#opaque"),e P "__spec__" 169 (.none),e P "__annotations__" 170 (.ref 6),e P "__builtins__" 171 (.ref 4),e P "__file__" 173 (s "/claim/cut.py" 172),e P "__cached__" 174 (.none),e P "PackError" 206 (.ref 24),e P "NoBlock" 222 (.ref 37),e P "NoRow" 247 (.ref 56),e P "MOST_WORD" 251 (.int 999 250),e P "DEEDS" 259 (.ref 59),e P "is_whole" 268 (.ref 66),e P "MOST_SURE" 272 (.int 64 271),e P "MOST_ROWS" 274 (.int 40 273),e P "MOST_PLACE" 276 (.int 63 275),e P "DEED_PARTS" 279 (.ref 67),e P "OTHER_PARTS" 305 (.ref 68),e P "READERS" 308 (.ref 75),e P "WRITERS" 311 (.ref 76),e P "parts_of" 318 (.ref 83),e P "makes_word" 325 (.ref 90),e P "place_of" 332 (.ref 97),e P "names_of" 338 (.ref 102),e P "may_name" 346 (.ref 109),e P "fits" 355 (.ref 116),e P "is_row" 361 (.ref 121),e P "is_block" 372 (.ref 128),e P "row_at" 381 (.ref 135),e P "writes" 390 (.ref 142),e P "is_safe_number" 397 (.ref 149),e P "can_fault" 409 (.ref 156),e P "share_written_cell" 417 (.ref 163),e P "must_stay" 429 (.ref 170),e P "must_pairs" 435 (.ref 175),e P "may_fault" 443 (.ref 182),e P "must" 450 (.ref 189),e P "ahead" 456 (.ref 194),e P "_law_cell_at" 468 (.ref 201),e P "_law_mixed" 478 (.ref 208),e P "_law_draw" 487 (.ref 215),e P "_law_pick" 496 (.ref 222),e P "_law_same_truth" 504 (.ref 229),e P "_law_place" 515 (.ref 236),e P "_law_row" 521 (.ref 241),e P "_law_rows" 535 (.ref 248),e P "_law_next" 552 (.ref 255),e P "_law_block" 558 (.ref 260),e P "_law_names" 565 (.ref 267),e P "_law_may" 571 (.ref 272),e P "_law_must" 577 (.ref 277),e P "_law_mixed_order" 583 (.ref 282),e P "_law_renamed" 589 (.ref 287),e P "law" 595 (.ref 292)] 56,#[]⟩),
 (59,⟨.type "tuple",none,.seq #[s "plus" 252,s "minus" 253,s "times" 254,s "least" 255,s "most" 256,s "less" 257,s "over" 258] 0,#[]⟩),
 f 66 7 "is_whole" (.none) (s "lanepacks.words" 248),
 c 65 "is_whole" 260 14 3 266,
 (67,⟨.type "tuple",none,.seq #[s "row" 277,s "row" 278] 0,#[]⟩),
 (68,⟨.type "dict",none,.dict #[e P "number" 280 (.ref 69),e P "pick" 282 (.ref 70),e P "load" 286 (.ref 71),e P "take" 288 (.ref 72),e P "store" 292 (.ref 73),e P "put" 295 (.ref 74)] 6,#[]⟩),
 (69,⟨.type "tuple",none,.seq #[s "word" 281] 0,#[]⟩),
 (70,⟨.type "tuple",none,.seq #[s "row" 283,s "row" 284,s "row" 285] 0,#[]⟩),
 (71,⟨.type "tuple",none,.seq #[s "place" 287] 0,#[]⟩),
 (72,⟨.type "tuple",none,.seq #[s "place" 289,s "row" 290,s "row" 291] 0,#[]⟩),
 (73,⟨.type "tuple",none,.seq #[s "place" 293,s "row" 294] 0,#[]⟩),
 (74,⟨.type "tuple",none,.seq #[s "place" 296,s "row" 297,s "row" 298] 0,#[]⟩),
 (75,⟨.type "tuple",none,.seq #[s "load" 306,s "take" 307] 0,#[]⟩),
 (76,⟨.type "tuple",none,.seq #[s "store" 309,s "put" 310] 0,#[]⟩),
 f 83 16 "parts_of" (.none) (s "lanepacks.blocks" 269),
 c 82 "parts_of" 312 26 1 316,
 f 90 17 "makes_word" (.none) (s "lanepacks.blocks" 269),
 c 89 "makes_word" 319 30 1 323,
 f 97 18 "place_of" (.none) (s "lanepacks.blocks" 269),
 c 96 "place_of" 326 32 1 330,
 f 102 19 "names_of" (.none) (s "lanepacks.blocks" 269),
 b 101 "names_of" 333 34 1 336,
 f 109 20 "may_name" (.none) (s "lanepacks.blocks" 269),
 c 108 "may_name" 339 37 2 344,
 f 116 21 "fits" (.none) (s "lanepacks.blocks" 269),
 c 115 "fits" 347 39 3 353,
 f 121 22 "is_row" (.none) (s "lanepacks.blocks" 269),
 b 120 "is_row" 356 45 2 359,
 f 128 23 "is_block" (.none) (s "lanepacks.blocks" 269),
 c 127 "is_block" 362 53 1 370,
 f 135 24 "row_at" (.none) (s "lanepacks.blocks" 269),
 c 134 "row_at" 373 67 2 379,
 f 142 26 "writes" (.none) (s "lanepacks.orders" 382),
 c 141 "writes" 384 75 1 388,
 f 149 27 "is_safe_number" (.none) (s "lanepacks.orders" 382),
 c 148 "is_safe_number" 391 77 1 395,
 f 156 28 "can_fault" (.none) (s "lanepacks.orders" 382),
 c 155 "can_fault" 398 79 2 407,
 f 163 29 "share_written_cell" (.none) (s "lanepacks.orders" 382),
 c 162 "share_written_cell" 410 86 2 415,
 f 170 30 "must_stay" (.none) (s "lanepacks.orders" 382),
 c 169 "must_stay" 418 88 3 427,
 f 175 31 "must_pairs" (.none) (s "lanepacks.orders" 382),
 b 174 "must_pairs" 430 96 1 433,
 f 182 32 "may_fault" (.none) (s "lanepacks.orders" 382),
 c 181 "may_fault" 436 100 2 441,
 f 189 33 "must" (.none) (s "lanepacks.orders" 382),
 c 188 "must" 444 103 1 448,
 f 194 34 "ahead" (.none) (s "lanepacks.orders" 382),
 b 193 "ahead" 451 107 2 454,
 f 201 36 "_law_cell_at" (.none) m,
 c 200 "_law_cell_at" 459 115 2 466,
 f 208 37 "_law_mixed" (.none) m,
 c 207 "_law_mixed" 469 124 3 476,
 f 215 38 "_law_draw" (.none) m,
 c 214 "_law_draw" 479 127 3 485,
 f 222 39 "_law_pick" (.none) m,
 c 221 "_law_pick" 488 130 3 494,
 f 229 40 "_law_same_truth" (.none) m,
 c 228 "_law_same_truth" 497 132 2 502,
 f 236 41 "_law_place" (.none) m,
 c 235 "_law_place" 505 134 5 513,
 f 241 42 "_law_row" (.none) m,
 b 240 "_law_row" 516 137 5 519,
 f 248 43 "_law_rows" (.none) m,
 c 247 "_law_rows" 522 155 4 533,
 f 255 44 "_law_next" (.none) m,
 c 254 "_law_next" 536 167 6 550,
 f 260 45 "_law_block" (.none) m,
 b 259 "_law_block" 553 178 3 556,
 f 267 46 "_law_names" (.none) m,
 c 266 "_law_names" 559 187 1 563,
 f 272 47 "_law_may" (.none) m,
 b 271 "_law_may" 566 191 2 569,
 f 277 48 "_law_must" (.none) m,
 b 276 "_law_must" 572 196 1 575,
 f 282 49 "_law_mixed_order" (.none) m,
 b 281 "_law_mixed_order" 578 208 3 581,
 f 287 50 "_law_renamed" (.none) m,
 b 286 "_law_renamed" 584 215 2 587,
 f 292 51 "law" (.none) m,
 b 291 "law" 590 220 1 593]
noncomputable def A:List Nat:=[3,59,66,65,67,68,69,70,71,72,73,74,75,76,83,82,90,89,97,96,102,101,109,108,116,115,121,120,128,127,135,134,142,141,149,148,156,155,163,162,170,169,175,174,182,181,189,188,194,193,201,200,208,207,215,214,222,221,229,228,236,235,241,240,248,247,255,254,260,259,267,266,272,271,277,276,282,281,287,286,292,291]
noncomputable def view:Bk:={Ku with main:={PySem.Challenge.pw_lanepacks_k05_whole_must.main with body:=[1,2,3,5,6,7,9,10,11,12,13,14,15,16,17,18,19,20,21,22,23,24,26,27,28,29,30,31,32,33,34,36,37,38,39,40,41,42,43,44,45,46,47,48,49,50,51].map RR.top}}
abbrev lo:List Str:=["OTHER_PARTS"]
theorem kA(P:Qb):A=(K P).map (·.1):=by kernel_rfl
noncomputable def X(s:Af):Bool:=xlAt view [] s && recOk (RowW.records (OpenRow.toRowW PySem.Challenge.rw_lanepacks_k05_whole_must.row)) s
noncomputable abbrev H:Hook:=kHook K A kA
abbrev pr:Bk:=PySem.Challenge.rw_lanepacks_k05_whole_must.row.prog
abbrev go(w:World)(b:Bool):Option Af:=openEnds treeTable pr (w.withFollow "special-get-raises" b) 3994
noncomputable abbrev fA(s:Af):=seen ((recsOf view).map (·.name)) (ownsOf view) [] {s with gens:= #[]}
noncomputable abbrev fB(s:Af):=(s.heap.bltView,tabsOk view s)
noncomputable abbrev fC(s:Af):Bool:=s.heap.keysOk (Rk view lo) ((recsOf view).map (·.name)) ((litsOf view).map (·.1)) ((clssOf view (Rk view lo)).map (·.name)) && s.heap.accountedOkI (Lv pr.main.body) && s.heap.isNs mainGlobals && s.heap.isNs builtinsNs && tablesOk view s.heap && X s && (if true then s.gens.size==0 else !leftWithCleanup s.gens)
noncomputable abbrev fD(s:Af):=(pinSeenD view (Rt view) s,plainSeenE view (Rk view lo) s,plainSeenD view lo s,wideSeen view s,clsSeenW view lo s,H.obs s)
set_option maxRecDepth 100000 in
set_option maxHeartbeats 0 in
theorem rAf(w:World):(go w false).map fA=some (Rl view):=by kernel_rfl
set_option maxRecDepth 100000 in
set_option maxHeartbeats 0 in
theorem rBf(w:World):(go w false).map fB=some ((Nk,true)):=by kernel_rfl
set_option maxRecDepth 100000 in
set_option maxHeartbeats 0 in
theorem rCf(w:World):(go w false).map fC=some (true):=by kernel_rfl
set_option maxRecDepth 100000 in
set_option maxHeartbeats 0 in
theorem rDf(w:World):(go w false).map fD=some ((pinGoodD (Rt view),Rm view (Rk view lo),Rn view lo,wideGood view,clsGoodW view lo,H.val (w.withFollow "special-get-raises" false))):=by kernel_rfl
set_option maxRecDepth 100000 in
set_option maxHeartbeats 0 in
theorem rAt(w:World):(go w true).map fA=some (Rl view):=by kernel_rfl
set_option maxRecDepth 100000 in
set_option maxHeartbeats 0 in
theorem rBt(w:World):(go w true).map fB=some ((Nk,true)):=by kernel_rfl
set_option maxRecDepth 100000 in
set_option maxHeartbeats 0 in
theorem rCt(w:World):(go w true).map fC=some (true):=by kernel_rfl
set_option maxRecDepth 100000 in
set_option maxHeartbeats 0 in
theorem rDt(w:World):(go w true).map fD=some ((pinGoodD (Rt view),Rm view (Rk view lo),Rn view lo,wideGood view,clsGoodW view lo,H.val (w.withFollow "special-get-raises" true))):=by kernel_rfl
theorem jn{o:Option Af}{v:H.α}(ha:o.map fA=some (Rl view))(hb:o.map fB=some (Nk,true))(hc:o.map fC=some true)(hd:o.map fD=some (pinGoodD (Rt view),Rm view (Rk view lo),Rn view lo,wideGood view,clsGoodW view lo,v)):
  o.map (fun s=>(openSeen view lo (Lv pr.main.body) X true s,H.obs s))=some (openGood view lo,v):=by
 cases o with
 |none=>cases ha
 |some s=>
  have ea:fA s=_:=Ce ha;have eb:fB s=_:=Ce hb;have ec:fC s=_:=Ce hc;have ed:fD s=_:=Ce hd;obtain⟨b1,b2⟩:=Jd eb;obtain⟨d1,ed⟩:=Jd ed;obtain⟨d2,ed⟩:=Jd ed;obtain⟨d3,ed⟩:=Jd ed;obtain⟨d4,ed⟩:=Jd ed;obtain⟨d5,d6⟩:=Jd ed;show some ((fA s,s.heap.bltView,fC s,tabsOk view s,pinSeenD view (Rt view) s,plainSeenE view (Rk view lo) s,plainSeenD view lo s,wideSeen view s,clsSeenW view lo s),H.obs s)=_;rw[ea,b1,ec,b2,d1,d2,d3,d4,d5,d6];rfl
theorem hl:LeftO pr view lo X H.obs H.val 3994:=fun w=>byRow2 "special-get-raises" (P:=fun w=>(openEnds treeTable pr w 3994).map (fun s=>(openSeen view lo (Lv pr.main.body) X true s,H.obs s))=some (openGood view lo,H.val w)) (fun w=>jn ((rAf w)) ((rBf w)) ((rCf w)) ((rDf w))) (fun w=>jn ((rAt w)) ((rBt w)) ((rCt w)) ((rDt w))) w
set_option maxRecDepth 100000 in
set_option maxHeartbeats 0 in
theorem said:PySem.Challenge.rw_lanepacks_k05_whole_must.wellSaid=true:=by kernel_rfl
end KK
namespace L2
open PySem PySem.Spec PyProof.Rows
abbrev a0:=Sum Int Str
noncomputable def M7:a0->Value->Bool
 | .inl k,v=>Sm k v
 | .inr x,v=>Ru x v
def keyH(w:World):a0->Int
 | .inl k=>hashInt k
 | .inr x=>hashStr w x
theorem aL: ∀{k:a0} {v:Value},M7 k v=true->(∃i t,k=Of i/\v=Qc i t)∨(∃x t,k=Og x/\v=Qd x t)
 | .inl i,v,h=>by
  obtain⟨t,e⟩:=Value.isInt_shape (k:=i) (v:=v) h;exact .inl ⟨i,t,rfl,e⟩
 | .inr x,v,h=>by
  obtain⟨t,e⟩:=Value.isStrOf_shape (x:=x) (v:=v) h;exact .inr ⟨x,t,rfl,e⟩
theorem EM(i:Int)(t:Tok):M7 (.inl i) (.int i t)=true:=by simp[M7,Sm]
theorem EN(x:Str)(t:Tok):M7 (.inr x) (.str x t)=true:=by simp[M7,Ru]
theorem zFU(a b:Int):decide ((Of a:a0)=Of b)=(a==b):=by
 by_cases e:a=b
 ·subst e;simp
 ·have h : ¬ (Of a : a0) = Of b := fun q => e (Sum.inl.inj q)
  rw[decide_eq_false h];exact(beq_eq_false_iff_ne.mpr e).symm
theorem zFR(a b:Str):decide ((Og a:a0)=Og b)=decide (a=b):=by
 by_cases e:a=b
 ·subst e;simp
 ·have h : ¬ (Og a : a0) = Og b := fun q => e (Sum.inr.inj q)
  rw[decide_eq_false h,decide_eq_false e]
theorem zFT(a:Int)(b:Str):decide ((Of a:a0)=Og b)=false:=decide_eq_false (fun q=>nomatch q)
theorem zFS(a:Str)(b:Int):decide ((Og a:a0)=Of b)=false:=decide_eq_false (fun q=>nomatch q)
noncomputable def bG(prog:Bk)(w:World):PySem.KeyKind prog w a0 where
 is:=M7
 hash:=keyH w
 inj:=fun v a b ha hb=>by
  rcases aL ha with⟨i,t,rfl,rfl⟩|⟨x,t,rfl,rfl⟩
  ·rcases aL hb with⟨j,u,rfl,e⟩|⟨y,u,rfl,e⟩
   ·injection e with e1 _;rw[e1]
   ·exact nomatch e
  ·rcases aL hb with⟨j,u,rfl,e⟩|⟨y,u,rfl,e⟩
   ·exact nomatch e
   ·injection e with e1 _;rw[e1]
 byValue:=fun k v h=>by
  rcases aL h with⟨i,t,rfl,rfl⟩|⟨x,t,rfl,rfl⟩<;>rfl
 pyHash:=fun hv h=>by
  rcases aL hv with⟨i,t,rfl,rfl⟩|⟨x,t,rfl,rfl⟩
  ·exact wpAny_pyHash_int h
  ·exact wpAny_pyHash_str h
 eqBool:=fun hu hv h=>by
  rcases aL hu with⟨i,t,rfl,rfl⟩|⟨x,t,rfl,rfl⟩
  ·rcases aL hv with⟨j,u,rfl,rfl⟩|⟨y,u,rfl,rfl⟩
   ·rw[zFU] at h;exact Li h
   ·rw[zFT] at h;exact SeqAt.EqAt.int_str i t y u _ _ _ _ h
  ·rcases aL hv with⟨j,u,rfl,rfl⟩|⟨y,u,rfl,rfl⟩
   ·rw[zFS] at h;exact SeqAt.EqAt.str_int x t j u _ _ _ _ h
   ·rw[zFR] at h;exact wpAny_eqBool_str h
 «strs» :=fun k x t v h=>by
  rcases aL h with⟨i,u,rfl,e⟩|⟨y,u,rfl,e⟩
  ·exact nomatch e
  ·injection e with e1 _
   subst e1;cases v<;>rfl
theorem J6(prog:Bk)(w:World)(i:Int)(t:Tok):(bG prog w).is (.inl i) (.int i t)=true:=EM i t
theorem J7(prog:Bk)(w:World)(x:Str)(t:Tok):(bG prog w).is (.inr x) (.str x t)=true:=EN x t
inductive V where
 |non|bl (b:Bool)|int (i:Int)|str (x:Str)|byt (b:Array UInt8)|flt (b:UInt64)|ref (a:Addr)|ty (n:String)
 deriving DecidableEq
def cB:V->Value->Prop
 | .non,u=>u=Value.none
 | .bl b,u=>u=Ro b
 | .int i,u=> ∃t,u=Qc i t
 | .str x,u=> ∃t,u=Qd x t
 | .byt b,u=> ∃t,u=Value.bytes b t
 | .flt b,u=> ∃t,u=Sq b t
 | .ref a,u=>u=Bn a
 | .ty n,u=>u=Kg n
abbrev b6:List V->List Value->Prop:=Paired cB
theorem b6.length{xs:List V}{us:List Value}(r:b6 xs us):xs.length=us.length:=Nl r
theorem b6.get: ∀{xs:List V} {us:List Value} {i:Nat} {x:V},b6 xs us->xs[i]? =some x-> ∃u,us[i]? =some u/\cB x u
 |_,_,_,_,.nil,e=>by simp at e
 |_,_,0,_,.cons r _,e=>by simp at e;subst e;exact⟨_,rfl,r⟩
 |_,_,i+1,x,.cons _ t,e=>by
  obtain⟨u,h1,h2⟩:=b6.get (i:=i) (x:=x) t (by simpa using e);exact⟨u,by simpa using h1,h2⟩
theorem b6.append: ∀{xs ys:List V} {us ws:List Value},b6 xs us->b6 ys ws->b6 (xs++ys) (us++ws)
 |_,_,_,_,.nil,s=>s
 |_,_,_,_,.cons r t,s=> .cons r (b6.append t s)
theorem b6.take: ∀{xs:List V} {us:List Value} (n:Nat),b6 xs us->b6 (xs.take n) (us.take n)
 |_,_,0,_=> .nil
 |_,_,_+1,.nil=> .nil
 |_,_,n+1,.cons r t=> .cons r (b6.take n t)
theorem b6.drop: ∀{xs:List V} {us:List Value} (n:Nat),b6 xs us->b6 (xs.drop n) (us.drop n)
 |_,_,0,r=>r
 |_,_,_+1,.nil=> .nil
 |_,_,n+1,.cons _ t=>b6.drop n t
def RF:Option V->Option Value->Prop
 |some v,some u=>cB v u
 |none,none=>True
 |_,_=>False
def KV{κ:Type}:List (κ×V)->List (κ×Value)->Prop:=Paired fun(p:κ×V) (q:κ×Value)=>p.1=q.1/\cB p.2 q.2
noncomputable def kV:a0->V
 | .inl i=> .int i
 | .inr x=> .str x
inductive HO where
 |lst (xs:List V)
 |tup (xs:List V)
 |dK (kvs:List (a0×V))|dT (kvs:List (List a0×V))
 |set (S:Int->Bool) (n:Nat)
 |ins (C dx:Addr) (fs:List (Str×V))
 |own (x:Addr)
 |xd (fs:List (Str×V))
 |met (f x:Addr)
 |rng (lo hi:Int)
 |frz (o:Obj) (u:HO)
 |tbl (ps:Array Value)
 |ext (φ:Heap->Prop)
abbrev Hp:=Addr->Option HO
noncomputable def bH(H:Hp)(a:Addr)(o:HO):Hp:=fun b=>if b=a then some o else H b
theorem cO{H:Hp}{a:Addr}{o:HO}:bH H a o a=some o:=by unfold bH;rw[if_pos rfl]
theorem b7{H:Hp}{a b:Addr}{o:HO}(h:b≠a):bH H a o b=H b:=by unfold bH;rw[if_neg h]
theorem zI2{H:Hp}{a b:Addr}{o u:HO}(h:H a=some o)(h':H b=some u)(d:o≠u):a≠b:=by intro e;subst e;rw[h] at h';exact d (Ce h')
theorem YO{H:Hp}{a b:Addr}{o:HO}(h:H a=some o)(h':H b=none):a≠b:=by intro e;subst e;rw[h] at h';cases h'
section
variable(P:Bk)(w:World)
def aC(H:Hp)(h:Heap)(a:Addr):HO->Prop
 | .lst xs=>xs.length<=sizeLine/\ ∃(its:List Value) (n:Nat),b6 xs its/\h.get? a=some {cls:= .type "list",data:= .seq its.toArray n}
 | .tup xs=>xs.length<=sizeLine/\ ∃its:List Value,b6 xs its/\IsTup h a its.toArray
 | .dK kvs=>kvs.length<=sizeLine/\(a==Fm)=false/\ ∃vs,KV kvs vs/\h.DictOf (bG P w) a vs
 | .dT kvs => kvs.length <= sizeLine /\ (a == Fm) = false /\ ∃ xs : List (List a0 × Addr × Value),
   Paired (fun(p:List a0×V) (q:List a0×Addr×Value)=>p.1=q.1/\H q.2.1=some (.tup (p.1.map kV))/\cB p.2 q.2.2) kvs xs∧
   ∃o es ep,h.get? a=some o/\o.ExactDict/\o.data= .dict es ep/\es.toList=xs.map (entryOfKey (tupleKind (bG P w)))/\(xs.map (·.1)).Nodup
 | .set S n=>h.SetOf (intKind P w) a S n
 | .ins C dx fs => H dx = some (.own a) /\ fs.length <= 1000 /\ dx ≠ a /\ h.get? a = some (Sb C dx) ∧
   ∃mA,h.Ns1 dx mA/\(∀f,RF (fs.lookup f) (mA f))/\Sc mA (fs.map (·.1))
 | .own _=> ∃o,h.get? a=some o
 | .xd fs=> ∃mA,h.Ns1 a mA/\ ∀f,RF (fs.lookup f) (mA f)
 | .rng lo hi=> ∃t u v,h.get? a=some {cls:= .type "range",data:= .fields #[.int lo t,.int hi u,.int 1 v]}
 | .frz o u=>h.get? a=some o/\aC H h a u
 | .tbl ps=>h.get? a=some {cls:= .none,data:= .fields ps}
 | .met f x=>h.get? a=some (Qe (.ref f) (.ref x))
 | .ext φ=>φ h/\(∃o,h.get? a=some o)/\ ∀h1 h2:Heap,φ h1->(∀o,h1.get? a=some o->h2.get? a=some o)->φ h2
def T3(H:Hp)(h:Heap):Prop:= ∀a o,H a=some o->aC P w H h a o
end
section
variable{P:Bk}{w:World}{H H':Hp}{h h':Heap}{a:Addr}{o:HO}
theorem aC.lt(x:aC P w H h a o):a<h.objs.size:=by
 cases o with
 |lst xs=>obtain⟨_,_,_,_,e⟩:=x;exact Am e
 |tup xs=>obtain⟨_,_,_,p⟩:=x;exact p.lt
 |dK kvs=>obtain⟨_,_,_,_,o,_,_,e,_⟩:=x;exact Am e
 |dT kvs=>obtain⟨_,_,_,_,o,_,_,e,_⟩:=x;exact Am e
 |set S n=>obtain⟨o,_,_,_,e,_⟩:=x;exact Am e
 |ins C dx fs=>obtain⟨_,_,_,e,_⟩:=x;exact Am e
 |own y=>obtain⟨_,e⟩:=x;exact Am e
 |xd fs=>obtain⟨_,⟨_,_,_,e,_⟩,_⟩:=x;exact Am e
 |rng lo hi=>obtain⟨_,_,_,e⟩:=x;exact Am e
 |frz ob u=>obtain⟨e,_⟩:=x;exact Am e
 |tbl ps=>exact Am (show h.get? a=some _ from x)
 |met f y=>exact Am (show h.get? a=some _ from x)
 |ext φ=>obtain⟨_,⟨_,e⟩,_⟩:=x;exact Am e
theorem Paired.mapP{α β:Type}{F G:α->β->Prop}: ∀{l₁:List α} {l₂:List β},Paired F l₁ l₂->(∀a b,F a b->G a b)->Paired G l₁ l₂
 |_,_,.nil,_=> .nil
 |_,_,.cons r t,f=> .cons (f _ _ r) (Paired.mapP t f)
theorem aC.stay(x:aC P w H h a o)(k: ∀b u,(b=a∨H b=some (.own a))->h.get? b=some u->h'.get? b=some u)
  (ho: ∀b,H b=some (.own a)->H' b=some (.own a)) (ht: ∀b xs,H b=some (.tup xs)->H' b=some (.tup xs)):aC P w H' h' a o:=by
 induction o with
 |lst xs=>obtain⟨z,its,n,r,e⟩:=x;exact⟨z,its,n,r,k _ _ (.inl rfl) e⟩
 |tup xs=>obtain⟨z,its,r,ob,e,c⟩:=x;exact⟨z,its,r,ob,k _ _ (.inl rfl) e,c⟩
 |dK kvs=>obtain⟨z,y,vs,r,ob,es,ep,e,c⟩:=x;exact⟨z,y,vs,r,ob,es,ep,k _ _ (.inl rfl) e,c⟩
 |dT kvs=>
  obtain⟨z,y,xs,r,ob,es,ep,e,c⟩:=x;exact⟨z,y,xs,Paired.mapP r fun p q z=>⟨z.1,ht _ _ z.2.1,z.2.2⟩,ob,es,ep,k _ _ (.inl rfl) e,c⟩
 |set S n=>obtain⟨ob,es,ep,t,e,c⟩:=x;exact⟨ob,es,ep,t,k _ _ (.inl rfl) e,c⟩
 |ins C dx fs=>
  obtain⟨d,z,ne,e,mA,⟨od,es,ep,e2,c⟩,r⟩:=x;exact⟨ho _ d,z,ne,k _ _ (.inl rfl) e,mA,⟨od,es,ep,k _ _ (.inr d) e2,c⟩,r⟩
 |own y=>obtain⟨ob,e⟩:=x;exact⟨ob,k _ _ (.inl rfl) e⟩
 |xd fs=>obtain⟨mA,⟨od,es,ep,e,c⟩,r⟩:=x;exact⟨mA,⟨od,es,ep,k _ _ (.inl rfl) e,c⟩,r⟩
 |rng lo hi=>obtain⟨t,u,v,e⟩:=x;exact⟨t,u,v,k _ _ (.inl rfl) e⟩
 |frz ob u ih=>obtain⟨e,q⟩:=x;exact⟨k _ _ (.inl rfl) e,ih q⟩
 |tbl ps=>
  have e:h.get? a=some {cls:= .none,data:= .fields ps}:=x;show h'.get? a=some {cls:= .none,data:= .fields ps};exact k a _ (.inl rfl) e
 |met f y=>
  have e:h.get? a=some (Qe (.ref f) (.ref y)):=x;show h'.get? a=some (Qe (.ref f) (.ref y));exact k a _ (.inl rfl) e
 |ext φ=>obtain⟨p,⟨o,e⟩,st⟩:=x;exact⟨st _ _ p fun o q=>k _ _ (.inl rfl) q,⟨o,k _ _ (.inl rfl) e⟩,st⟩
theorem T3.lt(x:T3 P w H h)(e:H a=some o):a<h.objs.size:=(x a o e).lt
theorem T3.fresh(x:T3 P w H h)(e:h.objs.size<=a):H a=none:=by
 cases q:H a with
 |none=>rfl
 |some u=>exact absurd (Ax (x.lt q) e) (Ca _)
theorem T3.kept(x:T3 P w H h)(k: ∀b u,h.get? b=some u->h'.get? b=some u):T3 P w H h':=fun a o e=>
 (x a o e).stay (fun b u _ q=>k b u q) (fun _ q=>q) fun _ _ q=>q
theorem T3.laid(x:T3 P w H h)(k: ∀b u,h.get? b=some u->h'.get? b=some u)(hp:h.objs.size<=a)(new:aC P w (bH H a o) h' a o):T3 P w (bH H a o) h':=fun b u e=>by
 have hn:=x.fresh hp;by_cases hb:b=a
 ·subst hb;rw[cO] at e;cases e;exact new
 ·rw[b7 hb] at e
  exact(x b u e).stay (fun c v _ q=>k c v q) (fun c q=>by rw[b7 (YO q hn)];exact q) fun c xs q=>by rw[b7 (YO q hn)];exact q
end
def Rd(H:Hp)(a:Addr)(u:HO):Prop:=H a=some u∨ ∃o,H a=some (.frz o u)
theorem Rd.ok{P:Bk}{w:World}{H:Hp}{h:Heap}{a:Addr}{u:HO}(r:Rd H a u)(x:T3 P w H h):aC P w H h a u:=by
 rcases r with r|⟨o,r⟩
 ·exact x a u r
 ·obtain⟨_,q⟩:=x a _ r
  exact q
def Mut:Option HO->Prop
 |some (.lst _)=>True
 |some (.dK _)=>True
 |some (.dT _)=>True
 |some (.set _ _)=>True
 |some (.ins _ _ _)=>True
 |some (.ext _)=>True
 |_=>False
section
variable{P:Bk}{w:World}{H:Hp}{h h':Heap}{x e:Addr}{o':HO}
theorem T3.write(ok:T3 P w H h)(mu:Mut (H x))(he:e=x∨H e=some (.own x))(k: ∀b u,b≠e->h.get? b=some u->h'.get? b=some u)(heo: ∃u,h'.get? e=some u)
  (new:aC P w (bH H x o') h' x o'):T3 P w (bH H x o') h':=fun b u q=>by
 have l9: ∀c y,H c=some (.own y)->c≠x:=fun c y r z=>by subst z;rw[r] at mu;exact mu
 have mn: ∀c xs,H c=some (.tup xs)->c≠x:=fun c xs r z=>by subst z;rw[r] at mu;exact mu
 by_cases hb:b=x
 ·subst hb;rw[cO] at q;cases q;exact new
 ·rw[b7 hb] at q
  by_cases hbe:b=e
  ·have q':H b=some (.own x):=by
    rcases he with z|z
    ·exact absurd (hbe.trans z) hb
    ·rw[hbe];exact z
   rw[q] at q';cases q';obtain⟨v,hv⟩:=heo;exact⟨v,by rw[hbe];exact hv⟩
  ·refine (ok b u q).stay (fun c v hc r => k c v ?_ r) (fun c r => by rw [b7 (l9 c b r)];exact r) fun c xs r => by rw [b7 (mn c xs r)];exact r
   rcases hc with rfl|hc
   ·exact hbe
   ·rintro rfl
    rcases he with z|z
    ·exact l9 c b hc z
    ·rw[hc] at z;cases z;exact hb rfl
end
structure Un(fs ex:List Addr)(H H':Hp)(h h':Heap):Prop where
 keep: ∀b o,h.get? b=some o->H b=none->b∉fs->b∉ex->h'.get? b=some o
 slot: ∀b o,h.get? b=some o->H b=none->b∈fs->b∉ex-> ∃sl,h'.get? b=some {o with slots:=sl}
 free: ∀b o,h.get? b=some o->H b=none->b∉ex->H' b=none
 there: ∀b o,h.get? b=some o->b∉ex-> ∃o',h'.get? b=some o'
 tups: ∀b xs,H b=some (.tup xs)->H' b=some (.tup xs)
 frzs: ∀b o u,H b=some (.frz o u)->H' b=some (.frz o u)
 tbls: ∀b ps,H b=some (.tbl ps)-> ∃more,H' b=some (.tbl (ps++more))
section
variable{fs fs' ex ex':List Addr}{H H1 H2:Hp}{h h1 h2 h':Heap}{a x e:Addr}{o:HO}
theorem Un.any(u:Un fs ex H H1 h h1){b:Addr}{ob:Obj}(q:h.get? b=some ob)(n:H b=none)(hx:b∉ex): ∃sl,h1.get? b=some {ob with slots:=sl}:=by
 by_cases hb:b∈fs
 ·exact u.slot b ob q n hb hx
 ·exact⟨ob.slots,u.keep b ob q n hb hx⟩
theorem Un.kept(k: ∀b u,h.get? b=some u->h'.get? b=some u):Un fs ex H H h h':=
 ⟨fun b ob q _ _ _=>k b ob q,fun b ob q _ _ _=>⟨ob.slots,k b ob q⟩,fun _ _ _ n _=>n,fun b ob q _=>⟨ob,k b ob q⟩,fun _ _ q=>q,fun _ _ _ q=>q,fun _ ps q=>⟨#[],by rw[q];simp⟩⟩
theorem Un.refl:Un fs ex H H h h:=Un.kept fun _ _ q=>q
theorem Un.laid(k: ∀b u,h.get? b=some u->h'.get? b=some u)(hp:h.objs.size<=a)(hn:H a=none):Un fs ex H (bH H a o) h h' where
 keep:=fun b u q _ _ _=>k b u q
 slot:=fun b u q _ _ _=>⟨u.slots,k b u q⟩
 free:=fun b u q n _=>by rw[b7 (Bd (Ax (Am q) hp))];exact n
 there:=fun b u q _=>⟨u,k b u q⟩
 tups:=fun b xs q=>by rw[b7 (YO q hn)];exact q
 frzs:=fun b u xs q=>by rw[b7 (YO q hn)];exact q
 tbls:=fun b ps q=>⟨#[],by rw[b7 (YO q hn),q];simp⟩
theorem Un.write(mu:Mut (H x))(he:e=x∨H e=some (.own x))(k: ∀b u,b≠e->h.get? b=some u->h'.get? b=some u)(heo: ∃u,h'.get? e=some u):Un fs ex H (bH H x o) h h':=by
 have hx: ∀b,H b=none->b≠x:=fun b n z=>by subst z;rw[n] at mu;exact mu
 have hb: ∀b,H b=none->b≠e:=fun b n z=>by
  subst z;rcases he with r|r
  ·exact hx b n r
  ·rw[n] at r;cases r
 have hm: ∀b u,H b=some u-> ¬Mut (some u)->b≠x:=fun b u q nm z=>by subst z;rw[q] at mu;exact nm mu
 refine⟨fun b u q n _ _=>k b u (hb b n) q,fun b u q n _ _=>⟨u.slots,k b u (hb b n) q⟩,fun b u q n _=>by rw[b7 (hx b n)];exact n,fun b u q _=> ?_,
  fun b xs q=>by rw[b7 (hm b _ q fun z=>z)];exact q,fun b u xs q=>by rw[b7 (hm b _ q fun z=>z)];exact q,fun b ps q=>⟨#[],by rw[b7 (hm b _ q fun z=>z),q];simp⟩⟩
 by_cases hbe:b=e
 ·subst hbe;exact heo
 ·exact⟨u,k b u hbe q⟩
end
noncomputable def trk(h:Heap)(H:Hp):List Addr:=(At h.objs.size).filter fun a=>(H a).isSome
def LZ(h:Heap)(H:Hp):Heap:=W.hideAll h (trk h H)
theorem EK(h:Heap)(H:Hp):(LZ h H).objs.size=h.objs.size:=W.hideAll_size _ _
theorem zA0{h:Heap}{H:Hp}{b:Addr}{o:Obj}(e:h.get? b=some o)(n:H b=none):(LZ h H).get? b=some o:=
 W.hideAll_get _ e fun hm=>by
  have q:(H b).isSome=true:=(Ec.mp hm).2;rw[n] at q;simp at q
theorem zBI{h:Heap}{H:Hp}{b:Addr}{o:Obj}(e:(LZ h H).get? b=some o):h.get? b=some o/\H b=none:=by
 have e':h.get? b=some o:=W.of_hideAll (trk h H) e;refine⟨e',?_⟩;cases q:H b with
 |none=>rfl
 |some x=>
  have hm:b∈trk h H:=Ec.mpr ⟨Ci.mpr (Am e'),by simp[q]⟩;have z:(LZ h H).get? b=none:=W.hideAll_none (trk h H) hm;rw[z] at e;cases e
structure Mod(K:Ap)(mg:Str->Option Value)(base:Heap):Prop where
 kin:K.In base
 glob:base.Ns mainGlobals mg
 blt: ∃mb,base.Ns builtinsNs mb/\ ∀x:Str,x≠ "__name__" ->mb x=Bh x
 nolimit:base.NoLimit
structure Cx where
 prog:Bk
 w:World
 K:Ap
 mg:Str->Option Value
 base:Heap
 A:Cz
 N:List Str
 s₀:Af
 H₀:Hp
 env:Env
 outer:List Env
 stack:List Env
 ex:List Addr
 fn:Str->Bool
 calm:Bool
 pn:List (Addr×Obj)
 xe:Value->Af->Prop
def EJ(l:List Env):List Addr:=l.filterMap (·.frame)
abbrev Cx.fs(X:Cx):List Addr:=EJ X.outer
def Vis(sc:Scope)(x:Str):Prop:=sc.names.lookup x=some .local∨sc.names.lookup x=some .cell∨sc.names.lookup x=some .free
def DU(sc:Scope)(x:Str):Prop:=sc.names.lookup x=some .local∨sc.names.lookup x=some .cell
def Look(env:Env)(h:Heap)(m:Str->Option Value)(x:Str)(u:Value):Prop:=
 (env.kindOf x=some .local/\m x=some u)∨((env.kindOf x=some .cell∨env.kindOf x=some .free)/\ ∃c,env.cells.lookup x=some c/\h.IsCell c (some u))
structure Cx.Ok(X:Cx):Prop where
 mod:Mod X.K X.mg X.base
 kind:X.env.scope.kind= .function
 glob:X.env.globals=mainGlobals
 blt:X.env.builtins=builtinsNs
 above:X.s₀.heap.objs.size<=X.env.locals
 inj: ∀x y c,X.env.cells.lookup x=some c->X.env.cells.lookup y=some c->x=y
 has: ∀x,(X.env.kindOf x=some .cell∨X.env.kindOf x=some .free)-> ∃c,X.env.cells.lookup x=some c
 cab: ∀x c,X.fn x=true->X.env.cells.lookup x=some c->X.s₀.heap.objs.size<=c
 hd:X.calm=true->X.A.handled=none
 frames:X.A.frames=some X.stack
 stk:X.stack=X.outer∨(X.stack=X.env::X.outer/\X.env.frame=some X.env.locals)
 exf: ∀b∈X.ex,b≠X.env.locals/\ ∀x c,X.env.cells.lookup x=some c->c≠b
 bs: ∀b o,X.base.get? b=some o->X.s₀.heap.get? b=some o/\X.H₀ b=none
 bsz:X.base.objs.size<=X.s₀.heap.objs.size
 noex: ∀b o,X.base.get? b=some o->b∉X.ex
 exfs: ∀b∈X.ex,b∉X.fs
 funs:X.s₀.heap.FunFrames X.base X.outer
 frf: ∀b∈X.fs,X.H₀ b=none
structure cT(X:Cx)(aa:List (Addr×Obj))(σ:List (Option V))(H:Hp)(s:Af):Prop where
 ok:X.Ok
 os:s.os=X.s₀.os
 bare:Lw s.gens
 base:Un X.fs X.ex X.H₀ H X.s₀.heap s.heap
 loc: ∃m,s.heap.Ns X.env.locals m/\ ∀(i:Nat) (x:Str) (v:V),X.N[i]? =some x->σ[i]? =some (some v)->Vis X.env.scope x-> ∃u,cB v u/\Look X.env s.heap m x u
 cell: ∀x c,X.env.cells.lookup x=some c-> ∃v,s.heap.IsCell c v
 free:H X.env.locals=none
 freeC: ∀x c,X.env.cells.lookup x=some c->H c=none
 pin: ∀p∈X.pn++aa,s.heap.get? p.1=some p.2/\H p.1=none/\p.1≠X.env.locals/\p.1∉X.fs/\ ∀v,p.2.data≠ .cell v
 hok:T3 X.prog X.w H s.heap
 len:σ.length=X.N.length
section
variable{X:Cx}{aa:List (Addr×Obj)}{σ:List (Option V)}{H H':Hp}{s:Af}{h':Heap}
theorem Cx.Ok.nofr(ok:X.Ok){b:Addr}{o:Obj}(e:X.base.get? b=some o):b∉X.fs:=fun hb=>by
 have:=(ok.funs.mem hb).1;rw[e] at this;cases this
theorem cT.bs(I:cT X aa σ H s): ∀b o,X.base.get? b=some o->s.heap.get? b=some o/\H b=none:=fun b o e=>
 ⟨I.base.keep b o (I.ok.bs b o e).1 (I.ok.bs b o e).2 (I.ok.nofr e) (I.ok.noex b o e),I.base.free b o (I.ok.bs b o e).1 (I.ok.bs b o e).2 (I.ok.noex b o e)⟩
theorem cT.bk(I:cT X aa σ H s): ∀b o,X.base.get? b=some o->s.heap.get? b=some o:=fun b o e=>(I.bs b o e).1
theorem cT.mod(I:cT X aa σ H s):Mod X.K X.mg X.base:=I.ok.mod
theorem cT.kIn(I:cT X aa σ H s):X.K.In s.heap:=I.ok.mod.kin.keeps I.bk
theorem cT.lt(I:cT X aa σ H s):X.env.locals<s.heap.objs.size:=let ⟨_,hn,_⟩:=I.loc;hn.lt
theorem cT.sz(I:cT X aa σ H s):X.s₀.heap.objs.size<=s.heap.objs.size:=Bu I.ok.above (Db I.lt)
theorem cT.nofs(I:cT X aa σ H s){a:Addr}(h:s.heap.objs.size<=a):a∉X.fs:=fun hb=>by
 obtain⟨_,o,ho,_⟩:=I.ok.funs.mem hb;exact absurd (Ax (Am ho) (Bu I.sz h)) (Ca _)
theorem cT.cne(I:cT X aa σ H s): ∀x c,X.env.cells.lookup x=some c->c≠X.env.locals:=fun x c e z=>by
 obtain⟨v,o,ho,hd⟩:=I.cell x c e;obtain⟨m,⟨o',es,ep,ho',hd',_⟩,_⟩:=I.loc;rw[z,ho'] at ho;cases ho;rw[hd'] at hd;cases hd
theorem cT.funs(I:cT X aa σ H s):s.heap.FunFrames X.base X.outer:=by
 have all: ∀(l:List Env),(∀b∈EJ l,b∈X.fs)->X.s₀.heap.FunFrames X.base l->s.heap.FunFrames X.base l:=by
  intro l;induction l with
  |nil=>intro _ _;trivial
  |cons env r ih=>
   intro hs hl;obtain⟨hk,⟨L,o,hf,hn,ho,hd⟩,hr⟩:=hl;have hL:L∈X.fs:=hs L (by unfold EJ;rw[Je,hf];exact Au);obtain⟨sl,e⟩:=I.base.slot L o ho (I.ok.frf L hL) hL fun z=>I.ok.exfs L z hL;exact⟨hk,⟨L,_,hf,hn,e,hd⟩,ih (fun b hb=>hs b (by unfold EJ;rw[Je,hf];exact Ao _ hb)) hr⟩
 exact all X.outer (fun _ hb=>hb) I.ok.funs
theorem cT.stack(I:cT X aa σ H s):s.heap.FunFrames X.base X.stack:=by
 rcases I.ok.stk with e|⟨e,hf⟩
 ·rw[e];exact I.funs
 ·rw[e]
  obtain⟨m,hn,_⟩:=I.loc;refine .cons (by rw[I.ok.kind];decide) hf hn ?_ I.funs;exact Heap.get?_none_of_le (Bu I.ok.bsz I.ok.above)
theorem cT.stkSub(I:cT X aa σ H s): ∀b∈EJ X.stack,b∈X.env.locals::X.fs:=fun b hb=>by
 rcases I.ok.stk with e|⟨e,hf⟩
 ·rw[e] at hb;exact Ao _ hb
 ·rw[e] at hb
  unfold EJ at hb;rw[Je,hf] at hb;exact hb
theorem cT.stkFree(I:cT X aa σ H s): ∀b∈EJ X.stack,H b=none:=fun b hb=>by
 rcases Ak.mp (I.stkSub b hb) with e|hb
 ·rw[e];exact I.free
 ·obtain⟨_,o,ho,_⟩:=I.ok.funs.mem hb
  exact I.base.free b o ho (I.ok.frf b hb) fun z=>I.ok.exfs b z hb
theorem cT.step{g':Array GenState}{t':Nat}{d':Drawn}{ch:List Addr}(I:cT X aa σ H s)
  (hch: ∀b∈ch,(b∈X.ex∨X.s₀.heap.objs.size<=b)/\b≠X.env.locals/\(∀x c,X.env.cells.lookup x=some c->c≠b)/\ ∀p∈X.pn++aa,p.1≠b)
  (keep: ∀b o,b≠X.env.locals->b∉X.fs->b∉ch->s.heap.get? b=some o->H b=none->h'.get? b=some o)
  (slot: ∀b o,b≠X.env.locals->b∈X.fs->b∉ch->s.heap.get? b=some o->H b=none-> ∃sl,h'.get? b=some {o with slots:=sl}) (free: ∀b o,b∉ch->s.heap.get? b=some o->H b=none->H' b=none)
  (there: ∀b o,b∉ch->s.heap.get? b=some o-> ∃o',h'.get? b=some o')
  (tups: ∀b xs,H b=some (.tup xs)->H' b=some (.tup xs)) (frzs: ∀b o u,H b=some (.frz o u)->H' b=some (.frz o u)) (tbls: ∀b ps,H b=some (.tbl ps)-> ∃more,H' b=some (.tbl (ps++more)))
  (ns: ∀m,s.heap.Ns X.env.locals m->h'.Ns X.env.locals m) (hok:T3 X.prog X.w H' h') (hg:Lw g'):
  cT X aa σ H' {s with heap:=h',gens:=g',drawn:=d',toks:=t'}:=by
 have neL: ∀b o,X.s₀.heap.get? b=some o->b≠X.env.locals:=fun b o e=>Bd (Ax (Am e) I.ok.above);have neC: ∀b o,X.s₀.heap.get? b=some o->b∉X.ex->b∉ch:=fun b o e hx hb=>by
  rcases(hch b hb).1 with z|z
  ·exact hx z
  ·exact absurd (Ax (Am e) z) (Ca _)
 have ip: ∀x c,X.env.cells.lookup x=some c-> ∀v,s.heap.IsCell c v->h'.IsCell c v:=fun x c e v q0=>by
  obtain⟨o,ho,hd⟩:=q0;have nch:c∉ch:=fun z=>(hch c z).2.2.1 x c e rfl;by_cases hc:c∈X.fs
  ·obtain⟨sl,q⟩:=slot c o (I.cne x c e) hc nch ho (I.freeC x c e)
   exact⟨_,q,hd⟩
  ·exact⟨o,keep c o (I.cne x c e) hc nch ho (I.freeC x c e),hd⟩
 refine⟨I.ok,I.os,hg,⟨fun b o e n hb hx=> ?_,fun b o e n hb hx=> ?_,fun b o e n hx=> ?_,fun b o e hx=> ?_,fun b xs e=>tups b xs (I.base.tups b xs e),fun b o xs e=>frzs b o xs (I.base.frzs b o xs e),fun b ps e=> ?_⟩,?_,fun x c e=> ?_,?_,fun x c e=> ?_,fun p hp=> ?_,hok,I.len⟩
 ·exact keep b o (neL b o e) hb (neC b o e hx) (I.base.keep b o e n hb hx) (I.base.free b o e n hx)
 ·obtain⟨sl,e1⟩:=I.base.slot b o e n hb hx
  obtain⟨sl',e2⟩:=slot b _ (neL b o e) hb (neC b o e hx) e1 (I.base.free b o e n hx);exact⟨sl',e2⟩
 ·obtain⟨o',e1⟩:=I.base.there b o e hx
  exact free b o' (neC b o e hx) e1 (I.base.free b o e n hx)
 ·obtain⟨o',e1⟩:=I.base.there b o e hx
  exact there b o' (neC b o e hx) e1
 ·obtain⟨m1,e1⟩:=I.base.tbls b ps e
  obtain⟨m2,e2⟩:=tbls b _ e1;exact⟨m1++m2,by rw[e2,Array.append_assoc]⟩
 ·obtain⟨m,hn,hl⟩:=I.loc
  refine⟨m,ns m hn,fun i x v e1 e2 e3=> ?_⟩;obtain⟨u,r,l⟩:=hl i x v e1 e2 e3;refine⟨u,r,?_⟩;rcases l with l|⟨k,c,e,z⟩
  ·exact .inl l
  ·exact .inr ⟨k,c,e,ip x c e _ z⟩
 ·obtain⟨v,z⟩:=I.cell x c e
  exact⟨v,ip x c e v z⟩
 ·obtain⟨m,⟨o,_,_,ho,_⟩,_⟩:=I.loc
  exact free _ o (fun z=>(hch _ z).2.1 rfl) ho I.free
 ·obtain⟨v,o,ho,hd⟩:=I.cell x c e
  exact free c o (fun z=>(hch c z).2.2.1 x c e rfl) ho (I.freeC x c e)
 ·obtain⟨e,n,ne,nf,d⟩:=I.pin p hp
  have nch:p.1∉ch:=fun z=>(hch p.1 z).2.2.2 p hp rfl;exact⟨keep p.1 p.2 ne nf nch e n,free p.1 p.2 nch e n,ne,nf,d⟩
theorem cT.un{t':Nat}(I:cT X aa σ H s)(u:Un X.fs [] H H' s.heap h')(hok:T3 X.prog X.w H' h'):cT X aa σ H' {s with heap:=h',toks:=t'}:=by
 obtain⟨m,⟨o,es,ep,ho,r⟩,_⟩:=id I.loc;obtain⟨sl,hL⟩:=u.any ho I.free (by simp);exact I.step (g':=s.gens) (d':=s.drawn) (ch:=[]) (fun _ z=>nomatch z) (fun b o _ hb _ e n=>u.keep b o e n hb (by simp)) (fun b o _ hb _ e n=>u.slot b o e n hb (by simp)) (fun b o _ e n=>u.free b o e n (by simp)) (fun b o _ e=>u.there b o e (by simp)) u.tups u.frzs u.tbls (fun m' hm=>by
  obtain⟨o',es',ep',ho',r'⟩:=hm;rw[ho] at ho';cases ho';exact⟨_,es',ep',hL,r'⟩) hok I.bare
theorem cT.call{g':Array GenState}{t':Nat}{d':Drawn}{ch:List Addr}(I:cT X aa σ H s)(u:Un (EJ X.stack) ch H H' s.heap h')(hok:T3 X.prog X.w H' h')(hg:Lw g')
  (hch: ∀b∈ch,(b∈X.ex∨X.s₀.heap.objs.size<=b)/\b≠X.env.locals/\(∀x c,X.env.cells.lookup x=some c->c≠b)/\ ∀p∈X.pn++aa,p.1≠b):
  cT X aa σ H' {s with heap:=h',gens:=g',drawn:=d',toks:=t'}:=by
 obtain⟨m,⟨o,es,ep,ho,r⟩,_⟩:=id I.loc;obtain⟨sl,hL⟩:=u.any ho I.free fun z=>(hch _ z).2.1 rfl;exact I.step (ch:=ch) hch (fun b o hL hb hc e n=>u.keep b o e n (fun z=>(Ak.mp (I.stkSub b z)).elim hL hb) hc) (fun b o _ _ hc e n=>u.any e n hc) (fun b o hc e n=>u.free b o e n hc) (fun b o hc e=>u.there b o e hc) u.tups u.frzs u.tbls (fun m' hm=>by
  obtain⟨o',es',ep',ho',r'⟩:=hm;rw[ho] at ho';cases ho';exact⟨_,es',ep',hL,r'⟩) hok hg
theorem cT.turned{t':Nat}{it:Addr}(I:cT X aa σ H s)(k: ∀b o,b≠it->s.heap.get? b=some o->h'.get? b=some o)(hn:H it=none)(hL:it≠X.env.locals)
  (h1:it∈X.ex∨X.s₀.heap.objs.size<=it) (h2: ∀x c,X.env.cells.lookup x=some c->c≠it) (h3: ∀p∈X.pn++aa,p.1≠it):cT X aa σ H {s with heap:=h',toks:=t'}:=by
 have nit: ∀b u,H b=some u->b≠it:=fun b u e z=>by rw[z,hn] at e;cases e
 refine I.step (g':=s.gens) (d':=s.drawn) (ch:=[it]) (fun b hb=> ?_) (fun b o _ _ hc e _=>k b o (fun z=>hc (by simp[z])) e) (fun b o _ _ hc e _=>⟨o.slots,k b o (fun z=>hc (by simp[z])) e⟩) (fun _ _ _ _ n=>n)
  (fun b o hc e=>⟨o,k b o (fun z=>hc (by simp[z])) e⟩) (fun _ _ e=>e) (fun _ _ _ e=>e) (fun b ps e=>⟨#[],by rw[e];simp⟩) (fun m hm=> ?_) (fun b u e=> ?_) I.bare
 ·have e : b = it := by simpa using hb
  subst e;exact⟨h1,hL,h2,h3⟩
 ·obtain⟨o,es,ep,ho,r⟩:=hm
  exact⟨o,es,ep,k _ o (Dk hL) ho,r⟩
 ·refine (I.hok b u e).stay (fun c v hc q => k c v ?_ q) (fun _ q => q) fun _ _ q => q
  rcases hc with z|z
  ·rw[z];exact nit b u e
  ·exact nit c _ z
theorem cT.tok(I:cT X aa σ H s)(t:Nat):cT X aa σ H {s with toks:=t}:=I.un (h':=s.heap) (t':=t) Un.refl I.hok
theorem cT.kept{t':Nat}(I:cT X aa σ H s)(k: ∀b u,s.heap.get? b=some u->h'.get? b=some u):cT X aa σ H {s with heap:=h',toks:=t'}:=I.un (Un.kept k) (I.hok.kept k)
theorem cT.laid{a:Addr}{o:HO}{t':Nat}(I:cT X aa σ H s)(k: ∀b u,s.heap.get? b=some u->h'.get? b=some u)(hp:s.heap.objs.size<=a)(new:aC X.prog X.w (bH H a o) h' a o):
  cT X aa σ (bH H a o) {s with heap:=h',toks:=t'}:=I.un (Un.laid k hp (I.hok.fresh hp)) (I.hok.laid k hp new)
theorem cT.write{x e:Addr}{o:HO}{t':Nat}(I:cT X aa σ H s)(mu:Mut (H x))(he:e=x∨H e=some (.own x))(k: ∀b u,b≠e->s.heap.get? b=some u->h'.get? b=some u)(heo: ∃u,h'.get? e=some u)
  (new:aC X.prog X.w (bH H x o) h' x o):cT X aa σ (bH H x o) {s with heap:=h',toks:=t'}:=I.un (Un.write mu he k heo) (I.hok.write mu he k heo new)
theorem cT.weak{σ':List (Option V)}(I:cT X aa σ H s)(hl:σ'.length=σ.length)(w: ∀(i:Nat) v,σ'[i]? =some (some v)->σ[i]? =some (some v)):cT X aa σ' H s:=
 ⟨I.ok,I.os,I.bare,I.base,let ⟨m,hn,hl'⟩:=I.loc;⟨m,hn,fun i x v e1 e2 e3=>hl' i x v e1 (w i v e2) e3⟩,I.cell,I.free,I.freeC,I.pin,I.hok,hl.trans I.len⟩
theorem cT.pins_of{il:List (Addr×Obj)}(I:cT X aa σ H s)(h: ∀p∈il,s.heap.get? p.1=some p.2/\H p.1=none/\p.1≠X.env.locals/\p.1∉X.fs/\ ∀v,p.2.data≠ .cell v):cT X il σ H s:=
 ⟨I.ok,I.os,I.bare,I.base,I.loc,I.cell,I.free,I.freeC,fun p hp=>(Bo.mp hp).elim (fun z=>I.pin p (Bv _ z)) (h p),I.hok,I.len⟩
theorem KA{N:List Str}(hN:N.Nodup){i j:Nat}{x:Str}(a:N[i]? =some x)(b:N[j]? =some x):i=j:=by
 obtain⟨h1,e1⟩:=Ae.mp a;obtain⟨h2,e2⟩:=Ae.mp b;exact(Ph hN).mp (e1.trans e2.symm)
theorem SA{M:Model}{A:Cz}{E:Value->Af->Prop}{i:Nat}{x:Str}{v:V}{u:Value}{Q:Unit->Af->Prop}(I:cT X aa σ H s)(hN:X.N.Nodup)(hi:X.N[i]? =some x)(hx:DU X.env.scope x)(r:cB v u)
  (h: ∀s',cT X aa (σ.set i (some v)) H s'->(∃a,Fd a s.heap s'.heap/\(a=X.env.locals∨X.env.cells.lookup x=some a))->Q () s') (hf:X.fn x=true∨X.env.scope.names.lookup x=some .local:=by first|exact .inl rfl|exact .inr rfl|assumption):wpAny M A (storeName X.env x u) Q E s:=by
 obtain⟨m,hn,hl⟩:=id I.loc;have o0:(X.env.scope.kind== .class || (X.env.scope.kind== .module && X.env.locals !=X.env.globals))=false:=by rw[I.ok.kind];rfl
 have hiσ:i<σ.length:=by rw[I.len];exact(Ae.mp hi).1
 have cne:=I.cne;have dz: ∀{a:Addr} {h':Heap},(∃o,s.heap.get? a=some o/\H a=none)->Fd a s.heap h'->T3 X.prog X.w H h':=fun{a h'} ha hs b ob e=>by
  obtain⟨_,_,az⟩:=ha;refine(I.hok b ob e).stay (fun c w' hc q=>(hs.2 c ?_).trans q) (fun _ q=>q) fun _ _ q=>q;rintro rfl;rcases hc with rfl|hc
  ·rw[az] at e;cases e
  ·rw[az] at hc;cases hc
 rcases hx with hk|hk
 ·refine wpAny_storeName_local hk hn (fun h' hn' hs => ?_) o0
  obtain⟨oL,_,_,hoL,_⟩:=id hn;refine h _ ⟨I.ok,I.os,I.bare,⟨fun b o e n hb hx=> ?_,fun b o e n hb hx=> ?_,I.base.free,fun b o e hx=> ?_,I.base.tups,I.base.frzs,I.base.tbls⟩,⟨_,hn',fun j y v' e1 e2 e3=> ?_⟩,fun y c e=> ?_,I.free,I.freeC,fun p hp=> ?_,dz ⟨oL,hoL,I.free⟩ hs,by simpa using I.len⟩ ⟨_,hs,.inl rfl⟩
  ·exact(hs.2 b (Bd (Ax (Am e) I.ok.above))).trans (I.base.keep b o e n hb hx)
  ·obtain⟨sl,e1⟩:=I.base.slot b o e n hb hx
   exact⟨sl,(hs.2 b (Bd (Ax (Am e) I.ok.above))).trans e1⟩
  ·obtain⟨o',e1⟩:=I.base.there b o e hx
   exact⟨o',(hs.2 b (Bd (Ax (Am e) I.ok.above))).trans e1⟩
  ·by_cases hj:j=i
   ·subst hj
    rw[hi] at e1;cases e1;rw[De hiσ] at e2;cases e2;exact⟨u,r,.inl ⟨hk,by simp⟩⟩
   ·rw[Bw (Dk hj)] at e2
    obtain⟨u',r',q⟩:=hl j y v' e1 e2 e3;refine⟨u',r',?_⟩;rcases q with⟨k,e⟩|⟨k,c,e,z⟩
    ·refine .inl ⟨k,?_⟩
     have:y≠x:=fun e=>hj (KA hN e1 (e▸hi));simp[this,e]
    ·exact .inr ⟨k,c,e,z.sameBut hs (cne y c e)⟩
  ·obtain⟨w',z⟩:=I.cell y c e
   exact⟨w',z.sameBut hs (cne y c e)⟩
  ·obtain⟨e,n,ne,nf,d⟩:=I.pin p hp
   exact⟨(hs.2 p.1 ne).trans e,n,ne,nf,d⟩
 ·have hfn:X.fn x=true:=by
   rcases hf with z|z
   ·exact z
   ·rw[z] at hk;cases hk
  obtain⟨c,hc⟩:=I.ok.has x (.inl hk);obtain⟨w',z⟩:=I.cell x c hc;refine wpAny_storeName_cell I.ok.kind hk hc z (fun h' hc' hs=> ?_);obtain⟨oc,hoc,nj⟩:=id z;refine h {s with heap:=h'} ⟨I.ok,I.os,I.bare,⟨fun b o e n hb hx=> ?_,fun b o e n hb hx=> ?_,I.base.free,fun b o e hx=> ?_,I.base.tups,I.base.frzs,I.base.tbls⟩,⟨m,hn.sameBut hs (Dk (cne x c hc)),fun j y v' e1 e2 e3=> ?_⟩,fun y c' e=> ?_,I.free,I.freeC,fun p hp=> ?_,dz ⟨oc,hoc,I.freeC x c hc⟩ hs,by simpa using I.len⟩ ⟨c,hs,.inr hc⟩
  ·exact(hs.2 b (Bd (Ax (Am e) (I.ok.cab x c hfn hc)))).trans (I.base.keep b o e n hb hx)
  ·obtain⟨sl,e1⟩:=I.base.slot b o e n hb hx
   exact⟨sl,(hs.2 b (Bd (Ax (Am e) (I.ok.cab x c hfn hc)))).trans e1⟩
  ·obtain⟨o',e1⟩:=I.base.there b o e hx
   exact⟨o',(hs.2 b (Bd (Ax (Am e) (I.ok.cab x c hfn hc)))).trans e1⟩
  ·by_cases hj:j=i
   ·subst hj
    rw[hi] at e1;cases e1;rw[De hiσ] at e2;cases e2;exact⟨u,r,.inr ⟨.inl hk,c,hc,hc'⟩⟩
   ·rw[Bw (Dk hj)] at e2
    obtain⟨u',r',q⟩:=hl j y v' e1 e2 e3;refine⟨u',r',?_⟩;rcases q with q|⟨k,c',e,z'⟩
    ·exact .inl q
    ·refine .inr ⟨k,c',e,z'.sameBut hs ?_⟩
     rintro rfl;exact hj (KA hN e1 (I.ok.inj _ _ _ e hc▸hi))
  ·by_cases hcc:c'=c
   ·subst hcc;exact⟨_,hc'⟩
   ·obtain⟨w2,z2⟩:=I.cell y c' e
    exact⟨w2,z2.sameBut hs hcc⟩
  ·obtain⟨e,n,ne,nf,d⟩:=I.pin p hp
   refine⟨(hs.2 p.1 ?_).trans e,n,ne,nf,d⟩;intro q;rw[q,hoc] at e;have q':oc=p.2:=Ce e;exact d w' (by rw[<- q'];exact nj)
theorem Y0{M:Model}{A:Cz}{E:Value->Af->Prop}{i:Nat}{x:Str}{v:V}{u:Value}{Q:Unit->Af->Prop}(I:cT X aa σ H s)(hN:X.N.Nodup)(hi:X.N[i]? =some x)(hx:DU X.env.scope x)(r:cB v u)
  (h: ∀s',cT X aa (σ.set i (some v)) H s'->Q () s') (hf:X.fn x=true∨X.env.scope.names.lookup x=some .local:=by first|exact .inl rfl|exact .inr rfl|assumption):wpAny M A (storeName X.env x u) Q E s:=
 SA I hN hi hx r (fun s' I' _=>h s' I') hf
theorem cT.call'{s':Af}{ch:List Addr}(I:cT X aa σ H s)(ho:s'.os=s.os)(u:Un (EJ X.stack) ch H H' s.heap s'.heap)(hok:T3 X.prog X.w H' s'.heap)(hg:Lw s'.gens)
  (hch: ∀b∈ch,(b∈X.ex∨X.s₀.heap.objs.size<=b)/\b≠X.env.locals/\(∀x c,X.env.cells.lookup x=some c->c≠b)/\ ∀p∈X.pn++aa,p.1≠b):cT X aa σ H' s':=by
 obtain⟨h',g',d',t',o'⟩:=s';have e:o'=s.os:=ho;subst e;exact I.call (g':=g') (t':=t') (d':=d') u hok hg hch
end
abbrev XK:=Value->Option Addr->Hp->Prop
abbrev St:=List (Option V)
abbrev VK:=V->Hp->Prop
abbrev TE:=St->Hp->VK->Prop
abbrev TT:=St->Hp->(Bool->Hp->Prop)->Prop
abbrev TA:=St->Hp->(List V->Hp->Prop)->Prop
structure HI where
 nx:St->Hp->Prop
 rt:VK
 bk:St->Hp->Prop:=fun _ _=>False
 ct:St->Hp->Prop:=fun _ _=>False
abbrev TS:=HI->St->Hp->Prop
def EP(X:Cx)(aa:List (Addr×Obj))(σ:St)(Q:VK)(u:Value)(s':Af):Prop:= ∃v H',cT X aa σ H' s'/\cB v u/\Q v H'
def TP(X:Cx)(aa:List (Addr×Obj))(σ:St)(Q:Bool->Hp->Prop)(b:Bool)(s':Af):Prop:= ∃H',cT X aa σ H' s'/\Q b H'
def AP(X:Cx)(aa:List (Addr×Obj))(σ:St)(Q:List V->Hp->Prop)(us:List Value)(s':Af):Prop:= ∃vs H',cT X aa σ H' s'/\b6 vs us/\Q vs H'
def SP(X:Cx)(aa:List (Addr×Obj))(D:HI)(f:Flow)(s':Af):Prop:=
 match f with
 | .next=> ∃σ' H',cT X aa σ' H' s'/\D.nx σ' H'
 | .brk=> ∃σ' H',cT X aa σ' H' s'/\D.bk σ' H'
 | .cont=> ∃σ' H',cT X aa σ' H' s'/\D.ct σ' H'
 | .ret u=> ∃v σ' H',cT X aa σ' H' s'/\cB v u/\D.rt v H'
def PE(X:Cx)(e:Expr)(t:TE):Prop:=
 ∀(aa:List (Addr×Obj)) (s:Af) (σ:St) (H:Hp) (Q:VK),cT X aa σ H s->t σ H Q->wpAny (model X.prog X.w) X.A (eval e X.env) (EP X aa σ Q) X.xe s
def PT(X:Cx)(e:Expr)(t:TT):Prop:=
 ∀(aa:List (Addr×Obj)) (s:Af) (σ:St) (H:Hp) (Q:Bool->Hp->Prop),cT X aa σ H s->t σ H Q->wpAny (model X.prog X.w) X.A (isTrue e X.env (eval e X.env)) (TP X aa σ Q) X.xe s
def PW(X:Cx)(e:Expr)(t:TT):Prop:=
 ∀(bn:Sem Value) (aa:List (Addr×Obj)) (s:Af) (σ:St) (H:Hp) (Q:Bool->Hp->Prop),cT X aa σ H s->t σ H Q->wpAny (model X.prog X.w) X.A (isTrue e X.env bn) (TP X aa σ Q) X.xe s
theorem PW.pt{X:Cx}{e:Expr}{t:TT}(h:PW X e t):PT X e t:=h _
def PA(X:Cx)(es:List Expr)(t:TA):Prop:=
 ∀(pos:Pos) (aa:List (Addr×Obj)) (s:Af) (σ:St) (H:Hp) (Q:List V->Hp->Prop),cT X aa σ H s->t σ H Q->wpAny (model X.prog X.w) X.A (spliced (Gc pos (Aj es X.env))) (AP X aa σ Q) X.xe s
def PS(X:Cx)(st:Stmt)(t:TS):Prop:=
 ∀(aa:List (Addr×Obj)) (s:Af) (σ:St) (H:Hp) (D:HI),cT X aa σ H s->t D σ H->wpAny (model X.prog X.w) X.A (exec st X.env) (SP X aa D) X.xe s
def QP(X:Cx)(st:List Stmt)(t:TS):Prop:=
 ∀(aa:List (Addr×Obj)) (s:Af) (σ:St) (H:Hp) (D:HI),cT X aa σ H s->t D σ H->wpAny (model X.prog X.w) X.A (execs st X.env) (SP X aa D) X.xe s
theorem ZX{α:Type}{t:Sem α}{Q Q':α->Af->Prop}{M:Model}{A:Cz}{E:Value->Af->Prop}{s:Af}(h:wpAny M A t Q E s)(hQ: ∀a s,Q a s->Q' a s):wpAny M A t Q' E s:=Aw h hQ fun _ _ x=>x
section
variable{X:Cx}
def ME(i:Nat):TE:=fun σ H Q=> ∃v,σ[i]? =some (some v)/\Q v H
def tC(v:V):TE:=fun _ H Q=>Q v H
theorem IE{i:Nat}{x:Str}{pos:Pos}(hN:X.N[i]? =some x)(hv:Vis X.env.scope x)(hd:(x==("__debug__":Str))=false:=by decide) (hcd:(x==("__classdict__":Str))=false:=by decide):PE X (.Name x pos) (ME i):=by
 intro aa s σ H Q I h;obtain⟨v,e,h⟩:=h;obtain⟨m,hn,hl⟩:=I.loc;obtain⟨u,r,l⟩:=hl i x v hN e hv;have fin:EP X aa σ Q u s:=⟨v,H,I,r,h⟩;rcases l with⟨hk,hm⟩|⟨hk,c,hc,io⟩
 ·exact Rp (wpAny_loadName_local I.ok.kind hk hn hm fin) hd
 ·rcases hk with hk|hk
  ·exact Rp (wpAny_loadName_cell I.ok.kind hk hc io fin) hd
  ·exact Rp (wpAny_loadName_free I.ok.kind hk hc io fin hcd) hd
theorem zEL{i j pos}:PE X (.Constant (.int i) j pos) (tC (.int i)):=fun _ _ _ H _ I h=>wpAny_Constant_int ⟨.int i,H,I.tok _,⟨_,rfl⟩,h⟩
theorem zHO{b j pos}:PE X (.Constant (.bool b) j pos) (tC (.bl b)):=fun _ _ _ H _ I h=>Constant_bool ⟨.bl b,H,I,rfl,h⟩
theorem zEJ{j pos}:PE X (.Constant .none j pos) (tC .non):=fun _ _ _ H _ I h=>Constant_none ⟨.non,H,I,rfl,h⟩
theorem zEG{x j pos}:PE X (.Constant (.str x) j pos) (tC (.str x)):=fun _ _ _ H _ I h=>Calls.Constant_str ⟨.str x,H,I.tok _,⟨_,rfl⟩,h⟩
def Gl(X:Cx)(x:Str):Prop:=X.env.kindOf x=some .globalImplicit
theorem F8{E:Value->Af->Prop}{aa:List (Addr×Obj)}{s:Af}{σ:St}{H:Hp}{x:Str}{u:Value}{pos:Pos}{Q:Value->Af->Prop}(I:cT X aa σ H s)(hg:Gl X x)(hm:X.mg x=some u)(h:Q u s)
  (hd:(x==("__debug__":Str))=false:=by decide):wpAny (model X.prog X.w) X.A (eval (.Name x pos) X.env) Q E s:=
 Jt I.ok.kind hg (Calls.loadGlobal_global (by rw[I.ok.glob];exact I.mod.glob.keeps I.bk) hm h) hd
theorem WM{E:Value->Af->Prop}{aa:List (Addr×Obj)}{s:Af}{σ:St}{H:Hp}{x:Str}{u:Value}{pos:Pos}{Q:Value->Af->Prop}(I:cT X aa σ H s)(hg:Gl X x)(hm:X.mg x=none)(hv:Bh x=some u)(h:Q u s)
  (hn:x≠ "__name__":=by decide) (hd:(x==("__debug__":Str))=false:=by decide):wpAny (model X.prog X.w) X.A (eval (.Name x pos) X.env) Q E s:=by
 obtain⟨mb,h1,h2⟩:=I.mod.blt;exact Jt I.ok.kind hg (Calls.loadGlobal_builtin (by rw[I.ok.glob];exact I.mod.glob.keeps I.bk) hm (by rw[I.ok.blt];exact h1.keeps I.bk) ((h2 x hn).trans hv) h) hd
theorem zBA{x:Str}{v:V}{u:Value}{pos:Pos}(hg:Gl X x)(hm:X.mg x=some u)(r:cB v u)(hd:(x==("__debug__":Str))=false:=by decide):PE X (.Name x pos) (tC v):=
 fun _ _ _ H _ I h=>F8 I hg hm ⟨v,H,I,r,h⟩ hd
theorem zBD{x:Str}{v:V}{u:Value}{pos:Pos}(hg:Gl X x)(hm:X.mg x=none)(hv:Bh x=some u)(r:cB v u)(hn:x≠ "__name__":=by decide) (hd:(x==("__debug__":Str))=false:=by decide):PE X (.Name x pos) (tC v):=
 fun _ _ _ H _ I h=>WM I hg hm hv ⟨v,H,I,r,h⟩ hn hd
variable{a b:Expr}{ta tb:TE}{pos:Pos}
def tB(t:TE):TT:=fun σ H Q=>t σ H fun x H1=> ∃c,x= .bl c/\Q c H1
theorem zE5{e:Expr}{t:TE}(h:PE X e t)(he: ∀bn,isTrue e X.env bn=(do let v<- bn;Oh e.pos;holding [v] (truthy v)):=by intro _;rfl):PT X e (tB t):=by
 intro aa s σ H Q I hw;refine isTrue_plain (ZX (h aa s σ H _ I hw) fun v s1 ⟨x,H1,I1,r1,q1⟩=> ?_) (he _);obtain⟨d,rfl,q⟩:=q1;cases r1;exact Dx ⟨H1,I1,q⟩
variable{tA tB':TT}{rest:List Expr}
def tAnd(t u:TT):TT:=fun σ H Q=>t σ H fun c H1=>if c=true then u σ H1 Q else Q false H1
def tOr(t u:TT):TT:=fun σ H Q=>t σ H fun c H1=>if c=true then Q true H1 else u σ H1 Q
def tNot(t:TT):TT:=fun σ H Q=>t σ H fun c H1=>Q (!c) H1
theorem zAZ(ha:PT X a tA):PW X (.BoolOp .And [a] pos) tA:=by
 intro wh aa s σ H Q I h;refine isTrue_and (ZX (ha aa s σ H Q I h) fun c s1 e=> ?_);cases c with
 |true=>exact isTrue_and_nil e
 |false=>exact e
theorem zE2(ha:PT X a tA):PW X (.BoolOp .Or [a] pos) tA:=by
 intro wh aa s σ H Q I h;refine isTrue_or (ZX (ha aa s σ H Q I h) fun c s1 e=> ?_);cases c with
 |false=>exact isTrue_or_nil e
 |true=>exact e
theorem zE3(ha:PT X a tA)(hb:PW X (.BoolOp .And (b::rest) pos) tB'):PW X (.BoolOp .And (a::b::rest) pos) (tAnd tA tB'):=by
 intro wh aa s σ H Q I h;refine isTrue_and (ZX (ha aa s σ H _ I h) fun c s1 ⟨H1,I1,q1⟩=> ?_);cases c with
 |true=>exact hb wh aa s1 σ H1 Q I1 q1
 |false=>exact⟨H1,I1,q1⟩
theorem zHI(ha:PT X a tA)(hb:PW X (.BoolOp .Or (b::rest) pos) tB'):PW X (.BoolOp .Or (a::b::rest) pos) (tOr tA tB'):=by
 intro wh aa s σ H Q I h;refine isTrue_or (ZX (ha aa s σ H _ I h) fun c s1 ⟨H1,I1,q1⟩=> ?_);cases c with
 |true=>exact⟨H1,I1,q1⟩
 |false=>exact hb wh aa s1 σ H1 Q I1 q1
theorem zE6(ha:PT X a tA):PT X (.UnaryOp .Not a pos) (tNot tA):=by
 intro aa s σ H Q I h;exact isTrue_not (ha aa s σ H (fun c H1=>Q (!c) H1) I h)
def zGS(ta tb:TE):TE:=fun σ H Q=>ta σ H fun x H1=> ∃c,x= .bl c/\if c=true then tb σ H1 Q else Q (.bl false) H1
def tOrV(ta tb:TE):TE:=fun σ H Q=>ta σ H fun x H1=> ∃c,x= .bl c/\if c=true then Q (.bl true) H1 else tb σ H1 Q
def zGO(ta:TE):TE:=fun σ H Q=>ta σ H fun x H1=> ∃c,x= .bl c/\Q (.bl (!c)) H1
theorem zEH{op}{t:TE}(h:PE X a t):PE X (.BoolOp op [a] pos) t:=fun aa s σ H Q I hw=>BoolOp_one (h aa s σ H Q I hw)
theorem zEM(ha:PE X a ta)(hb:PE X (.BoolOp .And (b::rest) pos) tb):PE X (.BoolOp .And (a::b::rest) pos) (zGS ta tb):=by
 intro aa s σ H Q I h;refine BoolOp_and (ZX (ha aa s σ H _ I h) fun v s1 ⟨x,H1,I1,r1,q1⟩=> ?_);obtain⟨c,rfl,q1⟩:=q1;cases r1;refine Dx ?_;cases c with
 |true=>exact hb aa s1 σ H1 Q I1 q1
 |false=>exact⟨.bl false,H1,I1,rfl,q1⟩
theorem zHL(ha:PE X a ta)(hb:PE X (.BoolOp .Or (b::rest) pos) tb):PE X (.BoolOp .Or (a::b::rest) pos) (tOrV ta tb):=by
 intro aa s σ H Q I h;refine BoolOp_or (ZX (ha aa s σ H _ I h) fun v s1 ⟨x,H1,I1,r1,q1⟩=> ?_);obtain⟨c,rfl,q1⟩:=q1;cases r1;refine Dx ?_;cases c with
 |false=>exact hb aa s1 σ H1 Q I1 q1
 |true=>exact⟨.bl true,H1,I1,rfl,q1⟩
theorem zEI(ha:PE X a ta):PE X (.UnaryOp .Not a pos) (zGO ta):=by
 intro aa s σ H Q I h;refine UnaryOp_ (ZX (ha aa s σ H _ I h) fun v s1 ⟨x,H1,I1,r1,q1⟩=> ?_);obtain⟨c,rfl,q1⟩:=q1;cases r1;exact not_of (Dx ⟨.bl (!c),H1,I1,rfl,q1⟩)
def tIf(t:TT)(ta tb:TE):TE:=fun σ H Q=>t σ H fun c H1=>if c=true then ta σ H1 Q else tb σ H1 Q
theorem BF{c:Expr}(hc:PT X c tA)(ha:PE X a ta)(hb:PE X b tb):PE X (.IfExp c a b pos) (tIf tA ta tb):=by
 intro aa s σ H Q I h;refine wpAny_IfExp (ZX (hc aa s σ H _ I h) fun d s1 ⟨H1,I1,q1⟩=> ?_);cases d with
 |true=>exact ha aa s1 σ H1 Q I1 q1
 |false=>exact hb aa s1 σ H1 Q I1 q1
end
def X9(K:Ap)(H:Hp)(a:Addr)(xs:List V):Prop:=
 Rd H a (.lst xs)∨
  ∃(o:Obj) (its:Array Value) (n:Nat),K.lookup a=some o/\o.cls= .type "list" /\o.dict=none/\o.data= .seq its n/\its.size<=sizeLine/\b6 xs its.toList
def W9(K:Ap)(H:Hp)(a:Addr)(xs:List V):Prop:=
 Rd H a (.tup xs)∨
  ∃(o:Obj) (its:Array Value) (n:Nat),K.lookup a=some o/\o.cls= .type "tuple" /\o.data= .seq its n/\its.size<=sizeLine/\b6 xs its.toList
noncomputable def absV:Value->Option V
 | .none=>some .non
 | .bool b=>some (.bl b)
 | .int i _=>some (.int i)
 | .str x _=>some (.str x)
 | .bytes b _=>some (.byt b)
 | .float b _=>some (.flt b)
 | .ref a=>some (.ref a)
 | .type n=>some (.ty n)
 |_=>none
theorem cB.abs{x:V}{u:Value}(r:cB x u):absV u=some x:=by
 cases x with
 |non=>cases r;rfl
 |bl _=>cases r;rfl
 |int _=>obtain⟨t,rfl⟩:=r;rfl
 |str _=>obtain⟨t,rfl⟩:=r;rfl
 |byt _=>obtain⟨t,rfl⟩:=r;rfl
 |flt _=>obtain⟨t,rfl⟩:=r;rfl
 |ref _=>cases r;rfl
 |ty _=>cases r;rfl
theorem cB.inj{x y:V}{u:Value}(r:cB x u)(q:cB y u):x=y:=Ce (r.abs.symm.trans q.abs)
theorem b6.inj: ∀{xs ys:List V} {us:List Value},b6 xs us->b6 ys us->xs=ys
 |_,_,_,.nil,.nil=>rfl
 |_,_,_,.cons r t,.cons r' t'=>by rw[r.inj r',b6.inj t t']
section
variable{X:Cx}{aa:List (Addr×Obj)}{σ:St}{H:Hp}{s:Af}{a:Addr}{xs ys:List V}
theorem X9.of{K:Ap}(h:H a=some (.lst xs)):X9 K H a xs:= .inl (.inl h)
theorem W9.of{K:Ap}(h:H a=some (.tup xs)):W9 K H a xs:= .inl (.inl h)
theorem cT.list(I:cT X aa σ H s)(h:X9 X.K H a xs): ∃its:List Value,b6 xs its/\PlainL s.heap a its.toArray/\xs.length<=sizeLine:=by
 rcases h with h|⟨o,its,n,hk,hc,hd,hs,hz,r⟩
 ·obtain⟨z,its,n,r,e⟩:=h.ok I.hok
  exact⟨its,r,⟨_,n,e,rfl,rfl,rfl⟩,z⟩
 ·refine ⟨its.toList,r,⟨o,n,I.kIn a o hk,hc,hd,by simpa using hs⟩,?_⟩
  have e:=r.length;simp only[Ei] at e;lia
theorem cT.tuple(I:cT X aa σ H s)(h:W9 X.K H a xs): ∃its:List Value,b6 xs its/\IsTup s.heap a its.toArray/\xs.length<=sizeLine:=by
 rcases h with h|⟨o,its,n,hk,hc,hs,hz,r⟩
 ·obtain⟨z,its,r,p⟩:=h.ok I.hok
  exact⟨its,r,p,z⟩
 ·refine ⟨its.toList,r,⟨o,I.kIn a o hk,hc,n,by simpa using hs⟩,?_⟩
  have e:=r.length;simp only[Ei] at e;lia
theorem cT.list_inj(I:cT X aa σ H s)(h:X9 X.K H a xs)(h':X9 X.K H a ys):xs=ys:=by
 obtain⟨its,r,⟨o,n,e,_,_,d⟩,_⟩:=I.list h;obtain⟨its',r',⟨o',n',e',_,_,d'⟩,_⟩:=I.list h';rw[e] at e';cases e';rw[d] at d';injection d' with d1 _;have:its=its':=by simpa using congrArg Se d1
 subst this;exact r.inj r'
theorem cT.tuple_inj(I:cT X aa σ H s)(h:W9 X.K H a xs)(h':W9 X.K H a ys):xs=ys:=by
 obtain⟨its,r,⟨o,e,_,n,d⟩,_⟩:=I.tuple h;obtain⟨its',r',⟨o',e',_,n',d'⟩,_⟩:=I.tuple h';rw[e] at e';cases e';rw[d] at d';injection d' with d1 _;have:its=its':=by simpa using congrArg Se d1
 subst this;exact r.inj r'
end
abbrev Cx.wish(X:Cx)(E:Value->Af->Prop):Cx:={X with xe:=E}
abbrev Cx.nox(X:Cx):Cx:=X.wish fun _ _=>False
theorem Cx.Ok.wish{X:Cx}(ok:X.Ok)(E:Value->Af->Prop):(X.wish E).Ok:=
 ⟨ok.mod,ok.kind,ok.glob,ok.blt,ok.above,ok.inj,ok.has,ok.cab,ok.hd,ok.frames,ok.stk,ok.exf,ok.bs,ok.bsz,ok.noex,ok.exfs,ok.funs,ok.frf⟩
theorem Cx.Ok.unwish{X:Cx}{E:Value->Af->Prop}(ok:(X.wish E).Ok):X.Ok:=
 ⟨ok.mod,ok.kind,ok.glob,ok.blt,ok.above,ok.inj,ok.has,ok.cab,ok.hd,ok.frames,ok.stk,ok.exf,ok.bs,ok.bsz,ok.noex,ok.exfs,ok.funs,ok.frf⟩
section
variable{X:Cx}{aa:List (Addr×Obj)}{σ:St}{H:Hp}{s:Af}{E:Value->Af->Prop}
theorem cT.wish(I:cT X aa σ H s)(E:Value->Af->Prop):cT (X.wish E) aa σ H s:=⟨I.ok.wish E,I.os,I.bare,I.base,I.loc,I.cell,I.free,I.freeC,I.pin,I.hok,I.len⟩
theorem cT.unwish(I:cT (X.wish E) aa σ H s):cT X aa σ H s:=⟨I.ok.unwish,I.os,I.bare,I.base,I.loc,I.cell,I.free,I.freeC,I.pin,I.hok,I.len⟩
theorem SP.unwish{D:HI}{f:Flow}{s':Af}(h:SP (X.wish E) aa D f s'):SP X aa D f s':=by
 cases f with
 |next=>obtain⟨σ',H',I,q⟩:=h;exact⟨σ',H',I.unwish,q⟩
 |brk=>obtain⟨σ',H',I,q⟩:=h;exact⟨σ',H',I.unwish,q⟩
 |cont=>obtain⟨σ',H',I,q⟩:=h;exact⟨σ',H',I.unwish,q⟩
 |ret u=>obtain⟨v,σ',H',I,r,q⟩:=h;exact⟨v,σ',H',I.unwish,r,q⟩
theorem QP.nox{st:List Stmt}{t:TS}(h:QP X.nox st t):QP X st t:=fun aa s σ H D I hw=>
 Aw (h aa s σ H D (I.wish _) hw) (fun _ _ q=>q.unwish) fun _ _ z=>Gw z
end
section
variable{X:Cx}{st:Stmt}{rest:List Stmt}{t u:TS}{e:Expr}{te:TE}{pos:Pos}
def zGP:TS:=fun D σ H=>D.nx σ H
def tSeq(t u:TS):TS:=fun D σ H=>t {D with nx:=u D} σ H
theorem GY:QP X [] zGP:=fun _ _ σ H _ I h=>Lx ⟨σ,H,I,h⟩
theorem KJ(h1:PS X st t)(h2:QP X rest u):QP X (st::rest) (tSeq t u):=by
 intro aa s σ H D I h;refine wpAny_execs_cons (ZX (h1 aa s σ H {D with nx:=u D} I h) fun f s1 q=> ?_);cases f with
 |next=>
  obtain⟨σ',H',I',q⟩:=q;exact h2 aa s1 σ' H' D I' q
 |ret v=>exact q
 |brk=>exact q
 |cont=>exact q
theorem cT.quiet{aa:List (Addr×Obj)}{σ:St}{H:Hp}{s:Af}(I:cT X aa σ H s):interactive X.env=false:=by simp[interactive,I.ok.kind]
def zGR(te:TE):TS:=fun D σ H=>te σ H fun _ H1=>D.nx σ H1
theorem GX(he:PE X e te)(hs:Gp e none pos.line X.env=pure false:=by rfl):PS X (.Expr e pos) (zGR te):=by
 intro aa s σ H D I h;exact wpAny_Expr_any (ZX (he aa s σ H _ I h) fun v s1 ⟨x,H1,I1,r1,q1⟩=>⟨σ,H1,I1,q1⟩) I.quiet hs
def tRet(te:TE):TS:=fun D σ H=>te σ H D.rt
theorem BK(he:PE X e te):PS X (.Return (some e) pos) (tRet te):=by
 intro aa s σ H D I h;exact wpAny_Return_some (ZX (he aa s σ H _ I h) fun v s1 ⟨x,H1,I1,r1,q1⟩=>⟨x,σ,H1,I1,r1,q1⟩)
def tIfS(c:TT)(t u:TS):TS:=fun D σ H=>c σ H fun b H1=>if b=true then t D σ H1 else u D σ H1
theorem zHJ{c:Expr}{a b:List Stmt}{tc:TT}(hc:PT X c tc)(ha:QP X a t)(hb:QP X b u):PS X (.If c a b pos) (tIfS tc t u):=by
 intro aa s σ H D I h;refine wpAny_If (ZX (hc aa s σ H _ I h) fun d s1 ⟨H1,I1,q1⟩=> ?_);cases d with
 |true=>exact ha aa s1 σ H1 D I1 q1
 |false=>exact hb aa s1 σ H1 D I1 q1
end
abbrev TG:=V->St->Hp->(St->Hp->Prop)->Prop
abbrev D1:=List V->St->Hp->(St->Hp->Prop)->Prop
def PG(X:Cx)(br:Expr)(t:TG):Prop:=
 ∀(aa:List (Addr×Obj)) (s:Af) (σ:St) (H:Hp) (v:V) (u:Value) (Q:St->Hp->Prop),cT X aa σ H s->cB v u->t v σ H Q→
  wpAny (model X.prog X.w) X.A (Fn br X.env u) (fun _ s'=> ∃σ' H',cT X aa σ' H' s'/\Q σ' H') X.xe s
def FQ(X:Cx)(ts:List Expr)(t:D1):Prop:=
 ∀(aa:List (Addr×Obj)) (s:Af) (σ:St) (H:Hp) (vs:List V) (us:List Value) (Q:St->Hp->Prop),cT X aa σ H s->b6 vs us->t vs σ H Q→
  wpAny (model X.prog X.w) X.A (assignInOrder ((assignEach ts X.env).map (·.2)) us) (fun _ s'=> ∃σ' H',cT X aa σ' H' s'/\Q σ' H') X.xe s
section
variable{X:Cx}{pos:Pos}
def JV(i:Nat):TG:=fun v σ H Q=>Q (σ.set i (some v)) H
theorem QO{i:Nat}{x:Str}(hN:X.N.Nodup)(hi:X.N[i]? =some x)(hx:DU X.env.scope x)(hf:X.fn x=true∨X.env.scope.names.lookup x=some .local:=by first|exact .inl rfl|exact .inr rfl|assumption):PG X (.Name x pos) (JV i):=by
 intro aa s σ H v u Q I r h;exact Gx (Y0 I hN hi hx r (fun s' I'=>⟨_,H,I',h⟩) hf)
def gNil:D1:=fun vs σ H Q=>vs=[]/\Q σ H
def zIM(t:TG)(u:D1):D1:=fun vs σ H Q=> ∃v r,vs=v::r/\t v σ H fun σ' H'=>u r σ' H' Q
theorem GQ:FQ X [] gNil:=by
 intro aa s σ H vs us Q I r h;obtain⟨e,h⟩:=h;subst e;cases r;exact Ib ⟨σ,H,I,h⟩
theorem TJ{e:Expr}{es:List Expr}{t:TG}{u:D1}(h1:PG X e t)(h2:FQ X es u)
  (hs:(assignEach (e::es) X.env).map (·.2)=Fn e X.env::(assignEach es X.env).map (·.2):=by rfl):FQ X (e::es) (zIM t u):=by
 intro aa s σ H vs us Q I r h;obtain⟨v,vr,e1,h⟩:=h;subst e1;cases r with
 |cons r rr=>
  rw[hs];refine Ed (ZX (h1 aa s σ H _ _ _ I r h) fun _ s1 ⟨σ1,H1,I1,q1⟩=> ?_);exact h2 aa s1 σ1 H1 _ _ Q I1 rr q1
def gTup(K:Ap)(n:Nat)(t:D1):TG:=fun v σ H Q=> ∃a xs,v= .ref a/\W9 K H a xs/\xs.length=n/\t xs σ H Q
theorem zEE{es:List Expr}{k:Nat}{t:D1}{n:Nat}(hc:X.calm=true)(h:FQ X es t)
  (hn:(assignEach es X.env).length=n:=by rfl) (hst:(assignEach es X.env).findIdx? (·.1)=none:=by rfl):PG X (.Tuple es k pos) (gTup X.K n t):=by
 intro aa s σ H v u Q I r hw;obtain⟨a,xs,e1,hq,hl,hw⟩:=hw;subst e1;cases r;obtain⟨its,rv,ht,hz⟩:=I.tuple hq;refine assign_Tuple_tuple (I.ok.hd hc) ht (by simp[hn,<- hl,rv.length]) hst fun h' hx=> ?_;have I1:cT X aa σ H {s with heap:=h'}:=I.kept (t':=s.toks) fun b o e=>hx b o (Bd (Am e)) e;exact h aa _ σ H xs _ Q I1 (by simpa using rv) hw
def CN(te:TE)(g:TG):TS:=fun D σ H=>te σ H fun x H1=>g x σ H1 D.nx
theorem IH{tg e:Expr}{te:TE}{g:TG}(he:PE X e te)(hg:PG X tg g)(hs:Fx [tg] e pos.line X.env=pure false:=by rfl)(hw:Fy [tg] e X.env=pure none:=by rfl)
  (h1:(assignEach [tg] X.env).map (·.2)=[Fn tg X.env]:=by rfl):PS X (.Assign [tg] e pos) (CN te g):=by
 intro aa s σ H D I h;refine wpAny_Assign_stores (ZX (he aa s σ H _ I h) fun v s1 ⟨x,H1,I1,r1,q1⟩=> ?_) hs hw;rw[h1];exact ZX (hg aa s1 σ H1 x v _ I1 r1 q1) fun _ s2 q=>q
theorem zE7{i:Nat}{x:Str}{e:Expr}{te:TE}{cb:Pos}(hN:X.N.Nodup)(hi:X.N[i]? =some x)(hx:DU X.env.scope x)(he:PE X e te)(hs:Gp e (some (.Name x cb)) pos.line X.env=pure false:=by rfl)(hf:X.fn x=true∨X.env.scope.names.lookup x=some .local:=by first|exact .inl rfl|exact .inr rfl|assumption):
  PS X (.Assign [.Name x cb] e pos) (CN te (JV i)):=by
 intro aa s σ H D I h;refine wpAny_Assign_Name (ZX (he aa s σ H _ I h) fun v s1 ⟨y,H1,I1,r1,q1⟩=> ?_) hs;exact Y0 I1 hN hi hx r1 (fun s2 I2=>⟨_,H1,I2,q1⟩) hf
def tPar(i j:Nat)(ta:TA):TS:=fun D σ H=>ta σ H fun vs H1=> ∃v w,vs=[v,w]/\D.nx ((σ.set i (some v)).set j (some w)) H1
theorem zE8{i j:Nat}{x y:Str}{a b:Expr}{ta:TA}{px py pt:Pos}{kt k2 pt2}(hc:X.calm=true)(hN:X.N.Nodup)(hi:X.N[i]? =some x)(hj:X.N[j]? =some y)(hij:i≠j)
  (hx:X.env.scope.names.lookup x=some .local) (hy:X.env.scope.names.lookup y=some .local) (ha:PA X [a,b] ta)
  (hw:Fy [.Tuple [.Name x px,.Name y py] kt pt] (.Tuple [a,b] k2 pt2) X.env=pure (some [x,y]))
  (hs:Fx [.Tuple [.Name x px,.Name y py] kt pt] (.Tuple [a,b] k2 pt2) pos.line X.env=pure false:=by rfl):
  PS X (.Assign [.Tuple [.Name x px,.Name y py] kt pt] (.Tuple [a,b] k2 pt2) pos) (tPar i j ta):=by
 intro aa s σ H D I h;rw[exec_Assign_arm];refine Aa (Ee ?_);rw[hs];refine Aa (Ah ?_);rw[if_neg (by decide)];refine Aa (Tuple_ (ZX (ha _ aa s σ H _ I h) fun us s1 ⟨vs,H1,I1,r1,q1⟩=> ?_));obtain⟨v,w,e1,q1⟩:=q1;subst e1;obtain⟨u1,u2,rfl,rv,rw'⟩: ∃u1 u2,us=[u1,u2]/\cB v u1/\cB w u2:=by
  cases r1 with
  |cons p q=>
   cases q with
   |cons p' q'=>
    cases q';exact⟨_,_,rfl,p,p'⟩
 refine Co ?_ (by show 2<=sizeLine;decide);have I2:cT X aa σ H1 {s1 with heap:=s1.heap.push {cls:= .type "tuple",data:= .seq [u1,u2].toArray}}:=I1.kept (t':=s1.toks) fun b o e=>Ac _ e;rw[hw];refine Aa (Ah ?_);show wpAny (model X.prog X.w) X.A (do rule "assign.swapped-stores";let items<- Jf (.ref s1.heap.objs.size) 2 none;assignInOrder [fun v=>Iu X.env y v,fun v=>Iu X.env x v] items.reverse;pure Flow.next) _ _ _;refine Aa (Ge (Aa (Oi (items:= #[u1,u2]) (I.ok.hd hc) (Kh s1.heap _) fun h' hx'=> ?_)));have I3:=I2.kept (h':=h') (t':=s1.toks) fun b o e=>hx' b o (Bd (Am e)) e;show wpAny _ _ (assignInOrder [fun v=>Iu X.env y v,fun v=>Iu X.env x v] [u2,u1]>>=fun _=>pure Flow.next) _ _ _;refine Aa (Ed (Ij (Y0 I3 hN hj (.inl hy) rw' (fun s2 I4=> ?_) (.inr hy))));refine Ed (Ij (Y0 I4 hN hi (.inl hx) rv (fun s3 I5=>Ib (Ah ?_)) (.inr hx)));rw[El _ _ (Dk hij)] at I5;exact⟨_,H1,I5,q1⟩
end
section
variable{X:Cx}{pos:Pos}
def zDF(c:TT)(tb:TS):TS:=fun D σ H=> ∃W:Nat->St->Hp->Prop,(∃m,W m σ H)/\ ∀m σ H,W m σ H→
 c σ H fun b H1=>if b=true then∃N:St->Hp->Prop,(∀σ' H',N σ' H'-> ∃m',m'<m/\W m' σ' H')/\tb {D with nx:=N,ct:=N,bk:=D.nx} σ H1 else D.nx σ H1
theorem BM{c:Expr}{body:List Stmt}{tc:TT}{tb:TS}(hp:Qf (model X.prog X.w) X.A X.env X.xe)(hc:PT X c tc)(hb:QP X body tb):PS X (.While c body [] pos) (zDF tc tb):=by
 intro aa s σ H D I h;obtain⟨W,⟨m0,w0⟩,turn⟩:=h;refine wpAny_While (codeAny_whileLoop (fun n s'=> ∃σ' H',cT X aa σ' H' s'/\W n σ' H') ?_ m0 ⟨σ,H,I,w0⟩);rintro n s1 ⟨σ1,H1,I1,w1⟩;refine Fo hp (ZX (hc aa s1 σ1 H1 _ I1 (turn n σ1 H1 w1)) fun b s2 ⟨H2,I2,q2⟩=> ?_);cases b with
 |true=>
  obtain⟨N,hN,q2⟩:=q2;rw[if_pos rfl];refine Fo hp (ZX (hb aa s2 σ1 H2 _ I2 q2) fun f s3 q3=> ?_);cases f with
  |next=>
   obtain⟨σ3,H3,I3,n3⟩:=q3;obtain⟨m',hm,w3⟩:=hN σ3 H3 n3;exact⟨m',hm,σ3,H3,I3,w3⟩
  |cont=>
   obtain⟨σ3,H3,I3,n3⟩:=q3;obtain⟨m',hm,w3⟩:=hN σ3 H3 n3;exact⟨m',hm,σ3,H3,I3,w3⟩
  |brk=>exact q3
  |ret v=>exact q3
 |false=>
  rw[if_neg Df];exact Lx ⟨σ1,H2,I2,q2⟩
end
structure It where
 go:Nat->Hp->Prop
 yld:Nat->Hp->V->Hp->Prop
 stop:Nat->Hp->Prop
def RE(X:Cx)(aa:List (Addr×Obj))(H:Hp)(b:Addr):Prop:=
 H b=none/\b≠X.env.locals/\b∉X.fs/\(b∈X.ex∨X.s₀.heap.objs.size<=b)/\(∀x c,X.env.cells.lookup x=some c->c≠b)/\ ∀p∈X.pn++aa,p.1≠b
theorem cT.fpOk{X:Cx}{aa:List (Addr×Obj)}{σ:St}{H H':Hp}{s:Af}{b:Addr}(I:cT X aa σ H s)(hb:s.heap.objs.size<=b)(hn:H' b=none):RE X aa H' b:=by
 refine⟨hn,Gq (Ax I.lt hb),I.nofs hb,.inr (Bu I.sz hb),fun x c e z=> ?_,fun p hp z=> ?_⟩
 ·obtain⟨v,q⟩:=I.cell x c e
  exact absurd (Ax q.lt (by rw[z];exact hb)) (Ca _)
 ·exact absurd (Ax (Am (I.pin p hp).1) (by rw[z];exact hb)) (Ca _)
structure LG(P:Bk)(w:World)(K:Ap)(tg:Expr)(J:It)(fp:List Addr)(it:Addr)(tn:Nat->Heap->Prop):Prop where
 mem:it∈fp
 obj: ∀i h,tn i h-> ∀b∈fp,∃o,h.get? b=some o/\ ∀v,o.data≠ .cell v
 keep: ∀i h h',tn i h->(∀b∈fp,∀o,h.get? b=some o->h'.get? b=some o)->tn i h'
 item: ∀(X:Cx),X.prog=P->X.w=w->X.K=K->X.calm=true-> ∀(i:Nat) (aa:List (Addr×Obj)) (s:Af) (σ:St) (H:Hp) (E:Value->Af->Prop),cT X aa σ H s->(∀b∈fp,RE X aa H b)->tn i s.heap->J.go i H→
  wpAny (model P w) X.A (pyNext (.ref it)) (fun r s1=> ∃u,r=some u∧
   wpAny (model P w) X.A (Eu tg (.ref it) u) (fun _ s2=> ∃x H',cT X aa σ H' s2/\cB x u/\J.yld i H x H'/\tn (i+1) s2.heap/\ ∀b∈fp,H' b=none) E s1) E s
 done: ∀(X:Cx),X.prog=P->X.w=w->X.K=K->X.calm=true-> ∀(i:Nat) (aa:List (Addr×Obj)) (s:Af) (σ:St) (H:Hp) (E:Value->Af->Prop),cT X aa σ H s->(∀b∈fp,RE X aa H b)->tn i s.heap->J.stop i H→
  wpAny (model P w) X.A (pyNext (.ref it)) (fun r s1=>r=none/\cT X aa σ H s1) E s
 self: ∀(A:Cz) (i:Nat) (s:Af) (Q:Value->Af->Prop) (E:Value->Af->Prop),tn i s.heap->Q (.ref it) s->wpAny (model P w) A (Qg (.ref it)) Q E s
abbrev TI:=St->Hp->(It->Hp->Prop)->Prop
def PIE(X:Cx)(aa:List (Addr×Obj))(σ:St)(tg:Expr)(R:It->Hp->Prop)(itv:Value)(s2:Af):Prop:=
 ∃(it:Addr) (fp:List Addr) (tn:Nat->Heap->Prop) (J:It) (H':Hp),itv= .ref it/\cT X aa σ H' s2/\LG X.prog X.w X.K tg J fp it tn/\tn 0 s2.heap/\(∀b∈fp,RE X aa H' b)/\R J H'
def PI(X:Cx)(tg iter:Expr)(wi:TI):Prop:=
 ∀(aa:List (Addr×Obj)) (s:Af) (σ:St) (H:Hp) (R:It->Hp->Prop),cT X aa σ H s->wi σ H R→
  wpAny (model X.prog X.w) X.A (eval iter X.env) (fun v s1=>wpAny (model X.prog X.w) X.A (Qg v) (PIE X aa σ tg R) X.xe s1) X.xe s
theorem F3{M:Model}{A:Cz}{E:Value->Af->Prop}{s:Af}{tg:Expr}{it:Addr}{u:Value}{o:Obj}{n:String}{vs:Array Value}{Q:Unit->Af->Prop}(ho:s.heap.get? it=some o)(hc:o.cls= .type n)(hd:o.data= .fields vs)
    (hn:["enumerate","zip","dict_itemiterator","dict_reverseitemiterator","odict_iterator","itertools.zip_longest","itertools.pairwise"].contains n=false) (hQ:Q () s):wpAny M A (Eu tg (.ref it) u) Q E s:=by
  unfold Eu;cases tg<;>first
    |exact Ah hQ
    |(cases u<;>first
        |exact Ah hQ
        | (refine Aa (wpAny_load ho ?_)
           rw[hc,hd];show wpAny M A (if(["enumerate","zip","dict_itemiterator","dict_reverseitemiterator","odict_iterator","itertools.zip_longest","itertools.pairwise"].contains n && vs[0]? ==some (rawInt _))=true then _ else _) Q E s;rw[if_neg (by intro h;rw[hn,Bool.false_and] at h;cases h)];exact Ah hQ))
def Itl(K:Ap)(a:Addr):It:=
 ⟨fun i H=> ∃xs x,X9 K H a xs/\xs[i]? =some x,fun i H x H'=>H'=H/\ ∀xs,X9 K H a xs->xs[i]? =some x,fun i H=> ∃xs,X9 K H a xs/\xs.length<=i⟩
def Itt(K:Ap)(a:Addr):It:=
 ⟨fun i H=> ∃xs x,W9 K H a xs/\xs[i]? =some x,fun i H x H'=>H'=H/\ ∀xs,W9 K H a xs->xs[i]? =some x,fun i H=> ∃xs,W9 K H a xs/\xs.length<=i⟩
def Itr(lo:Int)(n:Nat):It:=⟨fun i _=>i<n,fun i H x H'=>H'=H/\x= .int (lo+i),fun i _=>n<=i⟩
theorem FH{P:Bk}{w:World}{K:Ap}{tg:Expr}(a it:Addr):LG P w K tg (Itl K a) [it] it (fun i h=>h.IsListIter it a i) where
 mem:=by simp
 obj:=fun i h st b hb=>by
  have e:b=it:=by simpa using hb
  subst e;obtain⟨o,e,c,d⟩:=st;exact⟨o,e,fun v z=>by rw[d] at z;cases z⟩
 keep:=fun i h h' st k=>st.at fun o e=>k it (by simp) o e
 item:=by
  intro X hP hw hK hc i aa s σ H E I hf st hg;subst hP hw hK;obtain⟨xs,x,hq,hx⟩:=hg;obtain⟨its,rv,p,hz⟩:=I.list hq;obtain⟨u,hu,ru⟩:=rv.get hx;obtain⟨f0,f1,f2,f3,f4,f5⟩:=hf it (by simp);refine Lo st p.isList (x:=u) (by simpa using hu) fun h' st' sb=> ?_;have I1:cT X aa σ H {s with heap:=h'}:=I.turned (t':=s.toks) (fun b o hb e=>(sb.2 b hb).trans e) f0 f1 f3 f4 f5;obtain⟨o,e,c,d⟩:=id st';exact⟨u,rfl,F3 (s:={s with heap:=h'}) e c d (by decide) ⟨x,H,I1,ru,⟨rfl,fun ys hy=>by rw[I.list_inj hy hq];exact hx⟩,st',fun b hb=>(hf b hb).1⟩⟩
 done:=by
  intro X hP hw hK hc i aa s σ H E I hf st hg;subst hP hw hK;obtain⟨xs,hq,hx⟩:=hg;obtain⟨its,rv,p,hz⟩:=I.list hq;obtain⟨f0,f1,f2,f3,f4,f5⟩:=hf it (by simp);have hl:=rv.length;exact Ly (I.ok.hd hc) st p.isList (by simp;lia) fun h' eb=>⟨rfl,I.turned (t':=s.toks) (fun b o hb e=>eb b o hb e) f0 f1 f3 f4 f5⟩
 self:=fun _ _ _ _ _ st h=>wpAny_pyIter_listiter st h
theorem JB{P:Bk}{w:World}{K:Ap}{tg:Expr}(a it:Addr):LG P w K tg (Itt K a) [it] it (fun i h=>h.IsTupleIter it a i) where
 mem:=by simp
 obj:=fun i h st b hb=>by
  have e:b=it:=by simpa using hb
  subst e;obtain⟨o,e,c,d⟩:=st;exact⟨o,e,fun v z=>by rw[d] at z;cases z⟩
 keep:=fun i h h' st k=>st.at fun o e=>k it (by simp) o e
 item:=by
  intro X hP hw hK hc i aa s σ H E I hf st hg;subst hP hw hK;obtain⟨xs,x,hq,hx⟩:=hg;obtain⟨its,rv,p,hz⟩:=I.tuple hq;obtain⟨u,hu,ru⟩:=rv.get hx;obtain⟨f0,f1,f2,f3,f4,f5⟩:=hf it (by simp);refine wpAny_pyNext_tuple_item st (show s.heap.IsTuple a its.toArray from p) (x:=u) (by simpa using hu) fun h' st' sb=> ?_;have I1:cT X aa σ H {s with heap:=h'}:=I.turned (t':=s.toks) (fun b o hb e=>(sb.2 b hb).trans e) f0 f1 f3 f4 f5;obtain⟨o,e,c,d⟩:=id st';exact⟨u,rfl,F3 (s:={s with heap:=h'}) e c d (by decide) ⟨x,H,I1,ru,⟨rfl,fun ys hy=>by rw[I.tuple_inj hy hq];exact hx⟩,st',fun b hb=>(hf b hb).1⟩⟩
 done:=by
  intro X hP hw hK hc i aa s σ H E I hf st hg;subst hP hw hK;obtain⟨xs,hq,hx⟩:=hg;obtain⟨its,rv,p,hz⟩:=I.tuple hq;obtain⟨f0,f1,f2,f3,f4,f5⟩:=hf it (by simp);have hl:=rv.length;exact wpAny_pyNext_tuple_end (I.ok.hd hc) st (show s.heap.IsTuple a its.toArray from p) (by simp;lia) fun h' eb=>⟨rfl,I.turned (t':=s.toks) (fun b o hb e=>eb b o hb e) f0 f1 f3 f4 f5⟩
 self:=fun _ _ _ _ _ st h=>wpAny_pyIter_tupleiter st h
theorem JA{P:Bk}{w:World}{K:PySem.W.Frag}{tg:Expr}(it:Addr)(lo:Int)(n:Nat):LG P w K tg (Itr lo n) [it] it (fun i h=>Kv h it (lo+(i:Nat)*1) ((n:Int) - (i:Nat)) 1) where
 mem:=by simp
 obj:=fun i h st b hb=>by
  have e:b=it:=by simpa using hb
  subst e;exact⟨_,st,fun v z=>by
   have z':Data.fields _=Data.cell v:=z;cases z'⟩
 keep:=fun i h h' st k=>k it (by simp) _ st
 item:=by
  intro X hP hw hK hc i aa s σ H E I hf st hg;subst hP hw hK;obtain⟨f0,f1,f2,f3,f4,f5⟩:=hf it (by simp);have W:=Sr (prog:=X.prog) (w:=X.w) (I.ok.hd hc) it lo 1 n;refine W.item i s _ _ hg st fun v h' tk hv st' kk=> ?_;obtain⟨t,rfl⟩:=hv;have I1:cT X aa σ H {s with heap:=h',toks:=tk}:=I.turned (fun b o hb e=>kk b o (by simpa using hb) e) f0 f1 f3 f4 f5;refine⟨_,rfl,F3 (s:={s with heap:=h',toks:=tk}) (n:= "range_iterator") st' rfl rfl (by decide) ⟨.int (lo+i),H,I1,⟨t,?_⟩,⟨rfl,rfl⟩,st',fun b hb=>(hf b hb).1⟩⟩;rw[Int.mul_one]
 done:=by
  intro X hP hw hK hc i aa s σ H E I hf st hg;subst hP hw hK;obtain⟨f0,f1,f2,f3,f4,f5⟩:=hf it (by simp);exact Lp (I.ok.hd hc) st (by have:n<=i:=hg;lia) fun h' eb=>⟨rfl,I.turned (t':=s.toks) (fun b o hb e=>eb b o hb e) f0 f1 f3 f4 f5⟩
 self:=fun _ _ _ _ _ st h=>Hy st h
section
variable{X:Cx}{tg:Expr}
def zCZ(K:Ap)(tl:TE):TI:=fun σ H R=>tl σ H fun x H1=> ∃a,x= .ref a/\(∃xs,X9 K H1 a xs)/\R (Itl K a) H1
def iTup(K:Ap)(tl:TE):TI:=fun σ H R=>tl σ H fun x H1=> ∃a,x= .ref a/\(∃xs,W9 K H1 a xs)/\R (Itt K a) H1
theorem zB7{l:Expr}{tl:TE}(hl:PE X l tl):PI X tg l (zCZ X.K tl):=by
 intro aa s σ H R I h;refine ZX (hl aa s σ H _ I h) fun v s1 ⟨x,H1,I1,r1,q1⟩=> ?_;obtain⟨a,e,⟨xs,hq⟩,q⟩:=q1;subst e;cases r1;obtain⟨its,rv,p,hz⟩:=I1.list hq;refine Fp p.isList ?_;refine⟨s1.heap.objs.size,[s1.heap.objs.size],_,_,H1,rfl,I1.kept (t':=s1.toks) fun b o e=>Ac _ e,FH a _,⟨_,Aq _ rfl,rfl,rfl⟩,fun b hb=> ?_,q⟩;have e:b=s1.heap.objs.size:=by simpa using hb
 subst e;exact I1.fpOk (Ag _) (I1.hok.fresh (Ag _))
theorem zEC{l:Expr}{tl:TE}(hl:PE X l tl):PI X tg l (iTup X.K tl):=by
 intro aa s σ H R I h;refine ZX (hl aa s σ H _ I h) fun v s1 ⟨x,H1,I1,r1,q1⟩=> ?_;obtain⟨a,e,⟨xs,hq⟩,q⟩:=q1;subst e;cases r1;obtain⟨its,rv,p,hz⟩:=I1.tuple hq;refine Ho (show s1.heap.IsTuple a its.toArray from p) ?_;refine⟨s1.heap.objs.size,[s1.heap.objs.size],_,_,H1,rfl,I1.kept (t':=s1.toks) fun b o e=>Ac _ e,JB a _,⟨_,Aq _ rfl,rfl,rfl⟩,fun b hb=> ?_,q⟩;have e:b=s1.heap.objs.size:=by simpa using hb
 subst e;exact I1.fpOk (Ag _) (I1.hok.fresh (Ag _))
theorem KM{aa:List (Addr×Obj)}{σ:St}{H:Hp}{s:Af}{R:It->Hp->Prop}{E:Value->Af->Prop}{lo hi:Int}{t u v:Tok}{tk:Nat}(I:cT X aa σ H s)(h1: -(2 ^ 62)<=lo)(h2:lo<2 ^ 62)(h3: -(2 ^ 62)<=hi)(h4:hi<2 ^ 62)
  (q:R (Itr lo (hi - lo).toNat) H):wpAny (model X.prog X.w) X.A (Qg (.ref s.heap.objs.size)) (PIE X aa σ tg R) E {s with heap:=s.heap.push {cls:= .type "range",data:= .fields #[.int lo t,.int hi u,.int 1 v]},toks:=tk}:=by
 refine wpAny_pyIter_range (Su ..) (small_one h1 h2 h3 h4) ?_;have I1:cT X aa σ H {s with heap:=s.heap.push {cls:= .type "range",data:= .fields #[.int lo t,.int hi u,.int 1 v]},toks:=tk}:=I.kept fun b o e=>Ac _ e;refine⟨(s.heap.push {cls:= .type "range",data:= .fields #[.int lo t,.int hi u,.int 1 v]}).objs.size,[(s.heap.push {cls:= .type "range",data:= .fields #[.int lo t,.int hi u,.int 1 v]}).objs.size],_,_,H,rfl,
  I1.kept (t':=tk) fun b o e=>Ac _ e,JA _ lo (hi - lo).toNat,?_,fun b hb=> ?_,q⟩
 ·have e1 : lo + ((0 : Nat) : Int) * 1 = lo := by simp
  have e2:(((hi - lo).toNat:Nat):Int) - ((0:Nat):Int)=Fz lo hi 1:=by rw[rangeSize_one];split<;>lia
  show Kv _ _ (lo+((0:Nat):Int)*1) ((((hi - lo).toNat:Nat):Int) - ((0:Nat):Int)) 1;rw[e1,e2];exact Aq _ rfl
 ·have e : b = (s.heap.push { cls := .type "range",data := .fields #[.int lo t,.int hi u,.int 1 v] }).objs.size := by simpa using hb
  subst e;exact I1.fpOk (Ag _) (I1.hok.fresh (Ag _))
def zII(ta:TA):TI:=fun σ H R=>ta σ H fun vs H1=> ∃j:Int,vs=[.int j]/\ -(2 ^ 62)<=j/\j<2 ^ 62/\R (Itr 0 j.toNat) H1
def zIH(ta:TA):TI:=fun σ H R=>ta σ H fun vs H1=> ∃i j:Int,vs=[.int i,.int j]/\(-(2 ^ 62)<=i/\i<2 ^ 62/\ -(2 ^ 62)<=j/\j<2 ^ 62)/\R (Itr i (j - i).toNat) H1
theorem EZ{a:Expr}{ta:TA}{p pos:Pos}(hg:Gl X "range") (hm:X.mg "range"=none) (ha:PA X [a] ta) (hs:Aj [a] X.env=[(false,eval a X.env)]:=by rfl):PI X tg (.Call (.Name "range" p) [a] [] pos) (zII ta):=by
 intro aa s σ H R I h;refine Call_ (WM I hg hm Rq (Cp (ZX (ha pos aa s σ H _ I h) fun us s1 ⟨vs,H1,I1,r1,q1⟩=> ?_) hs rfl));obtain⟨j,e,q1,q2,q⟩:=q1;subst e;cases r1 with
 |cons r rr=>
  cases rr;obtain⟨t,rfl⟩:=r;exact Pb (KM I1 (by lia) (by lia) q1 q2 (by simpa using q))
theorem E1{a b:Expr}{ta:TA}{p pos:Pos}(hg:Gl X "range") (hm:X.mg "range"=none) (ha:PA X [a,b] ta) (hs:Aj [a,b] X.env=[(false,eval a X.env),(false,eval b X.env)]:=by rfl) (hs2:Aj [b] X.env=[(false,eval b X.env)]:=by rfl):
  PI X tg (.Call (.Name "range" p) [a,b] [] pos) (zIH ta):=by
 intro aa s σ H R I h;refine Call_ (WM I hg hm Rq (Cp (ZX (ha pos aa s σ H _ I h) fun us s1 ⟨vs,H1,I1,r1,q1⟩=> ?_) (by rw[hs,hs2]) (by rw[hs2];rfl)));obtain⟨i,j,e,⟨q1,q2,q3,q4⟩,q⟩:=q1;subst e;cases r1 with
 |cons r rr=>
  cases rr with
  |cons r' rr=>
   cases rr;obtain⟨t,rfl⟩:=r;obtain⟨t',rfl⟩:=r';exact call_range_2 (KM I1 q1 q2 q3 q4 q)
def tFor(wi:TI)(g:TG)(tb:TS):TS:=fun D σ H=>wi σ H fun J H1=> ∃W:Nat->Nat->St->Hp->Prop,(∃m,W 0 m σ H1)/\ ∀i m σ H,W i m σ H→
 (J.stop i H/\D.nx σ H)∨(J.go i H/\ ∃N:St->Hp->Prop,(∀σ' H',N σ' H'-> ∃m',m'<m/\W (i+1) m' σ' H')/\ ∀x H',J.yld i H x H'->g x σ H' fun σ2 H2=>tb {D with nx:=N,ct:=N,bk:=D.nx} σ2 H2)
noncomputable def UF(fp:List Addr)(h:Heap):List (Addr×Obj):=fp.filterMap fun b=>(h.get? b).map fun o=>(b,o)
theorem ZP{fp:List Addr}{h:Heap}{b:Addr}{o:Obj}(hb:b∈fp)(e:h.get? b=some o):(b,o)∈UF fp h:=No.mpr ⟨b,hb,by rw[e];rfl⟩
theorem EW{fp:List Addr}{h:Heap}{p:Addr×Obj}(hp:p∈UF fp h):p.1∈fp/\h.get? p.1=some p.2:=by
 obtain⟨b,hb,e⟩:=No.mp hp;cases q:h.get? b with
 |none=>rw[q] at e;cases e
 |some o=>
  rw[q] at e;have e':(b,o)=p:=Ce e;subst e';exact⟨hb,q⟩
theorem cT.pinned{aa:List (Addr×Obj)}{σ:St}{H:Hp}{s:Af}{fp:List Addr}(I:cT X aa σ H s)(hf: ∀b∈fp,RE X aa H b)(ho: ∀b∈fp,∃o,s.heap.get? b=some o/\ ∀v,o.data≠ .cell v):cT X (aa++UF fp s.heap) σ H s:=
 I.pins_of fun p hp=>(Bo.mp hp).elim (fun z=>I.pin p (Av _ z)) fun z=>by
  obtain⟨hb,e⟩:=EW z;obtain⟨f0,f1,f2,_⟩:=hf p.1 hb;obtain⟨o,e',d⟩:=ho p.1 hb;rw[e] at e';cases e';exact⟨e,f0,f1,f2,d⟩
theorem cT.unpinned{aa pl:List (Addr×Obj)}{σ:St}{H:Hp}{s:Af}(I:cT X (aa++pl) σ H s):cT X aa σ H s:=I.pins_of fun p hp=>I.pin p (Av _ (Bv _ hp))
theorem zE9{iter:Expr}{body:List Stmt}{wi:TI}{g:TG}{tb:TS}{pos:Pos}(hp:Qf (model X.prog X.w) X.A X.env X.xe)(hc:X.calm=true)(hi:PI X tg iter wi)(hg:PG X tg g)(hb:QP X body tb)
  (hs: ∀x,foldedSetIterable iter X.env x=pure x:=by intro _;rfl):PS X (.For tg iter body [] pos) (tFor wi g tb):=by
 intro aa s σ H D I h;refine wpAny_For (ZX (hi aa s σ H _ I h) fun v s1 h1=>ZX h1 fun itv s2 h2=> ?_) hs;obtain⟨it,fp,tn,J,H2,e,I2,T,st2,f2,W,⟨m0,w0⟩,turn⟩:=h2;subst e;have stat: ∀{H':Hp},(∀b∈fp,H' b=none)-> ∀b∈fp,RE X aa H' b:=fun hn b hb=>⟨hn b hb,(f2 b hb).2⟩;refine codeAny_forLoop_any (fun n s'=> ∃i σ' H',cT X aa σ' H' s'/\tn i s'.heap/\(∀b∈fp,H' b=none)/\W i n σ' H') ?_ m0 ⟨0,σ,H2,I2,st2,fun b hb=>(f2 b hb).1,w0⟩;rintro n s3 ⟨i,σ3,H3,I3,st3,fr3,w3⟩;rcases turn i n σ3 H3 w3 with⟨stop,qn⟩|⟨go,N,hN,step⟩
 ·refine Fo hp (ZX (T.done X rfl rfl rfl hc i aa s3 σ3 H3 X.xe I3 (stat fr3) st3 stop) fun r s4 ⟨hr,I4⟩ => ?_)
  subst hr;exact Lx ⟨σ3,H3,I4,qn⟩
 ·refine Fo hp (ZX (T.item X rfl rfl rfl hc i aa s3 σ3 H3 X.xe I3 (stat fr3) st3 go) fun r s4 ⟨u,hr,h4⟩ => ?_)
  subst hr;refine Fo hp (ZX h4 fun _ s5 ⟨x,H5,I5,r5,y5,st5,fr5⟩=> ?_);have I5':=I5.pinned (stat fr5) (T.obj _ _ st5);refine Fo hp (ZX (hg _ s5 σ3 H5 x u _ I5' r5 (step x H5 y5)) fun _ s6 ⟨σ6,H6,I6,q6⟩=> ?_);refine Fo hp (ZX (hb _ s6 σ6 H6 _ I6 q6) fun f s7 q7=> ?_);have again: ∀{σ7:St} {H7:Hp},cT X (aa++UF fp s5.heap) σ7 H7 s7->N σ7 H7-> ∃m,m<n/\ ∃i σ' H',cT X aa σ' H' s7/\tn i s7.heap/\(∀b∈fp,H' b=none)/\W i m σ' H':=fun{σ7 H7} I7 n7=>by
   obtain⟨m',hm,w7⟩:=hN σ7 H7 n7;refine⟨m',hm,i+1,σ7,H7,I7.unpinned,T.keep _ _ _ st5 fun b hb o e=>(I7.pin (b,o) (Av _ (Av _ (ZP hb e)))).1,fun b hb=> ?_,w7⟩;obtain⟨o,e,d⟩:=T.obj _ _ st5 b hb;exact(I7.pin (b,o) (Av _ (Av _ (ZP hb e)))).2.1
  cases f with
  |next=>obtain⟨σ7,H7,I7,n7⟩:=q7;exact again I7 n7
  |cont=>obtain⟨σ7,H7,I7,n7⟩:=q7;exact again I7 n7
  |brk=>obtain⟨σ7,H7,I7,q7⟩:=q7;exact⟨σ7,H7,I7.unpinned,q7⟩
  |ret v=>obtain⟨x7,σ7,H7,I7,r7,q7⟩:=q7;exact⟨x7,σ7,H7,I7.unpinned,r7,q7⟩
end
abbrev R2:=V->V->Hp->VK->Prop
def XN(X:Cx)(f:Value->Value->Sem Value)(r:R2):Prop:=
 ∀(aa:List (Addr×Obj)) (s:Af) (σ:St) (H:Hp) (x y:V) (v u:Value) (Q:VK),cT X aa σ H s->cB x v->cB y u->r x y H Q→
  wpAny (model X.prog X.w) X.A (f v u) (EP X aa σ Q) X.xe s
def UnR(X:Cx)(f:Value->Sem Value)(r:V->Hp->VK->Prop):Prop:=
 ∀(aa:List (Addr×Obj)) (s:Af) (σ:St) (H:Hp) (x:V) (v:Value) (Q:VK),cT X aa σ H s->cB x v->r x H Q→
  wpAny (model X.prog X.w) X.A (f v) (EP X aa σ Q) X.xe s
def aY(X:Cx)(f:Value)(r:List V->Hp->VK->Prop):Prop:=
 ∀(aa:List (Addr×Obj)) (s:Af) (σ:St) (H:Hp) (xs:List V) (us:List Value) (Q:VK),cT X aa σ H s->b6 xs us->r xs H Q→
  wpAny (model X.prog X.w) X.A (call f us) (EP X aa σ Q) X.xe s
def tOp(r:R2)(ta tb:TE):TE:=fun σ H Q=>ta σ H fun x H1=>tb σ H1 fun y H2=>r x y H2 Q
def tUn(r:V->Hp->VK->Prop)(ta:TE):TE:=fun σ H Q=>ta σ H fun x H1=>r x H1 Q
def rI(C:Int->Int->Prop)(g:Int->Int->V):R2:=fun x y H Q=> ∃i j,x= .int i/\y= .int j/\C i j/\Q (g i j) H
def II(g:Int->Int->V):R2:=fun x y H Q=> ∃i j,x= .int i/\y= .int j/\Q (g i j) H
def rU(g:Int->V):V->Hp->VK->Prop:=fun x H Q=> ∃i,x= .int i/\Q (g i) H
section
variable{X:Cx}{a b c:Expr}{ta tb tc:TE}{pos:Pos}
theorem binT(ha:PE X a ta)(hb:PE X b tb){aa:List (Addr×Obj)}{s:Af}{σ:St}{H:Hp}{R:V->V->Hp->Prop}(I:cT X aa σ H s)
  (h:ta σ H fun x H1=>tb σ H1 fun y H2=>R x y H2) {Q:Value->Af->Prop} {f:Value->Value->Sem Value}
  (hf: ∀v u s2 x y H2,cT X aa σ H2 s2->cB x v->cB y u->R x y H2->wpAny (model X.prog X.w) X.A (f v u) Q X.xe s2):
  wpAny (model X.prog X.w) X.A (eval a X.env) (fun v s₁=>wpAny (model X.prog X.w) X.A (eval b X.env) (fun u s₂=>wpAny (model X.prog X.w) X.A (f v u) Q X.xe s₂) X.xe s₁) X.xe s:=by
 refine ZX (ha aa s σ H _ I h) fun v s1 ⟨x,H1,I1,r1,q1⟩=> ?_;refine ZX (hb aa s1 σ H1 _ I1 q1) fun u s2 ⟨y,H2,I2,r2,q2⟩=> ?_;exact hf v u s2 x y H2 I2 r1 r2 q2
theorem zCN{op:Operator}{r:R2}(ho:XN X (Gj op) r)(ha:PE X a ta)(hb:PE X b tb):PE X (.BinOp a op b pos) (tOp r ta tb):=by
 intro aa s σ H Q I h;exact wpAny_BinOp (binT ha hb I h fun v u s2 x y H2 I2 rx ry q=>ho aa s2 σ H2 x y v u Q I2 rx ry q)
theorem zHK{op:UnaryOp}{r:V->Hp->VK->Prop}(ho:UnR X (unaryOp op) r)(ha:PE X a ta):PE X (.UnaryOp op a pos) (tUn r ta):=by
 intro aa s σ H Q I h;exact UnaryOp_ (ZX (ha aa s σ H _ I h) fun v s1 ⟨x,H1,I1,r1,q1⟩=>ho aa s1 σ H1 x v Q I1 r1 q1)
theorem opI{f:Value->Value->Sem Value}{C:Int->Int->Prop}{g:Int->Int->Int}
  (rule: ∀(i j:Int) (t u:Tok) (s:Af) (Q:Value->Af->Prop) (E:Value->Af->Prop),C i j->Q (.int (g i j) s.toks) {s with toks:=s.toks+1}->wpAny (model X.prog X.w) X.A (f (.int i t) (.int j u)) Q E s):
  XN X f (rI C fun i j=> .int (g i j)):=by
 intro aa s σ H x y v u Q I rx ry h;obtain⟨i,j,rfl,rfl,hc,q⟩:=h;obtain⟨t,rfl⟩:=rx;obtain⟨t',rfl⟩:=ry;exact rule i j t t' s _ _ hc ⟨.int (g i j),H,I.tok _,⟨_,rfl⟩,q⟩
theorem opI0{f:Value->Value->Sem Value}{g:Int->Int->Int}
  (rule: ∀(i j:Int) (t u:Tok) (s:Af) (Q:Value->Af->Prop) (E:Value->Af->Prop),Q (.int (g i j) s.toks) {s with toks:=s.toks+1}->wpAny (model X.prog X.w) X.A (f (.int i t) (.int j u)) Q E s):
  XN X f (II fun i j=> .int (g i j)):=by
 intro aa s σ H x y v u Q I rx ry h;obtain⟨i,j,rfl,rfl,q⟩:=h;obtain⟨t,rfl⟩:=rx;obtain⟨t',rfl⟩:=ry;exact rule i j t t' s _ _ ⟨.int (g i j),H,I.tok _,⟨_,rfl⟩,q⟩
theorem opB0{f:Value->Value->Sem Value}{g:Int->Int->Bool}
  (rule: ∀(i j:Int) (t u:Tok) (s:Af) (Q:Value->Af->Prop) (E:Value->Af->Prop),Q (.bool (g i j)) s->wpAny (model X.prog X.w) X.A (f (.int i t) (.int j u)) Q E s):
  XN X f (II fun i j=> .bl (g i j)):=by
 intro aa s σ H x y v u Q I rx ry h;obtain⟨i,j,rfl,rfl,q⟩:=h;obtain⟨t,rfl⟩:=rx;obtain⟨t',rfl⟩:=ry;exact rule i j t t' s _ _ ⟨.bl (g i j),H,I,rfl,q⟩
def CDiv(i j:Int):Prop:=0<j/\j<1073741824
def CPow(i j:Int):Prop:=0<=j/\j<=1000000/\i.natAbs<2 ^ 64
def DQ(i j:Int):Prop:=(-(2 ^ 64)<i/\i<2 ^ 64)∨(-(2 ^ 64)<j/\j<2 ^ 64)
theorem DQ.ok{i j:Int}(h:DQ i j):IntMulOk i j:=by
 rcases h with⟨h1,h2⟩|⟨h1,h2⟩
 ·exact .of_left (intBits_le_64 h1 h2)
 ·exact .of_right (intBits_le_64 h1 h2)
theorem zES:XN X (Gj .Add) (II fun i j=> .int (i+j)):=opI0 fun _ _ _ _ _ _ _ q=>add_int q
theorem UE:XN X (Gj .Sub) (II fun i j=> .int (i - j)):=opI0 fun _ _ _ _ _ _ _ q=>sub_int q
theorem zEP:XN X (Gj .Mult) (rI DQ fun i j=> .int (i*j)):=opI fun _ _ _ _ _ _ _ hc q=>mul_int q hc.ok
theorem GK:XN X (Gj .FloorDiv) (rI CDiv fun i j=> .int (i/j)):=opI fun i j _ _ _ _ _ hc q=>by
 have h1:(0:Int)<j:=hc.1;have h2:j<1073741824:=hc.2;exact floordiv_int (by lia) (by rw[Int.fdiv_eq_ediv_of_nonneg i (by lia)];exact q) (.inl (PyProof.noPylong_small (by lia)))
theorem VV:XN X (Gj .Mod) (rI (fun _ j=>0<j) fun i j=> .int (i % j)):=opI fun i j _ _ _ _ _ hc q=>by
 have h1:(0:Int)<j:=hc;exact mod_int' (by lia) (by rw[Int.fmod_eq_emod_of_nonneg i (by lia)];exact q)
theorem zEN:XN X (Gj .Pow) (rI CPow fun i j=> .int (i ^ j.toNat)):=opI fun _ _ _ _ _ _ _ hc q=>pow_int_small hc.1 hc.2.1 hc.2.2 q
theorem unI{f:Value->Sem Value}{g:Int->Int}
  (rule: ∀(i:Int) (t:Tok) (s:Af) (Q:Value->Af->Prop) (E:Value->Af->Prop),Q (.int (g i) s.toks) {s with toks:=s.toks+1}->wpAny (model X.prog X.w) X.A (f (.int i t)) Q E s):
  UnR X f (rU fun i=> .int (g i)):=by
 intro aa s σ H x v Q I rx h;obtain⟨i,rfl,q⟩:=h;obtain⟨t,rfl⟩:=rx;exact rule i t s _ _ ⟨.int (g i),H,I.tok _,⟨_,rfl⟩,q⟩
theorem zD9:UnR X (unaryOp .USub) (rU fun i=> .int (-i)):=unI fun _ _ _ _ _ q=>neg_int q
end
section
variable{X:Cx}{a b c:Expr}{ta tb tc:TE}{pos:Pos}
theorem LX{aa:List (Addr×Obj)}{σ:St}{H:Hp}{s:Af}{Q:VK}{k k':Bool}(I:cT X aa σ H s)(q:Q (.bl k) H)(e:k=k'):EP X aa σ Q (.bool k') s:=by
 subst e;exact⟨.bl k,H,I,rfl,q⟩
theorem GL:XN X (Dg .Lt) (II fun i j=> .bl (decide (i<j))):=opB0 fun _ _ _ _ _ _ _ q=>lt_int q
theorem A6:XN X (Dg .LtE) (II fun i j=> .bl (decide (i<=j))):=opB0 fun _ _ _ _ _ _ _ q=>le_int q
theorem zCP:XN X (Dg .Gt) (II fun i j=> .bl (decide (j<i))):=opB0 fun _ _ _ _ _ _ _ q=>gt_int q
theorem zCQ:XN X (Dg .GtE) (II fun i j=> .bl (decide (j<=i))):=opB0 fun _ _ _ _ _ _ _ q=>ge_int q
theorem zEQ:XN X (Dg .Is) (fun x y H Q=>y= .non/\Q (.bl (decide (x= .non))) H):=by
 intro aa s σ H x y v u Q I rx ry h;obtain⟨rfl,q⟩:=h;cases ry;refine is_none_gen (LX I q ?_);cases x<;>first
  |(cases rx;rfl)
  |(obtain⟨t,rfl⟩:=rx;rfl)
theorem zBF:XN X (Dg .IsNot) (fun x y H Q=>y= .non/\Q (.bl (!decide (x= .non))) H):=by
 intro aa s σ H x y v u Q I rx ry h;obtain⟨rfl,q⟩:=h;cases ry;refine isnot_none_gen (LX I q ?_);cases x<;>first
  |(cases rx;rfl)
  |(obtain⟨t,rfl⟩:=rx;rfl)
theorem XN.or{f:Value->Value->Sem Value}{r r':R2}(h:XN X f r)(h':XN X f r'):XN X f (fun x y H Q=>r x y H Q∨r' x y H Q):=by
 intro aa s σ H x y v u Q I rx ry q;rcases q with q|q
 ·exact h aa s σ H x y v u Q I rx ry q
 ·exact h' aa s σ H x y v u Q I rx ry q
theorem aI(b:Expr){op:CmpOp}(h:op≠ .In:=by decide)(h2:op≠ .NotIn:=by decide):Hq op b=false:=by
 have e1:(op==CmpOp.In)=false:=by cases op<;>first|rfl|exact absurd rfl h
 have e2:(op==CmpOp.NotIn)=false:=by cases op<;>first|rfl|exact absurd rfl h2
 cases b<;>simp[Hq,e1,e2]
theorem zBB{op:CmpOp}{r:R2}(ho:XN X (Dg op) r)(ha:PE X a ta)(hb:PE X b tb)(hm:Hq op b=false):PE X (.Compare a [op] [b] pos) (tOp r ta tb):=by
 intro aa s σ H Q I h;exact wpAny_Compare1 (binT ha hb I h fun v u s2 x y H2 I2 rx ry q=>ho aa s2 σ H2 x y v u Q I2 rx ry q) hm
def zCA(t:TE):TT:=fun σ H Q=>t σ H fun x H'=> ∃k,x= .bl k/\Q k H'
theorem zB2{op:CmpOp}{r:R2}(ho:XN X (Dg op) r)(ha:PE X a ta)(hb:PE X b tb)(hm:Hq op b=false):PT X (.Compare a [op] [b] pos) (zCA (tOp r ta tb)):=by
 intro aa s σ H Q I h;refine wpAny_isTrue_Compare1 (ZX (ha aa s σ H _ I h) fun v s1 ⟨x,H1,I1,r1,q1⟩=>ZX (hb aa s1 σ H1 _ I1 q1) fun u s2 ⟨y,H2,I2,r2,q2⟩=>
  ZX (ho aa s2 σ H2 x y v u _ I2 r1 r2 q2) fun c s3 ⟨z,H3,I3,r3,k,e,q3⟩=> ?_) hm
 subst e;cases r3;exact Dx ⟨H3,I3,q3⟩
def IW(r r':R2)(ta tb tc:TE):TE:=fun σ H Q=>ta σ H fun x H1=>tb σ H1 fun y H2=>r x y H2 fun z H3=> ∃k,z= .bl k∧
 (if k=true then tc σ H3 fun w' H4=>r' y w' H4 Q else Q (.bl false) H3)
theorem BA{op op':CmpOp}{r r':R2}(ho:XN X (Dg op) r)(ho':XN X (Dg op') r')(ha:PE X a ta)(hb:PE X b tb)(hc:PE X c tc)
  (hm:Qh [op,op'] [b,c]=false:=by with_unfolding_all rfl):PE X (.Compare a [op,op'] [b,c] pos) (IW r r' ta tb tc):=by
 intro aa s σ H Q I h;refine Compare_chain (ZX (ha aa s σ H _ I h) fun v s1 ⟨x,H1,I1,r1,q1⟩=>chain_link (ZX (hb aa s1 σ H1 _ I1 q1) fun u s2 ⟨y,H2,I2,r2,q2⟩=>
  ZX (ho aa s2 σ H2 x y v u _ I2 r1 r2 q2) fun d s3 ⟨z,H3,I3,r3,k,e,q3⟩=> ?_)) hm
 subst e;cases r3;refine Dx ?_;cases k with
 |false=>exact ite_ff ⟨.bl false,H3,I3,rfl,q3⟩
 |true=>exact ite_tt (chain_last (ZX (hc aa s3 σ H3 _ I3 q3) fun w' s4 ⟨z',H4,I4,r4,q4⟩=>ho' aa s4 σ H4 y z' u w' Q I4 r2 r4 q4))
theorem BN{op op':CmpOp}{r r':R2}(ho:XN X (Dg op) r)(ho':XN X (Dg op') r')(ha:PE X a ta)(hb:PE X b tb)(hc:PE X c tc)
  (hm:Qh [op,op'] [b,c]=false:=by with_unfolding_all rfl):PT X (.Compare a [op,op'] [b,c] pos) (zCA (IW r r' ta tb tc)):=by
 intro aa s σ H Q I h;refine isTrue_chain (ZX (ha aa s σ H _ I h) fun v s1 ⟨x,H1,I1,r1,q1⟩=>test_link (ZX (hb aa s1 σ H1 _ I1 q1) fun u s2 ⟨y,H2,I2,r2,q2⟩=>
  ZX (ho aa s2 σ H2 x y v u _ I2 r1 r2 q2) fun d s3 ⟨z,H3,I3,r3,k,e,q3⟩=> ?_)) hm
 subst e;cases r3;refine Dx ?_;cases k with
 |false=>
  obtain⟨k',e',q'⟩:=q3;cases e';exact ite_ff ⟨H3,I3,q'⟩
 |true=>
  refine ite_tt (test_last (ZX (hc aa s3 σ H3 _ I3 q3) fun w' s4 ⟨z',H4,I4,r4,q4⟩=>ZX (ho' aa s4 σ H4 y z' u w' _ I4 r2 r4 q4) fun d' s5 ⟨z2,H5,I5,r5,k2,e2,q5⟩=> ?_));subst e2;cases r5;exact Dx ⟨H5,I5,q5⟩
theorem O0:(sizeLine:Nat)<2 ^ 63:=by rw[Ct];decide
theorem IC:XN X (Gj .Add) (fun x y H Q=> ∃i j,x= .str i/\y= .str j/\i.length+j.length<=sizeLine/\Q (.str (i++j)) H):=by
 intro aa s σ H x y v u Q I rx ry h;obtain⟨i,j,rfl,rfl,hz,q⟩:=h;obtain⟨t,rfl⟩:=rx;obtain⟨t',rfl⟩:=ry;exact add_str (fun t' tk=>⟨.str (i++j),H,I.tok _,⟨_,rfl⟩,q⟩) hz
theorem WB{x:V}{us:List Value}(r:b6 [x] us): ∃u,us=[u]/\cB x u:=by
 cases r with
 |cons r1 r2=>cases r2;exact⟨_,rfl,r1⟩
theorem HD{x y:V}{us:List Value}(r:b6 [x,y] us): ∃u w',us=[u,w']/\cB x u/\cB y w':=by
 cases r with
 |cons r1 r2=>
  cases r2 with
  |cons r3 r4=>cases r4;exact⟨_,_,rfl,r1,r3⟩
theorem D6(hc:X.calm=true):aY X (.builtin "max") (fun xs H Q=> ∃i j,xs=[.int i,.int j]/\Q (.int (if j>i then j else i)) H):=by
 intro aa s σ H xs us Q I r h;obtain⟨i,j,rfl,q⟩:=h;obtain⟨u,w',rfl,⟨t,rfl⟩,⟨t',rfl⟩⟩:=HD r;refine max_two_ints (I.ok.hd hc) fun h' tk k=>⟨_,H,I.kept k,?_,q⟩;by_cases hj:j>i
 ·rw[if_pos hj,if_pos hj];exact⟨_,rfl⟩
 ·rw[if_neg hj,if_neg hj];exact⟨_,rfl⟩
theorem D7(hc:X.calm=true):aY X (.builtin "min") (fun xs H Q=> ∃i j,xs=[.int i,.int j]/\Q (.int (if j<i then j else i)) H):=by
 intro aa s σ H xs us Q I r h;obtain⟨i,j,rfl,q⟩:=h;obtain⟨u,w',rfl,⟨t,rfl⟩,⟨t',rfl⟩⟩:=HD r;refine min_two_ints (I.ok.hd hc) fun h' tk k=>⟨_,H,I.kept k,?_,q⟩;by_cases hj:j<i
 ·rw[if_pos hj,if_pos hj];exact⟨_,rfl⟩
 ·rw[if_neg hj,if_neg hj];exact⟨_,rfl⟩
end
structure ObjM(h:Heap)(x dx C:Addr)(mA:Str->Option Value):Prop where
 obj:h.get? x=some (Sb C dx)
 ns:h.Ns1 dx mA
 ne:dx≠x
theorem ER{h:Heap}{dx:Addr}{mA:Str->Option Value}(n:h.Ns1 dx mA): ∃od,h.get? dx=some od/\ ∀name,W.lookIn name od=some (mA name):=by
 obtain⟨o,es,ep,ho,hd,hk,_,hm⟩:=n;refine⟨o,ho,fun name=> ?_⟩;have e:=hm name;unfold nsFind findBy at e;rw[<- Array.find?_toList] at e;unfold W.lookIn;rw[hd];dsimp only;split
 ·rename_i y q
  rw[q] at e;exact congrArg some e
 ·rename_i q
  rw[q] at e;have a:es.toList.any (·.refKey)=false:=by
   rw[List.any_eq_false];intro y hy;obtain⟨z,t,nw⟩:=hk y (Array.mem_toList_iff.mp hy);simp[DictEntry.refKey,nw]
  have a': ¬es.toList.any (·.refKey)=true:=by rw[a];exact Df
  rw[if_neg a'];exact congrArg some e
theorem ObjM.look{h:Heap}{x dx C:Addr}{mA:Str->Option Value}(I:ObjM h x dx C mA): ∃od,W.InstAt h x (Sb C dx) C (some od)/\ ∀name,W.lookIn name od=some (mA name):=
 let ⟨od,ho,hl⟩:=ER I.ns
 ⟨od,⟨I.obj,rfl,rfl,ho⟩,hl⟩
theorem RF.some_of{v:V}{o:Option Value}(r:RF (some v) o): ∃u,o=some u/\cB v u:=by
 cases o with
 |none=>exact(show False from r).elim
 |some u=>exact⟨u,rfl,r⟩
section
variable{P:Bk}{w:World}{H H':Hp}{h h':Heap}{a C dx:Addr}{fs fs':List (Str×V)}
theorem zBY(hok:T3 P w H h)(e:H a=some (.ins C dx fs)): ∃mA,ObjM h a dx C mA/\(∀f,RF (fs.lookup f) (mA f))/\Sc mA (fs.map (·.1))/\fs.length<=1000/\H dx=some (.own a):=by
 obtain⟨d,z,ne,ob,mA,n,r,q⟩:=(show aC P w H h a (.ins C dx fs) from hok a _ e);exact⟨mA,⟨ob,n,ne⟩,r,q,z,d⟩
end
structure Cls(K:Ap)(C:Addr):Prop where
 pg:W.plainGet K C Str.empty=true
 hd:W.hasDictIn K C=true
 po:W.plainOver K C=true
 sa:W.findIn K (.ref C) "__setattr__"=some (some (.builtin "object.__setattr__"))
theorem Cls.get{K:Ap}{C:Addr}(c:Cls K C)(f:Str):W.plainGet K C f=true:=c.pg
section
variable{X:Cx}{aa:List (Addr×Obj)}{σ:St}{H:Hp}{s:Af}{A:Cz}{E:Value->Af->Prop}{Q:Value->Af->Prop}{c:Value}{b:Bool}
inductive QQ(K:Ap)(H:Hp):V->Value->Prop where
 |non:QQ K H .non (.type "NoneType")
 |bl (x:Bool):QQ K H (.bl x) (.type "bool")
 |int (i:Int):QQ K H (.int i) (.type "int")
 |str (x:Str):QQ K H (.str x) (.type "str")
 |flt (x:UInt64):QQ K H (.flt x) (.type "float")
 |lst {a:Addr} {xs:List V} (e:H a=some (.lst xs)):QQ K H (.ref a) (.type "list")
 |frz {a:Addr} {o:Obj} {xs:List V} (e:H a=some (.frz o (.lst xs))):QQ K H (.ref a) (.type "list")
 |tup {a:Addr} {xs:List V} (e:H a=some (.tup xs)):QQ K H (.ref a) (.type "tuple")
 |dK {a:Addr} {kvs:List (a0×V)} (e:H a=some (.dK kvs)):QQ K H (.ref a) (.type "dict")
 |dT {a:Addr} {kvs:List (List a0×V)} (e:H a=some (.dT kvs)):QQ K H (.ref a) (.type "dict")
 |ins {a C dx:Addr} {fs:List (Str×V)} (e:H a=some (.ins C dx fs)) (cl:Cls K C) (ha:W.findIn K (.ref C) "__class__"=some (some (.builtin "object.__class__")))
   (hn:W.specialIn K (.builtin "object.__class__") "__get__"=some (some (.builtin "getset_descriptor.__get__"))) (htk:W.takesIn K (.builtin "object.__class__")=some true)
   (hm:W.mroIn K C (.type "object")=some true):QQ K H (.ref a) (.ref C)
theorem UY{x:V}{u t:Value}(I:cT X aa σ H s)(rx:cB x u)(ty:QQ X.K H x t)(e:W.kitOne X.K t c=some b)(h: ∀tk,Q (.bool b) {s with toks:=tk}):
  wpAny (model X.prog X.w) A (call (.builtin "isinstance") [u,c]) Q E s:=by
 cases ty with
 |non=>cases (show u=Value.none from rx);exact Fq W.kitx_none I.kIn True.intro e (fun z=>nomatch z) h
 |bl y=>cases (show u=Ro y from rx);exact Fq W.kitx_bool I.kIn True.intro e (fun z=>nomatch z) h
 |int i=>obtain⟨t,q⟩:=(show∃t,u=Qc i t from rx);cases q;exact Fq W.kitx_int I.kIn True.intro e (fun z=>nomatch z) h
 |str y=>obtain⟨t,q⟩:=(show∃t,u=Qd y t from rx);cases q;exact Fq W.kitx_str I.kIn True.intro e (fun z=>nomatch z) h
 |flt y=>obtain⟨t,q⟩:=(show∃t,u=Sq y t from rx);cases q;exact Fq W.kitx_float I.kIn True.intro e (fun z=>nomatch z) h
 | @lst a xs ea=>
  cases (show u=Bn a from rx);obtain⟨_,_,n,_,h1⟩:=(show aC X.prog X.w H s.heap a (.lst xs) from I.hok a _ ea);exact Fq Na I.kIn ⟨_,h1,rfl⟩ e (fun z=>nomatch z) h
 | @frz a ob xs ea=>
  cases (show u=Bn a from rx);obtain⟨_,_,_,n,_,h1⟩:=(show aC X.prog X.w H s.heap a (.frz ob (.lst xs)) from I.hok a _ ea);exact Fq Na I.kIn ⟨_,h1,rfl⟩ e (fun z=>nomatch z) h
 | @tup a xs ea=>
  cases (show u=Bn a from rx);obtain⟨_,_,_,p⟩:=(show aC X.prog X.w H s.heap a (.tup xs) from I.hok a _ ea);obtain⟨o,h1,h2,_⟩:=p;exact Fq W.kitx_tuple I.kIn ⟨o,h1,h2⟩ e (fun z=>nomatch z) h
 | @dK a kvs ea=>
  cases (show u=Bn a from rx);obtain⟨_,_,vs,_,p⟩:=(show aC X.prog X.w H s.heap a (.dK kvs) from I.hok a _ ea);obtain⟨o,es,ep,h1,h2,_⟩:=p;exact Fq W.kitx_dict I.kIn ⟨o,h1,h2.1⟩ e (fun z=>nomatch z) h
 | @dT a kvs ea=>
  cases (show u=Bn a from rx);obtain⟨_,_,xs,_,o,es,ep,h1,h2,_⟩:=(show aC X.prog X.w H s.heap a (.dT kvs) from I.hok a _ ea);exact Fq W.kitx_dict I.kIn ⟨o,h1,h2.1⟩ e (fun z=>nomatch z) h
 | @ins a C dx fs ea cl ha hn htk hm=>
  cases (show u=Bn a from rx);obtain⟨mA,O,_⟩:=zBY I.hok ea;obtain⟨od,J,_⟩:=O.look;exact Fq (W.kitx_own (cl.get _) cl.hd ha hn htk hm) I.kIn J e (fun z=>nomatch z) h
end
structure XZ(k:Nat)(A:Cz):Prop where
 hd:A.handled=none
 dp:A.depth+3*k+5<recursionLimit
 un:A.units+16*k+200<cLine
theorem XZ.mono{j k:Nat}{A:Cz}(r:XZ k A)(h:j<=k):XZ j A:=⟨r.hd,by have:=r.dp;lia,by have:=r.un;lia⟩
theorem XZ.deeper{k:Nat}{A:Cz}(r:XZ (k+1) A)(env:Env):XZ k (A.deeper env):=
 ⟨r.hd,by have:=r.dp;show A.depth+1+3*k+5<_;lia,by have:=r.un;show A.units+3+16*k+200<_;lia⟩
theorem XZ.depth{k:Nat}{A:Cz}(r:XZ k A):A.depth<recursionLimit:=by have:=r.dp;lia
theorem XZ.units{k:Nat}{A:Cz}(r:XZ k A):A.units+64<cLine:=by have:=r.un;lia
def CQ:TA:=fun _ H Q=>Q [] H
def NM(ta:TE)(tr:TA):TA:=fun σ H Q=>ta σ H fun x H1=>tr σ H1 fun xs H2=>Q (x::xs) H2
section
variable{X:Cx}{e:Expr}{es:List Expr}{te:TE}{t:TA}{pos:Pos}
theorem Z8:PA X [] CQ:=fun _ _ _ _ H Q I h=>Gy ⟨[],H,I,.nil,h⟩
theorem b5(ha:PE X e te)(hr:PA X es t)(hs:Aj (e::es) X.env=(false,eval e X.env)::Aj es X.env:=by rfl):PA X (e::es) (NM te t):=by
 intro pos aa s σ H Q I h;rw[hs];show wpAny _ _ (spliced ((false,eval e X.env)::Gc pos (Aj es X.env))) _ _ s;refine Fe (ZX (ha aa s σ H _ I h) fun u s1 ⟨x,H1,I1,r1,q1⟩=> ?_);exact ZX (hr pos aa s1 σ H1 _ I1 q1) fun us s2 ⟨xs,H2,I2,r2,q2⟩=>⟨x::xs,H2,I2,.cons r1 r2,q2⟩
def tTup(t:TA):TE:=fun σ H Q=>t σ H fun xs H1=>xs.length<=sizeLine/\ ∀p,H1 p=none->Q (.ref p) (bH H1 p (.tup xs))
def tLst(t:TA):TE:=fun σ H Q=>t σ H fun xs H1=>xs.length<=sizeLine/\ ∀p,H1 p=none->Q (.ref p) (bH H1 p (.lst xs))
theorem BH{x1}(h:PA X es t):PE X (.Tuple es x1 pos) (tTup t):=by
 intro aa s σ H Q I hq;refine wpAny_Tuple_spliced (ZX (h pos aa s σ H _ I hq) fun us s1 ⟨xs,H1,I1,r,z,q⟩=>⟨by rw[<- r.length];exact z,?_⟩);have hf:H1 s1.heap.objs.size=none:=I1.hok.fresh (Ag _);refine⟨.ref s1.heap.objs.size,bH H1 s1.heap.objs.size (.tup xs),I1.laid (t':=s1.toks) (fun b u e=>Ac _ e) (Ag _) ?_,rfl,q _ hf⟩;exact⟨z,us,r,⟨_,Aq _ rfl,rfl,_,rfl⟩⟩
theorem zEK(h:PA X es t):PE X (.List es pos) (tLst t):=by
 intro aa s σ H Q I hq;refine wpAny_List_spliced (ZX (h pos aa s σ H _ I hq) fun us s1 ⟨xs,H1,I1,r,z,q⟩=>⟨by rw[<- r.length];exact z,?_⟩);have hf:H1 s1.heap.objs.size=none:=I1.hok.fresh (Ag _);refine⟨.ref s1.heap.objs.size,bH H1 s1.heap.objs.size (.lst xs),I1.laid (t':=s1.toks) (fun b u e=>Ac _ e) (Ag _) ?_,rfl,q _ hf⟩;exact⟨z,us,0,r,Aq _ rfl⟩
end
abbrev Sp:=List V->Hp->VK->XK->Prop
abbrev CXT:=List Env->Hp->Af->XK->Value->Af->Prop
structure Env0(P:Bk)(w:World)(K:Ap)(mg:Str->Option Value)(base:Heap)(A:Cz)(outer:List Env)(s:Af)(H:Hp):Prop where
 frames:A.frames=some outer
 mod:Mod K mg base
 bs: ∀b o,base.get? b=some o->s.heap.get? b=some o/\H b=none
 bsz:base.objs.size<=s.heap.objs.size
 funs:s.heap.FunFrames base outer
 frf: ∀b∈EJ outer,H b=none
 hok:T3 P w H s.heap
 bare:Lw s.gens
def CE(outer:List Env)(P:Bk)(w:World)(H:Hp)(s:Af)(Q:VK)(u:Value)(s':Af):Prop:=
 ∃v H',s'.os=s.os/\Lw s'.gens/\Un (EJ outer) [] H H' s.heap s'.heap/\T3 P w H' s'.heap/\cB v u/\Q v H'
def CR(CX:CXT)(outer:List Env)(P:Bk)(w:World)(H:Hp)(s:Af)(Q:VK)(E:XK)(r:Qi)(s':Af):Prop:=
 match r with
 | .ok (.ret u)=>CE outer P w H s Q u s'
 | .ok _=>False
 | .error e=>CX outer H s E e s'
structure aP(P:Bk)(w:World)(K:Ap)(mg:Str->Option Value)(base:Heap)(CX:CXT)(k:Nat)(f:Addr)(fd:Gk)(ps:List Str)(sp:Sp):Prop where
 len: ∀vs H Q E,sp vs H Q E->vs.length=ps.length
 run: ∀(A:Cz) (outer:List Env) (s:Af) (H:Hp) (args:Args) (us:List Value) (vs:List V) (Q:VK) (E:XK),XZ k A->Env0 P w K mg base A outer s H->Qj s fd args (ps.zip us)->b6 vs us->sp vs H Q E→
  Gg (model P w) A (.call (.ref f) args) (CR CX outer P w H s Q E) s
section
variable{X:Cx}{aa:List (Addr×Obj)}{σ:St}{H:Hp}{s s':Af}
theorem cT.env0(I:cT X aa σ H s):Env0 X.prog X.w X.K X.mg X.base X.A X.stack s H:=
 ⟨I.ok.frames,I.ok.mod,I.bs,Bu I.ok.bsz I.sz,I.stack,I.stkFree,I.hok,I.bare⟩
theorem cT.after{Q:VK}{u:Value}(I:cT X aa σ H s)(h:CE X.stack X.prog X.w H s Q u s'):EP X aa σ Q u s':=by
 obtain⟨v,H',os,bare,un,hok,r,q⟩:=h;obtain⟨hh,g,d,t,os'⟩:=s';obtain rfl:os'=s.os:=os;exact⟨v,H',I.call (h':=hh) (g':=g) (d':=d) (t':=t) (ch:=[]) un hok bare (fun b z=>absurd z (by simp)),r,q⟩
end
def CO(sp:Sp)(dvs:List V)(E:XK)(t:TA):TE:=fun σ H Q=>t σ H fun vs H1=>sp (vs++dvs) H1 Q E
def MI(K:Ap)(fd:Gk)(ps:List Str)(ds:List Value):Prop:=
 ∀(s:Af) (us:List Value),K.In s.heap->(us++ds).length=ps.length->Qj s fd ⟨us,[]⟩ (ps.zip (us++ds))
theorem MI.all{K:Ap}{fd:Gk}{ps:List Str}(h: ∀us:List Value,us.length=ps.length->bindArgs fd ⟨us,[]⟩=pure (ps.zip us)):MI K fd ps []:=fun s us _ hl=>by
 rw[Dn] at hl⊢;exact .of_eq (h us hl)
def HJ(CX:CXT)(X:Cx)(E:XK):Prop:= ∀(aa:List (Addr×Obj)) (σ:St) (H:Hp) (s:Af) (e:Value) (s':Af),cT X aa σ H s->CX X.stack H s E e s'->X.xe e s'
section
variable{X:Cx}{CX:CXT}{k:Nat}{f C:Addr}{fd:Gk}{ps:List Str}{sp:Sp}{dvs:List V}{ds:List Value}{E:XK}{x m:Str}{p pos am:Pos}{e o:Expr}{es:List Expr}{ta:TE}{t:TA}
theorem zDX{aa:List (Addr×Obj)}{σ:St}{H:Hp}{s:Af}{Q:VK}{us:List Value}{vs:List V}(F:aP X.prog X.w X.K X.mg X.base CX k f fd ps sp)(hr:XZ k X.A)(hb:MI X.K fd ps ds)(hd:b6 dvs ds)(hx:HJ CX X E)
  (I:cT X aa σ H s) (r:b6 vs us) (h:sp (vs++dvs) H Q E):wpAny (model X.prog X.w) X.A (call (.ref f) us) (EP X aa σ Q) X.xe s:=by
 have r2:b6 (vs++dvs) (us++ds):=r.append hd;have hl:(us++ds).length=ps.length:=by rw[<- r2.length];exact F.len _ _ _ _ h
 refine wpAny_call (Jx (F.run X.A X.stack s H ⟨us,[]⟩ (us++ds) (vs++dvs) Q E hr I.env0 (hb s us I.kIn hl) r2 h) fun r s' hq=> ?_);cases r with
 |error e=>exact hx aa σ H s e s' I hq
 |ok fl=>
  cases fl with
  |ret u=>exact I.after hq
  |next=>exact Gw hq
  |brk=>exact Gw hq
  |cont=>exact Gw hq
theorem zBC(F:aP X.prog X.w X.K X.mg X.base CX k f fd ps sp)(hr:XZ k X.A)(hg:Gl X x)(hm:X.mg x=some (.ref f))(hk:Mo X.K (.ref f)=true)(hb:MI X.K fd ps ds)(hd:b6 dvs ds)(hx:HJ CX X E)
  (ha:PA X (e::es) t) (hdb:(x==("__debug__":Str))=false:=by decide) (he:Aj (e::es) X.env=(false,eval e X.env)::Aj es X.env:=by rfl) (hpl:(Gc pos (Aj es X.env)).any (·.1)=false:=by rfl):
  PE X (.Call (.Name x p) (e::es) [] pos) (CO sp dvs E t):=by
 intro aa s σ H Q I h;refine Gm (F8 I hg hm ?_ hdb);refine W.callWith_K (h₀:=X.base) I.ok.mod.kin hk (ZX (ha pos aa s σ H _ I h) fun us s1 ⟨vs,H1,I1,r,q⟩=>⟨I1.kIn,?_⟩) he hpl;exact zDX F hr hb hd hx I1 r q
end
structure cQ(N P:List Str)(sc:Scope):Prop where
 kind:sc.kind= .function
 co:sc.isCoroutine=false
 gen:sc.isGenerator=false
 nd:N.Nodup
 pre:N.take P.length=P
 par: ∀x∈P,sc.names.lookup x=some .local∨sc.names.lookup x=some .cell
 nofree: ∀y∈sc.names,y.2≠ .free
theorem MR{kindOf:Str->Option NameKind}{x:Str}: ∀{binds:List (Str×Value)} {m:Str->Option Value},(∀v,(x,v)∉binds)->bindL kindOf binds m x=m x
 |[],_,_=>rfl
 | (n,v) :: r,m,h => by
  unfold bindL;rw[MR fun w hw=>h w (Ao _ hw)];split
  ·have : x ≠ n := by rintro rfl;exact h v Au
   simp[this]
  ·rfl
theorem MP{kindOf:Str->Option NameKind}{x:Str}: ∀{binds:List (Str×Value)} {m:Str->Option Value},(∀v,(x,v)∉binds)->bindC kindOf binds m x=m x
 |[],_,_=>rfl
 | (n,v) :: r,m,h => by
  unfold bindC;rw[MP fun w hw=>h w (Ao _ hw)];split
  ·rfl
  ·have : x ≠ n := by rintro rfl;exact h v Au
   simp[this]
theorem MQ{kindOf:Str->Option NameKind}{x:Str}{v:Value}: ∀{P:List Str} {vs:List Value} {i:Nat} {m:Str->Option Value},P.Nodup->P[i]? =some x->vs[i]? =some v->kindOf x=some .local→
  bindL kindOf (P.zip vs) m x=some v
 |[],_,_,_,_,h,_,_=>by simp at h
 |_::_,[],_,_,_,_,h,_=>by simp at h
 |p::P,w::vs,0,m,nd,h1,h2,hk=>by
  simp at h1 h2;subst h1;subst h2;show bindL kindOf ((p,w)::P.zip vs) m p=_;unfold bindL;rw[MR fun v hv=>(Cv.mp nd).1 (Lz hv).1,if_pos hk];simp
 |p::P,w::vs,i+1,m,nd,h1,h2,hk=>by
  show bindL kindOf ((p,w)::P.zip vs) m x=_;unfold bindL;exact MQ (i:=i) (Cv.mp nd).2 (by simpa using h1) (by simpa using h2) hk
theorem MO{kindOf:Str->Option NameKind}{x:Str}{v:Value}: ∀{P:List Str} {vs:List Value} {i:Nat} {m:Str->Option Value},P.Nodup->P[i]? =some x->vs[i]? =some v->kindOf x≠some .local→
  bindC kindOf (P.zip vs) m x=some v
 |[],_,_,_,_,h,_,_=>by simp at h
 |_::_,[],_,_,_,_,h,_=>by simp at h
 |p::P,w::vs,0,m,nd,h1,h2,hk=>by
  simp at h1 h2;subst h1;subst h2;show bindC kindOf ((p,w)::P.zip vs) m p=_;unfold bindC;rw[MP fun v hv=>(Cv.mp nd).1 (Lz hv).1,if_neg hk];simp
 |p::P,w::vs,i+1,m,nd,h1,h2,hk=>by
  show bindC kindOf ((p,w)::P.zip vs) m x=_;unfold bindC;exact MO (i:=i) (Cv.mp nd).2 (by simpa using h1) (by simpa using h2) hk
noncomputable def start(N:List Str)(vs:List V):St:=vs.map some++Bb (N.length - vs.length) none
noncomputable def JQ(CX:CXT)(P:Bk)(w:World)(K:Ap)(mg:Str->Option Value)(base:Heap)(N:List Str)(qual:Str)(scope:Scope)(f:Addr)(cd:Value)(A:Cz)(outer:List Env)(s:Af)(H:Hp)(E:XK):Cx where
 prog:=P
 w:=w
 K:=K
 mg:=mg
 base:=base
 A:=A.deeper (Lj qual scope s.heap.objs.size f cd)
 N:=N
 s₀:=s
 H₀:=H
 env:=Lj qual scope s.heap.objs.size f cd
 outer:=outer
 stack:=Lj qual scope s.heap.objs.size f cd::outer
 ex:=[]
 calm:=true
 fn:=fun _=>true
 pn:=[]
 xe:=fun e s'=>wpAny (model P w) (A.deeper (Lj qual scope s.heap.objs.size f cd)) (leaving (Lj qual scope s.heap.objs.size f cd) e) (fun _ s''=>CX outer H s E e s'') (fun e' s''=>CX outer H s E e' s'') s'
theorem JO{sc:Scope}{n:Nat}{x:Str}(h:sc.names.lookup x=some .cell): ∃c,(cellsFrom n sc.names []).lookup x=some c:=by
 have q:=Pj sc.names n [] (.inl h);exact Option.isSome_iff_exists.mp q
theorem EL{CX:CXT}{P:Bk}{w:World}{K:Ap}{mg:Str->Option Value}{base:Heap}{N ps:List Str}{qual:Str}{scope:Scope}{f:Addr}{cd:Value}{A:Cz}{outer:List Env}{s s1:Af}{H:Hp}{E:XK}{us:List Value}{vs:List V}
  (S:cQ N ps scope) (hd:A.handled=none) (e0:Env0 P w K mg base A outer s H) (hl:vs.length=ps.length) (r:b6 vs us)
  (x:InCallC s s.heap.objs.size (bindL (Lj qual scope s.heap.objs.size f cd).kindOf (ps.zip us) fun _=>none) (cellsFrom (s.heap.objs.size+1) scope.names []) (bindC (Lj qual scope s.heap.objs.size f cd).kindOf (ps.zip us) fun _=>none) s1):
  cT (JQ CX P w K mg base N qual scope f cd A outer s H E) [] (start N vs) H s1:=by
 have hpl:ps.length<=N.length:=by have:=congrArg List.length S.pre;rw[Bp] at this;lia
 obtain⟨h1,tk,rfl,hk⟩:=x.done;have noA: ∀b:Addr,b∉(JQ CX P w K mg base N qual scope f cd A outer s H E).ex:=fun b z=>absurd (show b∈([]:List Addr) from z) (by simp);refine⟨⟨e0.mod,S.kind,rfl,rfl,Ag _,fun y z c h1 h2=> ?_,fun y hy=> ?_,fun y c _ h=> ?_,fun _=>hd,Around.frames_deeper e0.frames,.inr ⟨rfl,rfl⟩,fun b z=>absurd z (noA b),e0.bs,e0.bsz,fun b _ _=>noA b,fun b z=>absurd z (noA b),e0.funs,e0.frf⟩,
  rfl,e0.bare,Un.kept hk,⟨_,x.toInCall.ns,fun i y v h1 h2 h3=> ?_⟩,fun y c h=>⟨_,x.cell y c h⟩,e0.hok.fresh (Ag _),fun y c h=> ?_,fun p hp=>absurd (show p∈([]:List (Addr×Obj)) from hp) (by simp),e0.hok.kept hk,?_⟩
 ·exact name_of_addr x.apart (Bq h1) (Bq h2)
 ·have hy:scope.names.lookup y=some .cell∨scope.names.lookup y=some .free:=hy
  rcases hy with hy|hy
  ·exact JO hy
  ·exact absurd rfl (S.nofree _ (Bq hy))
 ·exact Db (x.above y c (Bq h))
 ·have hi:i<vs.length:=by
   unfold start at h2;by_cases hi:i<vs.length
   ·exact hi
   ·rw [Bt (by simpa using hi)] at h2
    rw[Cu] at h2;split at h2<;>cases h2
  have ha:vs[i]? =some v:=by
   unfold start at h2;rw[Ai (by simpa using hi),Cq] at h2;cases e:vs[i]? with
   |none=>rw[e] at h2;cases h2
   |some a=>rw[e] at h2;cases h2;rfl
  obtain⟨u,hu,rv⟩:=r.get ha;have hp:ps[i]? =some y:=by rw[<- S.pre,Cb (by lia)];exact h1
  have ndP:ps.Nodup:=by rw[<- S.pre];exact S.nd.sublist (List.take_sublist _ _)
  refine⟨u,rv,?_⟩;rcases S.par y (Dc hp) with k|k
  ·exact .inl ⟨k,MQ ndP hp hu k⟩
  ·obtain⟨c,e⟩:=JO (n:=s.heap.objs.size+1) k
   refine .inr ⟨.inl k,c,e,?_⟩;have q:=x.cell y c e;rw[MO ndP hp hu (by show scope.names.lookup y≠_;rw[k];decide)] at q;exact q
 ·exact e0.hok.fresh (Db (x.above y c (Bq h)))
 ·unfold start
  show _=N.length;rw[Cd,Bz,Ik];lia
theorem zIN{CX:CXT}{P:Bk}{w:World}{K:Ap}{mg:Str->Option Value}{base:Heap}{k:Nat}{f:Addr}{name qual:Str}{params:Arguments}{body:List Stmt}{scope:Scope}{dV kV doc pm cdv ct oc:Value}{an od:Option Addr}
  {osl:Array (Option Value)} {N ps:List Str} {sp:Sp} (lk:K.lookup f=some ⟨oc,od,.func (Mu name qual params body scope dV kV doc pm an cdv ct),osl⟩) (hcd:Np K cdv qual=true) (S:cQ N ps scope)
  (len: ∀vs H Q E,sp vs H Q E->vs.length=ps.length)
  (cj: ∀(A:Cz) (outer:List Env) (s:Af) (H:Hp) (vs:List V) (Q:VK) (E:XK),XZ k (A.deeper (Lj qual scope s.heap.objs.size f cdv))->sp vs H Q E→
   ∃t,QP (JQ CX P w K mg base N qual scope f cdv A outer s H E) body t/\t {nx:=fun _ H'=>Q .non H',rt:=Q} (start N vs) H):
  aP P w K mg base CX (k+1) f (Mu name qual params body scope dV kV doc pm an cdv ct) ps sp:=by
 refine⟨len,fun A outer s H args us vs Q E hr e0 hb r hsp=> ?_⟩;have hl:=len _ _ _ _ hsp;have KX:K.In s.heap:=e0.mod.kin.keeps fun b o e=>(e0.bs b o e).1;have lim:s.heap.NoLimit:=e0.mod.nolimit.keeps fun b o e=>(e0.bs b o e).1;have lm: ∀y∈ps.zip us,scope.names.lookup y.1=some .local∨(scope.names.lookup y.1=some .cell/\((cellsFrom (s.heap.objs.size+1) scope.names []).lookup y.1).isSome=true):=fun⟨n,v⟩ hy=>by
  rcases S.par n (Lz hy).1 with q|q
  ·exact .inl q
  ·exact .inr ⟨q,Pj _ _ _ (.inl q)⟩
 refine codeAny_call_function hr.depth (KX _ _ lk) rfl S.co S.gen rfl (W.codeRec_of KX hcd) (hb _ _ _ _ ?_);refine wpAny_newFunctionEnv_cells S.kind lm fun env he s1 x=> ?_;subst he;refine⟨lim.keeps x.toInCall.keep,codeAny_func ?_⟩;obtain⟨t,ht,hq⟩:=cj A outer s H vs Q E (hr.deeper _) hsp;have I:cT (JQ CX P w K mg base N qual scope f cdv A outer s H E) [] (start N vs) H s1:=EL S hr.hd e0 hl r x;refine Aw (ht [] s1 (start N vs) H _ I hq) (fun fl s' hs=> ?_) fun e s' hs=>hs;have fin: ∀{σ':St} {H':Hp} {v:V} {u:Value},cT (JQ CX P w K mg base N qual scope f cdv A outer s H E) [] σ' H' s'->cB v u->Q v H'->CE outer P w H s Q u s':=
  fun{σ' H' v u} J rv q=>⟨v,H',J.os,J.bare,J.base,J.hok,rv,q⟩
 cases fl with
 |ret u=>
  obtain⟨v,σ',H',J,rv,q⟩:=hs;exact fin J rv q
 |next=>
  obtain⟨σ',H',J,q⟩:=hs;exact fin (v:=V.non) (u:=Value.none) J rfl q
 |brk=>
  obtain⟨_,_,_,q⟩:=hs;exact Gw q
 |cont=>
  obtain⟨_,_,_,q⟩:=hs;exact Gw q
section
variable{X:Cx}{x:Str}{p pos:Pos}{e:Expr}{es:List Expr}{t:TA}{id T:String}{r:List V->Hp->VK->Prop}
def tCB(r:List V->Hp->VK->Prop)(t:TA):TE:=fun σ H Q=>t σ H fun vs H1=>r vs H1 Q
theorem PL(hc:aY X (.builtin id) r)(hg:Gl X x)(hm:X.mg x=none)(hv:Bh x=some (.builtin id))(ha:PA X (e::es) t)(hn:x≠ "__name__":=by decide) (hdb:(x==("__debug__":Str))=false:=by decide)
  (he:Aj (e::es) X.env=(false,eval e X.env)::Aj es X.env:=by rfl) (hpl:(Gc pos (Aj es X.env)).any (·.1)=false:=by rfl):PE X (.Call (.Name x p) (e::es) [] pos) (tCB r t):=by
 intro aa s σ H Q I h;refine Gm (WM I hg hm hv ?_ hn hdb);exact PyProof.Rows.callWith_builtin1 (ZX (ha pos aa s σ H _ I h) fun us s1 ⟨vs,H1,I1,r1,q1⟩=>hc aa s1 σ H1 vs us Q I1 r1 q1) he hpl
theorem W3(hc:aY X (.type T) r)(hg:Gl X x)(hm:X.mg x=none)(hv:Bh x=some (.type T))(ha:PA X (e::es) t)(hn:x≠ "__name__":=by decide) (hdb:(x==("__debug__":Str))=false:=by decide)
  (he:Aj (e::es) X.env=(false,eval e X.env)::Aj es X.env:=by rfl) (hpl:(Gc pos (Aj es X.env)).any (·.1)=false:=by rfl):PE X (.Call (.Name x p) (e::es) [] pos) (tCB r t):=by
 intro aa s σ H Q I h;refine Gm (WM I hg hm hv ?_ hn hdb);exact Cp (ZX (ha pos aa s σ H _ I h) fun us s1 ⟨vs,H1,I1,r1,q1⟩=>hc aa s1 σ H1 vs us Q I1 r1 q1) he hpl
end
end L2
namespace HT
open PySem PyProof.Rows
section
variable{prog:Bk}{w:World}{A:Cz}{E:Value->Af->Prop}{s:Af}
theorem zC2{t b:Addr}{vs ws:List Value}{Q:Value->Af->Prop}(ht:IsTup s.heap t vs.toArray)(hb:IsTup s.heap b ws.toArray)(hv:vs≠[])
  (h1:ws=[]->Q (.ref t) s) (h2:ws≠[]->Q (.ref s.heap.objs.size) {s with heap:=s.heap.push {cls:= .type "tuple",data:= .seq (vs++ws).toArray}})
  (hsz:vs.length+ws.length<=sizeLine):wpAny (model prog w) A (Gj .Add (.ref t) (.ref b)) Q E s:=by
 obtain⟨⟨cls,dd,data,sl⟩,ho,hc,n,hd⟩:=id ht;obtain⟨⟨lv,dd2,data2,sl2⟩,ho2,hc2,n2,hd2⟩:=id hb;simp only at hc hd hc2 hd2;subst hc hd hc2 hd2;have e:vs.toArray++ws.toArray=(vs++ws).toArray:=by simp
 by_cases hw:ws=[]
 ·exact Ma ⟨_,ho,rfl⟩ ⟨_,ho2,rfl⟩ Lk Nq Hz Hr (Hk _ _)
   (tuple_addW1 t b vs.toArray ws.toArray n n2 dd dd2 sl sl2 (by simpa using hv) (by simp[hw])) ⟨ho,ho2,h1 hw⟩
 ·refine Ma ⟨_,ho,rfl⟩ ⟨_,ho2,rfl⟩ Lk Nq Hz Hr (Hk _ _)
   (tuple_addW2 t b vs.toArray ws.toArray n n2 dd dd2 sl sl2 (by simpa using hv) (by simpa using hw) (by rw[As,As];exact hsz)) ⟨ho,ho2,?_⟩
  rw[e];exact h2 hw
noncomputable def sIx(n d:Nat):Option Int->Nat
 |none=>d
 |some v=>if v<0 then(v+(n:Int)).toNat else min v.toNat n
theorem KR(n d:Nat):sIx n d none=d:=rfl
theorem G8(n d k:Nat):sIx n d (some (k:Int))=min k n:=by
 show(if(k:Int)<0 then((k:Int)+(n:Int)).toNat else min (k:Int).toNat n)=min k n;rw[if_neg (by lia),Gz]
theorem zDV(n d:Nat)(hd:d<=n)(o:Option Int):sIx n d o<=n:=by
 cases o with
 |none=>exact hd
 |some v=>
  show(if v<0 then(v+(n:Int)).toNat else min v.toNat n)<=n;by_cases hv:v<0
  ·rw[if_pos hv];lia
  ·rw[if_neg hv];exact Nat.min_le_right _ _
theorem FX(v:Int)(n d:Nat):(if v<0 then max (v+(n:Int)) 0 else min v (n:Int))=((sIx n d (some v):Nat):Int):=by
 show(if v<0 then max (v+(n:Int)) 0 else min v (n:Int))=(((if v<0 then(v+(n:Int)).toNat else min v.toNat n):Nat):Int);by_cases hv:v<0
 ·simp only[if_pos hv];lia
 ·simp only[if_neg hv];lia
theorem HL(lo hi:Option Int)(n:Nat):He lo hi 1 (n:Int)=(((sIx n 0 lo:Nat):Int),((sIx n n hi:Nat):Int)):=by
 have h1: ¬((1:Int)<0):=by lia
 unfold He;simp only[h1,if_false];refine Sy ?_ ?_
 ·cases lo with
  |none=>rfl
  |some v=>exact FX v n 0
 ·cases hi with
  |none=>rfl
  |some v=>exact FX v n n
theorem IG(i j:Nat):Fk (i:Int) (j:Int) 1=j - i:=by
 unfold Fk;have h1:(1:Int)>0:=by lia
 simp only[h1,if_true,Int.ediv_one];split<;>lia
theorem P1{v:Value}{o:Option Int}{Q:Option Int->Af->Prop}(p:IsPart v o)(h:Q o s):wpAny (model prog w) A (Px v) Q E s:=by
 cases p with
 |none=>exact slicePart_none h
 |int i t=>exact slicePart_int h
theorem W6{sl:Addr}{vl vu:Value}{lo hi:Option Int}{n:Nat}{Q:Int×Int×Nat->Af->Prop}(hs:s.heap.IsSliceOf sl vl vu .none)(pl:IsPart vl lo)(pu:IsPart vu hi)
  (h:Q (((sIx n 0 lo:Nat):Int),1,sIx n n hi - sIx n 0 lo) s):wpAny (model prog w) A (Ju (.ref sl) (pure (n:Int))) Q E s:=by
 obtain⟨os,hos,hcs,hds⟩:=id hs;unfold Ju Qz;refine Aa (Aa (Du hos hds (x:=vl) rfl (Aa (Du hos hds (x:=vu) rfl (Aa (Du hos hds (x:= .none) rfl (Ah ?_)))))));refine Aa (slicePart_none ?_);show wpAny _ _ (if((1:Int)==0)=true then _ else _) _ _ s;rw[if_neg (by decide)];refine Aa (P1 pl (Aa (P1 pu (Aa (Ah ?_)))));show wpAny _ _ (match He lo hi 1 (n:Int) with|(lo,hi)=>pure (lo,(1:Int),Fk lo hi 1)) _ _ s;rw[HL lo hi n];show wpAny _ _ (pure (((sIx n 0 lo:Nat):Int),(1:Int),Fk ((sIx n 0 lo:Nat):Int) ((sIx n n hi:Nat):Int) 1)) _ _ s;rw[IG];exact Ah h
theorem BI(xs:Array Value)(i k:Nat):((At k).filterMap fun(m:Nat)=>xs[((i:Int)+(m:Int)*1).toNat]?).toArray=((xs.toList.drop i).take k).toArray:=by
 have e:(fun(m:Nat)=>xs[((i:Int)+(m:Int)*1).toNat]?)=fun m=>xs[i+m]? :=by
  funext m;have:((i:Int)+(m:Int)*1).toNat=i+m:=by lia
  rw[this]
 rw[e];have:=pick_run xs i k;rw[List.filterMap_map] at this;have e2:((fun x=>xs[x]?)∘fun x=>i+x)=fun m=>xs[i+m]? :=rfl;rw[e2] at this;rw[this]
theorem SV{t sl:Addr}{items:Array Value}{vl vu:Value}{lo hi:Option Int}{Q:Value->Af->Prop}(ht:IsTup s.heap t items)(hs:s.heap.IsSliceOf sl vl vu .none)(pl:IsPart vl lo)(pu:IsPart vu hi)
  (hw: ¬(sIx items.size 0 lo=0/\sIx items.size items.size hi=items.size))
  (h:Q (.ref s.heap.objs.size) {s with heap:=s.heap.push {cls:= .type "tuple",data:= .seq ((items.toList.drop (sIx items.size 0 lo)).take (sIx items.size items.size hi - sIx items.size 0 lo)).toArray}})
  (hsz:items.size<=sizeLine):wpAny (model prog w) A (Kw (.ref t) (.ref sl)) Q E s:=by
 have ay:sizeOk (.seq ((items.toList.drop (sIx items.size 0 lo)).take (sIx items.size items.size hi - sIx items.size 0 lo)).toArray):=by
  show((items.toList.drop (sIx items.size 0 lo)).take (sIx items.size items.size hi - sIx items.size 0 lo)).toArray.size<=sizeLine;rw[As,Bp,Pk,Ei];lia
 have hj:sIx items.size items.size hi<=items.size:=zDV _ _ (Ag _) hi;obtain⟨os,hos,hcs,hds⟩:=id hs;have hTs:s.TypeIs (.ref sl) "slice":=⟨os,hos,hcs⟩;unfold Kw;try with_reducible refine Ck ?_
 first|refine Aa (Ah ?_)|skip
 refine Aa (Ki ht.typeIs (by decide) ?_);refine Aa (Dj (name:=Bi "__getitem__") ht.typeIs Ej
  (Ds Ej ht.typeIs entry_tuple_getitem ?_ (args_tuple_getitem _ _)))
 show wpAny _ _ (Jv (.ref t)>>=_) _ _ s;refine Aa (tupleItemsOf_ ht ?_);refine Aa (Jy hTs ?_);rw[if_pos (by decide)];refine Aa (W6 hs pl pu ?_);have hno: ¬((((sIx items.size 0 lo:Nat):Int)==0 && (1:Int)==1 && (sIx items.size items.size hi - sIx items.size 0 lo)==items.size)=true):=by
  intro q;rw[Ad,Ad] at q;have q1:((sIx items.size 0 lo:Nat):Int)=0:=eq_of_beq q.1.1;have q2:sIx items.size items.size hi - sIx items.size 0 lo=items.size:=eq_of_beq q.2;exact hw ⟨by lia,by lia⟩
 show wpAny _ _ (if(((sIx items.size 0 lo:Nat):Int)==0 && (1:Int)==1 && (sIx items.size items.size hi - sIx items.size 0 lo)==items.size)=true then _ else _) _ _ s;rw[if_neg hno,BI]
 first
  |exact Aa (m:=Fs _) (Co (Ah ⟨_,rfl,Ah h⟩) ay)
  |exact Aa (m:=Fs _) (Co (Aa (Ah (Ah ⟨_,rfl,Ah h⟩))) ay)
  |exact Aa (Aa (m:=Fs _) (Co (Ah (Ah ⟨_,rfl,Ah h⟩)) ay))
  |exact Aa (Aa (m:=Fs _) (Co (Ah ⟨_,rfl,Ah h⟩) ay))
end
end HT
namespace L2
open PySem PySem.Spec PyProof.Rows
abbrev TO:=St->Hp->(Option Int->Hp->Prop)->Prop
def PO(X:Cx)(e:Option Expr)(t:TO):Prop:=
 ∀(aa:List (Addr×Obj)) (s:Af) (σ:St) (H:Hp) (Q:Option Int->Hp->Prop),cT X aa σ H s->t σ H Q→
  wpAny (model X.prog X.w) X.A (evalPart e X.env) (fun u s'=> ∃o H',cT X aa σ H' s'/\IsPart u o/\Q o H') X.xe s
def zAP:TO:=fun _ H Q=>Q none H
def zGM(t:TE):TO:=fun σ H Q=>t σ H fun x H1=> ∃i,x= .int i/\Q (some i) H1
section
variable{X:Cx}{e:Expr}{te:TE}{lo hi:Option Expr}{tl th:TO}{pos p2:Pos}
theorem zB6:PO X none zAP:=by
 intro aa s σ H Q I h;rw[evalPart_none];exact Ah ⟨none,H,I,.none,h⟩
theorem zB5(h:PE X e te):PO X (some e) (zGM te):=by
 intro aa s σ H Q I hw;rw[evalPart_some];refine ZX (h aa s σ H _ I hw) fun u s1 ⟨x,H1,I1,r1,q1⟩=> ?_;obtain⟨i,rfl,q⟩:=q1;obtain⟨t,rfl⟩:=r1;exact⟨some i,H1,I1,.int i t,q⟩
def SlR(X:Cx)(r:V->Option Int->Option Int->Hp->VK->Prop):Prop:=
 ∀(aa:List (Addr×Obj)) (s:Af) (σ:St) (H:Hp) (x:V) (v vl vu:Value) (lo hi:Option Int) (sl:Addr) (Q:VK),cT X aa σ H s->cB x v->s.heap.IsSliceOf sl vl vu .none->IsPart vl lo->IsPart vu hi->r x lo hi H Q→
  ∃T id,typeLookup (.type T) "__getitem__"=pure (some (.builtin id))/\s.TypeIs v T/\wpAny (model X.prog X.w) X.A (Kw v (.ref sl)) (EP X aa σ Q) X.xe s
theorem SlR.or{r r':V->Option Int->Option Int->Hp->VK->Prop}(h:SlR X r)(h':SlR X r'):SlR X (fun x lo hi H Q=>r x lo hi H Q∨r' x lo hi H Q):=by
 intro aa s σ H x v vl vu lo hi sl Q I rx hs pl pu q;rcases q with q|q
 ·exact h aa s σ H x v vl vu lo hi sl Q I rx hs pl pu q
 ·exact h' aa s σ H x v vl vu lo hi sl Q I rx hs pl pu q
def tSl(r:V->Option Int->Option Int->Hp->VK->Prop)(te:TE)(tl th:TO):TE:=fun σ H Q=>te σ H fun x H1=>tl σ H1 fun l H2=>th σ H2 fun u H3=>r x l u H3 Q
theorem BG{r:V->Option Int->Option Int->Hp->VK->Prop}(hr:SlR X r)(he:PE X e te)(hl:PO X lo tl)(hu:PO X hi th):PE X (.Subscript e (.Slice lo hi none p2) pos) (tSl r te tl th):=by
 intro aa s σ H Q I h;refine Subscript_ (ZX (he aa s σ H _ I h) fun v s1 ⟨x,H1,I1,r1,q1⟩=> ?_);refine wpAny_Slice (ZX (hl aa s1 σ H1 _ I1 q1) fun vl s2 ⟨l,H2,I2,pl,q2⟩=>ZX (hu aa s2 σ H2 _ I2 q2) fun vu s3 ⟨u,H3,I3,pu,q3⟩=> ?_);rw[evalPart_none];refine Ah ?_;have I4:cT X aa σ H3 {s3 with heap:=s3.heap.push {cls:= .type "slice",data:= .fields #[vl,vu,.none]}}:=I3.kept (t':=s3.toks) fun b ob q=>Ac _ q;obtain⟨T,id,hT,ht,hg⟩:=hr aa {s3 with heap:=s3.heap.push {cls:= .type "slice",data:= .fields #[vl,vu,.none]}} σ H3 x v vl vu l u s3.heap.objs.size Q I4 r1 (Sz ..) pl pu q3;show wpAny (model X.prog X.w) X.A (subscriptTail e (.Slice lo hi none p2) v (.ref s3.heap.objs.size)) (EP X aa σ Q) X.xe {s3 with heap:=s3.heap.push {cls:= .type "slice",data:= .fields #[vl,vu,.none]}};exact Rv (ops:=[.ref s3.heap.objs.size,v]) ht hT hg (by with_unfolding_all rfl)
noncomputable def JP(xs:List V)(lo hi:Option Int):List V:=(xs.drop (HT.sIx xs.length 0 lo)).take (HT.sIx xs.length xs.length hi - HT.sIx xs.length 0 lo)
theorem QX(xs:List V)(lo hi:Option Int):(JP xs lo hi).length<=xs.length:=by
 unfold JP;rw[Bp,Pk];lia
def rSlT(K:Ap):V->Option Int->Option Int->Hp->VK->Prop:=fun x lo hi H Q=> ∃a xs,x= .ref a/\W9 K H a xs∧
 ¬(HT.sIx xs.length 0 lo=0/\HT.sIx xs.length xs.length hi=xs.length)/\ ∀p,H p=none->Q (.ref p) (bH H p (.tup (JP xs lo hi)))
theorem zDJ:SlR X (rSlT X.K):=by
 intro aa s σ H x v vl vu lo hi sl Q I rx hs pl pu h;obtain⟨a,xs,rfl,hx,hw,q⟩:=h;cases rx;obtain⟨its,r,ht,hz⟩:=I.tuple hx;have ae:its.toArray.size=xs.length:=by rw[As];exact r.length.symm
 refine⟨"tuple",_,PyProof.Rows.slot_tuple_getitem.lookup,ht.typeIs,?_⟩;refine HT.SV ht hs pl pu (by rw[ae];exact hw) ?_ (by rw[ae];exact hz);rw[ae];refine⟨.ref s.heap.objs.size,_,I.laid (t':=s.toks) (o:= .tup (JP xs lo hi)) (fun b ob q=>Ac _ q) (Ag _) ?_,rfl,q _ (I.hok.fresh (Ag _))⟩;exact⟨Bu (QX xs lo hi) hz,_,(r.drop (HT.sIx xs.length 0 lo)).take (HT.sIx xs.length xs.length hi - HT.sIx xs.length 0 lo),Kh _ _⟩
theorem b6.nil_iff{xs:List V}{us:List Value}(r:b6 xs us):us=[]↔xs=[]:=by
 cases r with
 |nil=>simp
 |cons _ _=>simp
end
noncomputable def ixN(n:Nat)(i:Int):Option Nat:=if 0<=i then(if i<n then some i.toNat else none) else if -(n:Int)<=i then some (i+n).toNat else none
noncomputable def V4{α:Type}(xs:List α)(i:Int):Option α:=(ixN xs.length i).bind fun j=>xs[j]?
theorem zBW{n:Nat}{i:Int}{j:Nat}(h:ixN n i=some j):seqIndex? i n=some j/\j<n/\ -(n:Int)<=i/\i<n:=by
 unfold ixN at h;by_cases h0:0<=i
 ·rw[if_pos h0] at h
  by_cases h1:i<n
  ·rw[if_pos h1] at h
   have e:i.toNat=j:=Ce h;exact⟨by rw[seqIndex_of h0 h1,e],by lia,by lia,h1⟩
  ·rw[if_neg h1] at h;cases h
 ·rw[if_neg h0] at h
  by_cases h1: -(n:Int)<=i
  ·rw[if_pos h1] at h
   have e:(i+n).toNat=j:=Ce h;exact⟨by rw[seqIndex_neg (by lia) h1,e],by lia,h1,by lia⟩
  ·rw[if_neg h1] at h;cases h
theorem LH{α:Type}{xs:List α}{i:Int}{v:α}(h:V4 xs i=some v): ∃j,seqIndex? i xs.length=some j/\xs[j]? =some v/\j<xs.length/\ -(xs.length:Int)<=i/\i<xs.length:=by
 unfold V4 at h;cases e:ixN xs.length i with
 |none=>rw[e] at h;cases h
 |some j=>
  rw[e] at h;obtain⟨h1,h2,h3,h4⟩:=zBW e;exact⟨j,h1,h,h2,h3,h4⟩
theorem SK{α:Type}(xs:List α)(v:α):V4 (xs++[v]) (-1)=some v:=by
 have hl:(xs++[v]).length=xs.length+1:=by simp
 have e:ixN (xs++[v]).length (-1)=some xs.length:=by
  unfold ixN;rw[hl,if_neg (by decide),if_pos (by lia)];congr 1;lia
 unfold V4;rw[e];show(xs++[v])[xs.length]? =some v;simp
def LD(b:Expr):Prop:= ∀o i,subscripted b false o i=operate [o,i] (Kw o i)
def DT(X:Cx)(r:R2):Prop:=
 ∀(value slice:Expr) (aa:List (Addr×Obj)) (s:Af) (σ:St) (H:Hp) (x y:V) (v u:Value) (Q:VK),cT X aa σ H s->cB x v->cB y u->r x y H Q→
  subscripted slice false v u=operate [v,u] (Kw v u)->wpAny (model X.prog X.w) X.A (subscriptTail value slice v u) (EP X aa σ Q) X.xe s
def MtR(X:Cx)(id:String)(r:V->List V->Hp->VK->Prop):Prop:=
 ∀(aa:List (Addr×Obj)) (s:Af) (σ:St) (H:Hp) (x:V) (xs:List V) (v:Value) (us:List Value) (Q:VK),cT X aa σ H s->cB x v->b6 xs us->r x xs H Q→
  wpAny (model X.prog X.w) X.A (call (.builtin id) (v::us)) (EP X aa σ Q) X.xe s
section
variable{X:Cx}{a b:Expr}{ta tb:TE}{pos:Pos}
theorem DT.or{r r':R2}(h:DT X r)(h':DT X r'):DT X (fun x y H Q=>r x y H Q∨r' x y H Q):=by
 intro value slice aa s σ H x y v u Q I rx ry q hs;rcases q with q|q
 ·exact h value slice aa s σ H x y v u Q I rx ry q hs
 ·exact h' value slice aa s σ H x y v u Q I rx ry q hs
theorem zHM{r:R2}(hr:DT X r)(ha:PE X a ta)(hb:PE X b tb)(hs:LD b):PE X (.Subscript a b pos) (tOp r ta tb):=by
 intro aa s σ H Q I h;exact Subscript_ (binT ha hb I h fun v u s2 x y H2 I2 rx ry q=>hr a b aa s2 σ H2 x y v u Q I2 rx ry q (hs _ _))
def rIxL(K:Ap):R2:=fun x y H Q=> ∃p xs i v,x= .ref p/\y= .int i/\X9 K H p xs/\V4 xs i=some v/\Q v H
def rIxT(K:Ap):R2:=fun x y H Q=> ∃p xs i v,x= .ref p/\y= .int i/\W9 K H p xs/\V4 xs i=some v/\Q v H
def rIxS:R2:=fun x y H Q=> ∃z i c,x= .str z/\y= .int i/\z.length<=sizeLine/\V4 z.cps.toList i=some c/\Q (.str ⟨#[c]⟩) H
theorem zBU:DT X (rIxL X.K):=by
 intro value slice aa s σ H x y v u Q I rx ry h hs;obtain⟨p,xs,i,z,rfl,rfl,hq,he,q⟩:=h;cases rx;obtain⟨t,rfl⟩:=ry;obtain⟨its,r,pl,hz⟩:=I.list hq;obtain⟨j,h1,h2,h3,h4,h5⟩:=LH he;obtain⟨w,ew,rw'⟩:=r.get h2;have hl:=r.length;have hn:=O0;have fin:EP X aa σ Q w s:=⟨z,H,I,rw',q⟩;by_cases h0:0<=i
 ·have hj:i.toNat=j:=by
   rw[seqIndex_of h0 h5] at h1;exact Ce h1
  exact item_listR pl.isList h0 (by lia) (by rw[hj];simpa using ew) fin hs
 ·have hj:(i+(its.toArray.size:Int)).toNat=j:=by
   rw[seqIndex_neg (by lia) h4] at h1;rw[As,<- hl];exact Ce h1
  exact Lq (x:=w) pl.isList.typeIs slot_list_getitem.lookup
   (wpAny_getItem_list_neg (Q:=fun r s'=>r=w/\EP X aa σ Q r s') pl.isList (by lia) (by rw[As]<;>lia) (by lia) (by rw[hj];simpa using ew) ⟨rfl,fin⟩) hs
theorem zFZ:DT X (rIxT X.K):=by
 intro value slice aa s σ H x y v u Q I rx ry h hs;obtain⟨p,xs,i,z,rfl,rfl,hq,he,q⟩:=h;cases rx;obtain⟨t,rfl⟩:=ry;obtain⟨its,r,pl,hz⟩:=I.tuple hq;obtain⟨j,h1,h2,h3,h4,h5⟩:=LH he;obtain⟨w,ew,rw'⟩:=r.get h2;have hl:=r.length;have hn:=O0;have fin:EP X aa σ Q w s:=⟨z,H,I,rw',q⟩;exact Lq (x:=w) pl.typeIs slot_tuple_getitem.lookup
  (getItem_tuple (j:=j) (Q:=fun r s'=>r=w/\EP X aa σ Q r s') pl (by lia) (by lia) (by rw[As,<- hl];exact h1) (by simpa using ew) ⟨rfl,fin⟩) hs
theorem zG0:DT X rIxS:=by
 intro value slice aa s σ H x y v u Q I rx ry h hs;obtain⟨z,i,c,rfl,rfl,hz,he,q⟩:=h;obtain⟨t,rfl⟩:=rx;obtain⟨t',rfl⟩:=ry;obtain⟨j,h1,h2,h3,h4,h5⟩:=LH he;have hl:z.cps.toList.length=z.length:=by simp[Str.length]
 rw[hl] at h1 h4 h5;have hn:=O0;exact Rv (typeIs_str s z t) slot_str_getitem.lookup (getItem_str (c:=c) (by
  have e1:decide (i< -(2 ^ 63:Int))=false:=decide_eq_false (by lia);have e2:decide (i≥2 ^ 63)=false:=decide_eq_false (by lia);rw[e1,e2,Bool.or_false]) (by rw[h1];simpa using h2) ⟨.str ⟨#[c]⟩,H,I.tok _,⟨_,rfl⟩,q⟩) hs
def rIx(K:Ap):R2:=fun x y H Q=>rIxL K x y H Q∨rIxT K x y H Q∨rIxS x y H Q
theorem zG1:DT X (rIx X.K):=zBU.or (zFZ.or zG0)
theorem MB(lo hi:Option Int)(n:Nat):(Ic lo hi none n).1=((HT.sIx n 0 lo:Nat):Int)/\(Ic lo hi none n).2.1=((HT.sIx n n hi:Nat):Int)/\(Ic lo hi none n).2.2=1:=by
 refine⟨?_,?_,rfl⟩
 ·cases lo with
  |none=>simp[Ic,HT.sIx]
  |some i=>
   simp only[Ic,HT.sIx,Pl,show(1:Int)>0 by decide,if_true];by_cases h:i<0
   ·simp only[h,if_true]<;>lia
   ·simp only[h,if_false]<;>lia
 ·cases hi with
  |none=>simp[Ic,HT.sIx]
  |some i=>
   simp only[Ic,HT.sIx,Pl,show(1:Int)>0 by decide,if_true];by_cases h:i<0
   ·simp only[h,if_true]<;>lia
   ·simp only[h,if_false]<;>lia
theorem N9(its:List Value)(lo hi:Option Int):slicePick its.toArray lo hi none=((its.drop (HT.sIx its.length 0 lo)).take (HT.sIx its.length its.length hi - HT.sIx its.length 0 lo)).toArray:=by
 obtain⟨h1,h2,h3⟩:=MB lo hi its.toArray.size;unfold slicePick;rw[h1,h2,h3];simp only[sliceRange_one,pick_run,As]<;>rfl
def rSlL(K:Ap):V->Option Int->Option Int->Hp->VK->Prop:=fun x lo hi H Q=> ∃a xs,x= .ref a/\X9 K H a xs/\ ∀p,H p=none->Q (.ref p) (bH H p (.lst (JP xs lo hi)))
theorem zAR:SlR X (rSlL X.K):=by
 intro aa s σ H x v vl vu lo hi sl Q I rx hs pl pu h;obtain⟨a,xs,rfl,hx,q⟩:=h;cases rx;obtain⟨its,r,ht,hz⟩:=I.list hx;have ae:=r.length;refine⟨"list",_,slot_list_getitem.lookup,ht.isList.typeIs,?_⟩;refine wpAny_getItem_list_slice ht.isList hs pl pu .none (by simp) ?_ (by rw[As]<;>lia);rw[N9,<- ae];refine⟨.ref s.heap.objs.size,_,I.laid (t':=s.toks) (o:= .lst (JP xs lo hi)) (fun b ob q=>Ac _ q) (Ag _) ?_,rfl,q _ (I.hok.fresh (Ag _))⟩;exact⟨Bu (QX xs lo hi) hz,_,0,(r.drop (HT.sIx xs.length 0 lo)).take (HT.sIx xs.length xs.length hi - HT.sIx xs.length 0 lo),Aq _ rfl⟩
theorem LK:aY X (.builtin "len") (fun xs H Q=> ∃p ys,xs=[.ref p]/\(X9 X.K H p ys∨W9 X.K H p ys)/\Q (.int ys.length) H):=by
 intro aa s σ H xs us Q I r h;obtain⟨p,ys,rfl,hq,q⟩:=h;obtain⟨u,rfl,rx⟩:=WB r;cases rx;have hn:=O0;rcases hq with hq|hq
 ·obtain⟨its,r',pl,hz⟩:=I.list hq
  have ae:=r'.length;exact Calls.call_len_list pl.isList (by simp only[As]<;>lia) ⟨.int ys.length,H,I.tok _,⟨s.toks+1,by rw[As,ae]⟩,q⟩
 ·obtain⟨its,r',pl,hz⟩:=I.tuple hq
  have ae:=r'.length;exact len_tuple pl (by simp only[As]<;>lia) ⟨.int ys.length,H,I.tok _,⟨s.toks+1,by rw[As,ae]⟩,q⟩
theorem LL:aY X (.builtin "len") (fun xs H Q=> ∃z,xs=[.str z]/\z.length<=sizeLine/\Q (.int z.length) H):=by
 intro aa s σ H xs us Q I r h;obtain⟨z,rfl,hz,q⟩:=h;obtain⟨u,rfl,t,rfl⟩:=WB r;have hn:=O0;exact len_str (by lia) ⟨.int z.length,H,I.tok _,⟨_,rfl⟩,q⟩
theorem aY.or{f:Value}{r r':List V->Hp->VK->Prop}(h:aY X f r)(h':aY X f r'):aY X f (fun xs H Q=>r xs H Q∨r' xs H Q):=by
 intro aa s σ H xs us Q I rs q;rcases q with q|q
 ·exact h aa s σ H xs us Q I rs q
 ·exact h' aa s σ H xs us Q I rs q
theorem LM:aY X (.type "list") (fun xs H Q=> ∃p ys,xs=[.ref p]/\(X9 X.K H p ys∨W9 X.K H p ys)/\ ∀l,H l=none->Q (.ref l) (bH H l (.lst ys))):=by
 intro aa s σ H xs us Q I r h;obtain⟨p,ys,rfl,hq,q⟩:=h;obtain⟨u,rfl,rx⟩:=WB r;cases rx;have fin: ∀(its:List Value),b6 ys its->ys.length<=sizeLine-> ∀(h':Heap) (c':Nat),(∀b o',s.heap.get? b=some o'->h'.get? b=some o')→
   h'.get? s.heap.objs.size=some {cls:= .type "list",dict:=none,data:= .seq its.toArray c',slots:= #[]}->EP X aa σ Q (.ref s.heap.objs.size) {s with heap:=h'}:=fun its r' hz h' c' kp e=>
  ⟨.ref s.heap.objs.size,_,I.laid (t':=s.toks) kp (Ag _) (show aC X.prog X.w _ h' _ (.lst ys) from⟨hz,its,c',r',e⟩),rfl,q _ (I.hok.fresh (Ag _))⟩
 rcases hq with hq|hq
 ·obtain⟨its,r',pl,hz⟩:=I.list hq
  have ae:=r'.length;obtain⟨o,ho,hc,n,hd⟩:=pl.isList;exact call_list_seq p (.inl rfl) ho hc hd (fun h' c' kp e=>fin its r' hz h' c' kp e) (by simp only[As]<;>lia)
 ·obtain⟨its,r',pl,hz⟩:=I.tuple hq
  have ae:=r'.length;obtain⟨o,ho,hc,n,hd⟩:=pl;exact call_list_seq p (.inr rfl) ho hc hd (fun h' c' kp e=>fin its r' hz h' c' kp e) (by simp only[As]<;>lia)
theorem NZ:aY X (.type "tuple") (fun xs H Q=> ∃p ys,xs=[.ref p]/\((X9 X.K H p ys/\ ∀l,H l=none->Q (.ref l) (bH H l (.tup ys)))∨(W9 X.K H p ys/\Q (.ref p) H))):=by
 intro aa s σ H xs us Q I r h;obtain⟨p,ys,rfl,h⟩:=h;obtain⟨u,rfl,rx⟩:=WB r;cases rx;rcases h with⟨hq,q⟩|⟨hq,q⟩
 ·obtain⟨its,r',pl,hz⟩:=I.list hq
  have ae:=r'.length;refine call_tuple_list pl.isList (fun h' kp=> ?_) (by simp only[As]<;>lia);have I1:cT X aa σ H {s with heap:=h'}:=I.kept (t':=s.toks) kp;have I2:cT X aa σ (bH H h'.objs.size (.tup ys)) {s with heap:=h'.push {cls:= .type "tuple",data:= .seq its.toArray}}:=
   I1.laid (t':=s.toks) (fun b o e=>Ac _ e) (Ag _) (show aC X.prog X.w _ _ _ (.tup ys) from⟨hz,its,r',Kh _ _⟩)
  exact⟨.ref h'.objs.size,_,I2,rfl,q _ (I1.hok.fresh (Ag _))⟩
 ·obtain⟨its,r',pl,hz⟩:=I.tuple hq
  exact call_tuple_same pl ⟨.ref p,H,I,rfl,q⟩
def tyV(K:Ap)(T:String)(x:V)(H:Hp):Prop:=match x with
 | .str _=>T= "str"
 | .int _=>T= "int"
 | .ref p => (T = "list" /\ ∃ xs,X9 K H p xs) ∨ (T = "tuple" /\ ∃ o,K.lookup p = some o /\ o.cls = .type "tuple" /\ o.dict = none) ∨
   (T= "dict" /\((∃kvs,H p=some (.dK kvs))∨ ∃kvs,H p=some (.dT kvs)))∨(T= "set" /\ ∃S n,H p=some (.set S n))
 |_=>False
theorem zDA{aa:List (Addr×Obj)}{σ:St}{H:Hp}{s:Af}{T:String}{x:V}{v:Value}(I:cT X aa σ H s)(r:cB x v)(ty:tyV X.K T x H):
  s.TypeIs v T/\ ∀a,v= .ref a-> ∃ob,s.heap.get? a=some ob/\ob.dict=none:=by
 cases x with
 |str z=>
  obtain⟨t,rfl⟩:=r;cases (show T= "str" from ty);exact⟨typeIs_str s z t,fun _ e=>nomatch e⟩
 |int i=>
  obtain⟨t,rfl⟩:=r;cases (show T= "int" from ty);exact⟨typeIs_int s i t,fun _ e=>nomatch e⟩
 |ref p=>
  cases r;rcases ty with⟨rfl,xs,hq⟩|⟨rfl,o,hk,hc,hd⟩|⟨rfl,hk⟩|⟨rfl,S,n,hk⟩
  ·obtain⟨its,_,pl,_⟩:=I.list hq
   refine⟨pl.isList.typeIs,fun a e=> ?_⟩;cases e;obtain⟨o,n,e,c,hd,_⟩:=pl;exact⟨o,e,hd⟩
  ·refine ⟨⟨o,I.kIn p o hk,hc⟩,fun a e => ?_⟩
   cases e;exact⟨o,I.kIn _ o hk,hd⟩
  ·have z: ∃o,s.heap.get? p=some o/\o.ExactDict:=by
    rcases hk with⟨kvs,hk⟩|⟨kvs,hk⟩
    ·obtain⟨_,_,_,_,o,_,_,e,ex,_⟩:=I.hok p _ hk
     exact⟨o,e,ex⟩
    ·obtain⟨_,_,_,_,o,_,_,e,ex,_⟩:=I.hok p _ hk
     exact⟨o,e,ex⟩
   obtain⟨o,e,ex⟩:=z;refine⟨⟨o,e,ex.1⟩,fun a e2=> ?_⟩;cases e2;exact⟨o,e,ex.2.1⟩
  ·obtain⟨o,_,_,_,e,ex,_⟩:=I.hok p _ hk
   refine⟨⟨o,e,ex.1⟩,fun a e2=> ?_⟩;cases e2;exact⟨o,e,ex.2.1⟩
 |_=>exact Gw ty
def tBM(K:Ap)(T:String)(r:V->List V->Hp->VK->Prop)(to:TE)(t:TA):TE:=fun σ H Q=>to σ H fun x H1=>tyV K T x H1/\t σ H1 fun xs H2=>r x xs H2 Q
variable{o e:Expr}{es:List Expr}{to:TE}{t:TA}{name:Str}{am ag:Pos}{T id:String}{r:V->List V->Hp->VK->Prop}
theorem zHN(pa:PlainAttrs T)(slot:Slot T name id)(hty:typeOf (.builtin id)=pure (.type "method_descriptor")) (hm:MtR X id r) (ho:PE X o to) (ha:PA X (e::es) t)
  (cm:Hs o name X.env (eval o X.env)=eval o X.env:=by rfl)
  (dr : ((Gc ag (Aj (e :: es) X.env)).all (fun x => !x.1) && (Nr ag (Jg [] X.env)).all (fun x => x.1.isSome)
   && decide ((e::es).length+([]:List Jh).length+(if([]:List Jh).isEmpty then 0 else 1)<30))=true:=by rfl)
  (cf:(am.endLine==ag.line)=true:=by rfl) (hs:Aj (e::es) X.env=(false,eval e X.env)::Aj es X.env:=by rfl) (bh:(Gc ag (Aj es X.env)).any (·.1)=false:=by rfl):
  PE X (.Call (.Attribute o name am) (e::es) [] ag) (tBM X.K T r to t):=by
 intro aa s σ H Q I h;refine wpAny_Call_method_late cm dr cf rfl (ZX (ho aa s σ H _ I h) fun v s1 ⟨x,H1,I1,r1,ty,q1⟩=> ?_);obtain⟨h1,h2⟩:=zDA I1 r1 ty;refine⟨T,id,pa,slot,hty,h1,h2,?_⟩;have hA:=ha ag aa s1 σ H1 _ I1 q1;rw[hs] at hA⊢;refine Gh (by show(false || (Gc ag (Aj es X.env)).any (·.1))=false;rw[bh]<;>rfl) (Hc ?_);exact ZX hA fun us s2 ⟨vs,H2,I2,r2,q2⟩=>hm aa s2 σ H2 x vs v us Q I2 r1 r2 q2
end
def MtM(X:Cx)(id:String)(r:V->List V->Hp->VK->Prop):Prop:=
 ∀(aa:List (Addr×Obj)) (s:Af) (σ:St) (H:Hp) (x:V) (xs:List V) (v:Value) (us:List Value) (Q:VK),cT X aa σ H s->cB x v->b6 xs us->r x xs H Q→
  wpAny (model X.prog X.w) X.A (call (.builtin id) (v::us)) (EP X aa σ Q) X.xe s
theorem b6.one: ∀{x:V} {us:List Value},b6 [x] us-> ∃u,us=[u]/\cB x u
 |_,_,.cons r .nil=>⟨_,rfl,r⟩
theorem b6.eraseIdx: ∀{xs:List V} {us:List Value} (i:Nat),b6 xs us->b6 (xs.eraseIdx i) (us.eraseIdx i)
 |_,_,_,.nil=> .nil
 |_,_,0,.cons _ t=>t
 |_,_,i+1,.cons r t=> .cons r (b6.eraseIdx i t)
section
variable{X:Cx}{aa:List (Addr×Obj)}{σ:St}{H:Hp}{s:Af}{l b:Addr}{xs ys zs:List V}
theorem cT.lset{its its':List Value}{n:Nat}{f:Array Value->Array Value}{t':Nat}(I:cT X aa σ H s)(hH:H l=some (.lst xs))
  (e:s.heap.get? l=some {cls:= .type "list",data:= .seq its.toArray n}) (hf:f its.toArray=its'.toArray) (hv:b6 ys its') (hz:ys.length<=sizeLine):
  cT X aa σ (bH H l (.lst ys)) {s with heap:=s.heap.update l (Ft f),toks:=t'}:=by
 have q:=PySem.IsL.update e f;rw[hf] at q;refine I.write (x:=l) (e:=l) (by rw[hH];exact trivial) (.inl rfl) (fun b' u hb hu=>(Heap.get?_update_other s.heap (Ft f) (Dk hb)).trans hu) ⟨_,q⟩ ?_;exact⟨hz,its',_,hv,q⟩
theorem cT.lnew{its:List Value}{t':Nat}(I:cT X aa σ H s)(hv:b6 ys its)(hz:ys.length<=sizeLine):
  cT X aa σ (bH H s.heap.objs.size (.lst ys)) {s with heap:=s.heap.push {cls:= .type "list",data:= .seq its.toArray},toks:=t'}:=
 I.laid (fun _ _ q=>Ac _ q) (Ag _) ⟨hz,its,0,hv,Aq _ rfl⟩
theorem cT.fresh(I:cT X aa σ H s):H s.heap.objs.size=none:=I.hok.fresh (Ag _)
theorem cT.lstM(I:cT X aa σ H s)(hH:H l=some (.lst xs)):xs.length<=sizeLine/\ ∃(its:List Value) (n:Nat),b6 xs its/\xs.length=its.length/\s.heap.get? l=some {cls:= .type "list",data:= .seq its.toArray n}:=by
 obtain⟨z,its,n,r,e⟩:=I.hok l _ hH;exact⟨z,its,n,r,r.length,e⟩
end
section
variable{X:Cx}
def G0:V->List V->Hp->VK->Prop:=fun x vs H Q=> ∃l xs y,x= .ref l/\vs=[y]/\H l=some (.lst xs)/\xs.length<sizeLine/\Q .non (bH H l (.lst (xs++[y])))
theorem bM:MtM X "list.append" G0:=by
 intro aa s σ H x vs v us Q I rx rv h;obtain⟨l,xs,y,rfl,rfl,hH,hz,q⟩:=h;cases rx;obtain⟨u,rfl,ru⟩:=rv.one;obtain⟨z,its,n,r,hl,e⟩:=I.lstM hH;refine Oj F.slot_list_append ⟨_,e,rfl⟩ F.entry_list_append (F.args_list_append_2 _ _) (PySem.list_append l its.toArray n u (by rw[As];lia)) ⟨e,?_⟩;refine⟨.non,_,I.lset (its':=its++[u]) hH e (by simp) (r.append (.cons ru .nil)) ?_,rfl,q⟩;rw[Cd,Ff];lia
end
section
variable{prog:Bk}{w:World}{A:Cz}{E:Value->Af->Prop}{s:Af}
set_option maxRecDepth 100000 in
end
section
variable{κ:Type}[DecidableEq κ]
noncomputable def UO(kvs:List (κ×V))(k:κ):Option V:=(kvs.find? fun kv=>decide (kv.1=k)).map (·.2)
noncomputable def X8(kvs:List (κ×V))(k:κ)(v:V):List (κ×V):=
 if(kvs.any fun kv=>decide (kv.1=k))=true then kvs.map (fun kv=>if kv.1=k then(kv.1,v) else kv) else kvs++[(k,v)]
theorem TU{p:κ×V}{r:List (κ×V)}{k:κ}(e:p.1=k):UO (p::r) k=some p.2:=by simp[UO,Gr,e]
theorem V0{p:κ×V}{r:List (κ×V)}{k:κ}(e: ¬p.1=k):UO (p::r) k=UO r k:=by simp[UO,Gr,e]
theorem P4(k:κ): ∀kvs:List (κ×V),(kvs.any fun kv=>decide (kv.1=k))=(UO kvs k).isSome
 |[]=>rfl
 |p::r=>by
  rw[Ha];by_cases e:p.1=k
  ·simp only[TU e,decide_eq_true e,Bool.true_or,Nt]
  ·rw[V0 e,decide_eq_false e,Rw];exact P4 k r
theorem Q0(kvs:List (κ×V))(k:κ)(v:V):(X8 kvs k v).length<=kvs.length+1:=by
 unfold X8;split
 ·rw[Bz];lia
 ·rw[Cd,Bm,Mb];lia
theorem BO{kvs:List (κ×V)}{k:κ}(v:V)(h:UO kvs k=none):X8 kvs k v=kvs++[(k,v)]:=by
 unfold X8;rw[P4,h];exact if_neg (by decide)
theorem RF.isSome_eq{o:Option V}{u:Option Value}(r:RF o u):o.isSome=u.isSome:=by
 cases o with
 |none=>cases u with
  |none=>rfl
  |some _=>exact(show False from r).elim
 |some _=>cases u with
  |none=>exact(show False from r).elim
  |some _=>rfl
theorem RF.getD{o:Option V}{u:Option Value}{d:V}{d':Value}(r:RF o u)(rd:cB d d'):cB (o.getD d) (u.getD d'):=by
 cases o with
 |none=>cases u with
  |none=>exact rd
  |some _=>exact(show False from r).elim
 |some _=>cases u with
  |none=>exact(show False from r).elim
  |some _=>exact r
theorem KV.val{kvs:List (κ×V)}{vs:List (κ×Value)}(r:KV kvs vs)(k:κ):RF (UO kvs k) (Ol vs k):=by
 unfold KV at r;induction r with
 |nil=>exact True.intro
 | @cons p q ps qs h t ih=>
  obtain⟨h1,h2⟩:=h;by_cases e:p.1=k
  ·have e':q.1=k:=h1.symm.trans e
   have b:Ol (q::qs) k=some q.2:=by simp[Ol,Gr,e']
   rw[TU e,b];exact h2
  ·have e' : ¬ q.1 = k := fun z => e (h1.trans z)
   have b:Ol (q::qs) k=Ol qs k:=by simp[Ol,Gr,e']
   rw[V0 e,b];exact ih
theorem KV.any{kvs:List (κ×V)}{vs:List (κ×Value)}(r:KV kvs vs)(k:κ):(kvs.any fun kv=>decide (kv.1=k))=vs.any fun kv=>decide (kv.1=k):=by
 unfold KV at r;induction r with
 |nil=>rfl
 |cons h t ih=>rw[Ha,Ha,ih,h.1]
theorem KV.repl{kvs:List (κ×V)}{vs:List (κ×Value)}(r:KV kvs vs)(k:κ){y:V}{u:Value}(ry:cB y u):
  KV (kvs.map fun kv=>if kv.1=k then(kv.1,y) else kv) (vs.map fun kv=>if kv.1=k then(kv.1,u) else kv):=by
 unfold KV at r⊢;induction r with
 |nil=>exact .nil
 | @cons p q ps qs h t ih=>
  rw[Az,Az];refine .cons ?_ ih;obtain⟨h1,h2⟩:=h;by_cases e:p.1=k
  ·rw[if_pos e,if_pos (h1.symm.trans e)];exact⟨h1,ry⟩
  ·rw[if_neg e,if_neg (fun z=>e (h1.trans z))];exact⟨h1,h2⟩
theorem KV.put{kvs:List (κ×V)}{vs:List (κ×Value)}(r:KV kvs vs)(k:κ){y:V}{u:Value}(ry:cB y u):KV (X8 kvs k y) (Sf vs k u):=by
 unfold X8 Sf;rw[r.any k];by_cases e:(vs.any fun kv=>decide (kv.1=k))=true
 ·rw[if_pos e,if_pos e];exact r.repl k ry
 ·rw[if_neg e,if_neg e];exact Sv r ⟨rfl,ry⟩
theorem KV.length{kvs:List (κ×V)}{vs:List (κ×Value)}(r:KV kvs vs):kvs.length=vs.length:=Nl r
end
theorem M6{P:Bk}{w:World}{k:a0}{u:Value}(r:cB (kV k) u):(bG P w).is k u=true:=by
 cases k with
 |inl i=>obtain⟨t,e⟩:=(show∃t,u=Qc i t from r);subst e;exact J6 P w i t
 |inr x=>obtain⟨t,e⟩:=(show∃t,u=Qd x t from r);subst e;exact J7 P w x t
theorem M5{P:Bk}{w:World}: ∀{ks:List a0} {us:List Value},b6 (ks.map kV) us->ItemsAre (bG P w) ks us
 |[],_,r=>by rw[Eg] at r;cases r;exact .nil
 |k::ks,_,r=>by
  rw[Az] at r;cases r with
  |cons h t=>exact .cons (M6 h) (M5 t)
abbrev KT(H:Hp):List (List a0×V)->List (List a0×Addr×Value)->Prop:=Paired fun p q=>p.1=q.1/\H q.2.1=some (.tup (p.1.map kV))/\cB p.2 q.2.2
theorem KT.val{H:Hp}{kvs:List (List a0×V)}{xs:List (List a0×Addr×Value)}(r:KT H kvs xs)(k:List a0):RF (UO kvs k) ((atKey xs k).map (·.2)):=by
 induction r with
 |nil=>exact True.intro
 | @cons p q ps qs h t ih=>
  obtain⟨h1,_,h2⟩:=h;by_cases e:p.1=k
  ·have e':q.1=k:=h1.symm.trans e
   have b:atKey (q::qs) k=some q.2:=by simp[atKey,Gr,e']
   rw[TU e,b];exact h2
  ·have e' : ¬ q.1 = k := fun z => e (h1.trans z)
   have b:atKey (q::qs) k=atKey qs k:=by simp[atKey,Gr,e']
   rw[V0 e,b];exact ih
theorem KT.repl{H:Hp}{kvs:List (List a0×V)}{xs:List (List a0×Addr×Value)}(r:KT H kvs xs)(k:List a0){y:V}{u:Value}(ry:cB y u):
  KT H (kvs.map fun kv=>if kv.1=k then(kv.1,y) else kv) (xs.map (putAt k u)):=by
 induction r with
 |nil=>exact .nil
 | @cons p q ps qs h t ih=>
  rw[Az,Az];refine .cons ?_ ih;obtain⟨h1,h2,h3⟩:=h;unfold putAt;by_cases e:p.1=k
  ·rw[if_pos e,if_pos (h1.symm.trans e)];exact⟨h1,h2,ry⟩
  ·rw[if_neg e,if_neg (fun z=>e (h1.trans z))];exact⟨h1,h2,h3⟩
theorem KT.put{H:Hp}{kvs:List (List a0×V)}{xs:List (List a0×Addr×Value)}(r:KT H kvs xs)(k:List a0){b:Addr}{y:V}{u:Value}(hb:H b=some (.tup (k.map kV)))(ry:cB y u):
  KT H (X8 kvs k y) (storedH xs k b u):=by
 have e:(kvs.any fun kv=>decide (kv.1=k))=(atKey xs k).isSome:=by rw[P4,(r.val k).isSome_eq,Option.isSome_map]
 unfold X8 storedH;rw[e];by_cases q:(atKey xs k).isSome=true
 ·rw[if_pos q,if_pos q];exact r.repl k ry
 ·rw[if_neg q,if_neg q];exact Sv r ⟨rfl,hb,ry⟩
theorem KT.keeps{H H':Hp}{kvs:List (List a0×V)}{xs:List (List a0×Addr×Value)}(r:KT H kvs xs)(ht: ∀b ys,H b=some (.tup ys)->H' b=some (.tup ys)):KT H' kvs xs:=
 Paired.mapP r fun _ _ z=>⟨z.1,ht _ _ z.2.1,z.2.2⟩
section
variable{P:Bk}{w:World}{H:Hp}{h:Heap}{a:Addr}
theorem zCE{u:HO}(ok:T3 P w H h)(e:Rd H a u):aC P w H h a u:=e.ok ok
theorem MU{kvs:List (a0×V)}(ok:T3 P w H h)(e:Rd H a (.dK kvs)):kvs.length<=sizeLine/\(a==Fm)=false/\ ∃vs,KV kvs vs/\h.DictOf (bG P w) a vs:=
 show aC P w H h a (.dK kvs) from zCE ok e
theorem zIS{kvs:List (a0×V)}(ok:T3 P w H h)(e:H a=some (.dK kvs)):kvs.length<=sizeLine/\(a==Fm)=false/\ ∃vs,KV kvs vs/\h.DictOf (bG P w) a vs:=MU ok (.inl e)
theorem OZ{ks:List a0}(ok:T3 P w H h)(e:H a=some (.tup (ks.map kV))):(tupleKind (bG P w)).is h ks a:=by
 obtain⟨_,its,r,o,h1,h2,n,h3⟩:=(show aC P w H h a (.tup (ks.map kV)) from ok a _ e);exact⟨o,its.toArray,n,h1,h2,h3,by simpa using M5 r⟩
theorem MW{kvs:List (List a0×V)}(ok:T3 P w H h)(e:Rd H a (.dT kvs)):kvs.length<=sizeLine/\(a==Fm)=false∧
  ∃xs,KT H kvs xs/\h.DictOfH (tupleKind (bG P w)) a xs:=by
 obtain⟨z,y,xs,r,o,es,ep,h1,h2,h3,h4,h5⟩:=(show aC P w H h a (.dT kvs) from zCE ok e);refine⟨z,y,xs,r,o,es,ep,h1,h2,h3,h4,fun x hx=> ?_,h5⟩;have all: ∀{l:List (List a0×V)} {m:List (List a0×Addr×Value)},KT H l m-> ∀x∈m,(tupleKind (bG P w)).is h x.1 x.2.1:=by
  intro l m q;induction q with
  |nil=>intro x hx;exact nomatch hx
  | @cons p q ps qs hq t ih=>
   intro x hx;rcases Ak.mp hx with e|hx
   ·subst e
    exact OZ ok (by rw[<- hq.1];exact hq.2.1)
   ·exact ih x hx
 exact all r x hx
theorem zIR{kvs:List (List a0×V)}(ok:T3 P w H h)(e:H a=some (.dT kvs)):kvs.length<=sizeLine/\(a==Fm)=false∧
  ∃xs,KT H kvs xs/\h.DictOfH (tupleKind (bG P w)) a xs:=MW ok (.inl e)
end
def RB(H:Hp)(a:Addr)(y:V)(r:Option V):Prop:=
 (∃kvs k,Rd H a (.dK kvs)/\y=kV k/\r=UO kvs k)∨ ∃kvs k b,Rd H a (.dT kvs)/\y= .ref b/\H b=some (.tup (k.map kV))/\r=UO kvs k
def DPut(H:Hp)(a:Addr)(y v:V)(H':Hp):Prop:=
 (∃kvs k,H a=some (.dK kvs)/\y=kV k/\kvs.length<sizeLine/\H'=bH H a (.dK (X8 kvs k v)))∨
 ∃kvs k b,H a=some (.dT kvs)/\y= .ref b/\H b=some (.tup (k.map kV))/\kvs.length<sizeLine/\H'=bH H a (.dT (X8 kvs k v))
theorem RB.k{H:Hp}{a:Addr}{kvs:List (a0×V)}{k:a0}(e:H a=some (.dK kvs)):RB H a (kV k) (UO kvs k):= .inl ⟨kvs,k,.inl e,rfl,rfl⟩
theorem DPut.k{H:Hp}{a:Addr}{kvs:List (a0×V)}{k:a0}{v:V}(e:H a=some (.dK kvs))(hl:kvs.length<sizeLine):DPut H a (kV k) v (bH H a (.dK (X8 kvs k v))):= .inl ⟨kvs,k,e,rfl,hl,rfl⟩
section
variable{X:Cx}{aa:List (Addr×Obj)}{σ:St}{H:Hp}{s:Af}{a:Addr}{y v:V}{u r:Value}{o:Option V}{A:Cz}{E:Value->Af->Prop}
theorem cT.big(I:cT X aa σ H s):Fm<s.heap.objs.size:=by
 have h:mainGlobals<s.heap.objs.size:=(I.mod.glob.keeps I.bk).lt;exact Pc (by decide) h
theorem EA{Q:Value->Af->Prop}(hu:A.units+1<cLine)(I:cT X aa σ H s)(g:RB H a y (some v))(ry:cB y u)(h: ∀w' s',cT X aa σ H s'->cB v w'->Q w' s'):
  wpAny (model X.prog X.w) A (Kw (.ref a) u) Q E s:=by
 rcases g with⟨kvs,k,e,ey,l⟩|⟨kvs,k,b,e,ey,eb,l⟩
 ·subst ey
  obtain⟨z,hd,vs,rel,dd⟩:=MU I.hok e;obtain⟨w',hw,rw'⟩:=RF.some_of (v:=v) (o:=Ol vs k) (by rw[l];exact rel.val k);exact wpAny_getItem_of (M6 ry) dd.mapOf hw (h w' _ (I.tok _) rw')
 ·subst ey
  cases (show u=Bn b from ry);obtain⟨z,hd,xs,rel,dd⟩:=MW I.hok e;obtain⟨w',hw,rw'⟩:=RF.some_of (v:=v) (o:=(atKey xs k).map (·.2)) (by rw[l];exact rel.val k);obtain⟨p,hp,hp2⟩:=Option.map_eq_some_iff.mp hw;refine wpAny_getItem_heap (Ht hu) (OZ I.hok eb) dd hp ?_;rw[hp2];exact h w' _ (I.tok _) rw'
theorem FZ{h':Heap}{t':Nat}{ob:HO}(I:cT X aa σ H s)(mu:Mut (H a))(hs:Fd a s.heap h')(he: ∃q,h'.get? a=some q)(new:aC X.prog X.w (bH H a ob) h' a ob):
  cT X aa σ (bH H a ob) {s with heap:=h',toks:=t'}:=
 I.write (x:=a) (e:=a) mu (.inl rfl) (fun b q hb z=>(hs.2 b hb).trans z) he new
theorem zA8{P:Bk}{w:World}{H':Hp}{h':Heap}{kvs:List (a0×V)}{vs:List (a0×Value)}(z:kvs.length<=sizeLine)(hd:(a==Fm)=false)(rel:KV kvs vs)(dd:h'.DictOf (bG P w) a vs):
  aC P w H' h' a (.dK kvs):=⟨z,hd,vs,rel,dd⟩
theorem EB{H':Hp}{Q:Unit->Af->Prop}(hu:A.units+1<cLine)(I:cT X aa σ H s)(g:DPut H a y v H')(ry:cB y u)(rv:cB v r)(h: ∀s',cT X aa σ H' s'->Q () s'):
  wpAny (model X.prog X.w) A (setItem (.ref a) u r) Q E s:=by
 rcases g with⟨kvs,k,e,ey,l,eH⟩|⟨kvs,k,b,e,ey,eb,l,eH⟩
 ·subst ey eH
  obtain⟨z,hd,vs,rel,dd⟩:=zIS I.hok e;have hz:vs.length<=sizeLine:=by rw[<- rel.length];exact z
  have hl:(X8 kvs k v).length<=sizeLine:=by have:=Q0 kvs k v;lia
  refine wpAny_setItem_pairs (hsz:=hz) (M6 ry) dd fun h' dd' hs=>h _ ?_;have he: ∃q,h'.get? a=some q:=let ⟨q,_,_,hq,_⟩:=dd';⟨q,hq⟩
  exact FZ I (by rw[e];exact True.intro) hs he (zA8 hl hd (rel.put k rv) dd')
 ·subst ey eH
  cases (show u=Bn b from ry);obtain⟨z,hd,xs,rel,dd⟩:=zIR I.hok e;have hz:xs.length<=sizeLine:=by rw[<- Nl rel];exact z
  have hl:(X8 kvs k v).length<=sizeLine:=by have:=Q0 kvs k v;lia
  refine wpAny_setItem_heap (hsz:=hz) (Ht hu) (OZ I.hok eb) dd fun h' dd' hs=>h _ ?_;obtain⟨q,es,ep,hq,h2,h3,h4,_,h5⟩:=dd';refine FZ I (by rw[e];exact True.intro) hs ⟨q,hq⟩ ⟨hl,hd,_,(rel.put k eb rv).keeps fun c ys ec=> ?_,q,es,ep,hq,h2,h3,h4,h5⟩;rw[b7 (zI2 ec e (fun z=>nomatch z))];exact ec
end
theorem JR{X:Cx}{aa:List (Addr×Obj)}{σ:St}{H:Hp}{s:Af}{a:Addr}{y:V}{o:Option V}(I:cT X aa σ H s)(g:RB H a y o):s.TypeIs (.ref a) "dict":=by
 rcases g with⟨kvs,k,e,_,_⟩|⟨kvs,k,b,e,_,_,_⟩
 ·obtain⟨_,_,vs,_,dd⟩:=MU I.hok e
  exact dd.typeIs
 ·obtain⟨_,_,xs,_,dd⟩:=MW I.hok e
  exact dd.typeIs
def zH9(td ty tv:TE):TS:=fun D σ H=>tv σ H fun v H1=>td σ H1 fun x H2=>ty σ H2 fun y H3=> ∃a H4,x= .ref a/\DPut H3 a y v H4/\D.nx σ H4
section
variable{X:Cx}{o i e value:Expr}{pos cb d9:Pos}{td ty tv:TE}
theorem zB4(hu:X.A.units+1<cLine)(ho:PE X o td)(hi:PE X i ty)(hv:PE X value tv)(hs:Gp value (some (.Subscript o i cb)) pos.line X.env=pure false):
  PS X (.Assign [.Subscript o i cb] value pos) (zH9 td ty tv):=by
 intro aa s σ H D I h;refine wpAny_Assign_Subscript (ZX (hv aa s σ H _ I h) fun r s1 ⟨v,H1,I1,rv,q1⟩=>ZX (ho aa s1 σ H1 _ I1 q1) fun u s2 ⟨x,H2,I2,rx,q2⟩=>ZX (hi aa s2 σ H2 _ I2 q2) fun iv s3 ⟨y,H3,I3,ry,a,H4,ex,g,q3⟩=> ?_) hs;subst ex;obtain rfl:u=Bn a:=rx;exact EB hu I3 g ry rv fun s4 I4=>⟨σ,H4,I4,q3⟩
end
theorem zA9{P:Bk}{w:World}{H:Hp}(h:Heap)(hb:Fm<h.objs.size):aC P w H (h.push {cls:= .type "dict",data:= .dict #[]}) h.objs.size (.dK []):=
 ⟨Cr _,beq_eq_false_iff_ne.mpr (Dk (Bd hb)),[],.nil,Qk h⟩
def zDG:TE:=fun _ H Q=> ∀p,H p=none->Q (.ref p) (bH H p (.dK []))
section
variable{X:Cx}{pos:Pos}
theorem BD:PE X (.Dict [] [] pos) zDG:=fun aa s σ H Q I h=>
 wpAny_Dict_empty ⟨.ref s.heap.objs.size,_,I.laid (a:=s.heap.objs.size) (o:= .dK []) (t':=s.toks) (fun _ _ q=>Ac _ q) (Ag _) (zA9 s.heap I.big),rfl,h _ (I.hok.fresh (Ag _))⟩
end
def O9(kvs more:List (a0×V)):List (a0×V):=more.foldl (fun acc kv=>X8 acc kv.1 kv.2) kvs
theorem KV.merge: ∀{more:List (a0×V)} {rs:List (a0×Value)} {kvs:List (a0×V)} {vs:List (a0×Value)},KV more rs->KV kvs vs->KV (O9 kvs more) (merged vs rs):=by
 intro more rs kvs vs r;unfold KV at r;induction r generalizing kvs vs with
 |nil=>intro q;exact q
 | @cons p q ps qs h t ih=>
  intro r0;have e:KV (X8 kvs p.1 p.2) (Sf vs q.1 q.2):=by
   have:=r0.put p.1 h.2;rw[<- h.1];exact this
  exact ih e
structure M1(X:Cx)(o:Expr)(m:Str)(am:Pos)(e:Expr)(ag:Pos):Prop where
 base:Hs o m X.env (eval o X.env)=eval o X.env
 few:((Gc ag (Aj [e] X.env)).all (fun x=> !x.1) && (Nr ag (Jg [] X.env)).all (fun x=>x.1.isSome)
  && decide (([e]:List Expr).length+([]:List Jh).length+(if([]:List Jh).isEmpty then 0 else 1)<30))=true
 line:(am.endLine==ag.line)=true
 trees:Gc ag (Aj [e] X.env)=[(false,eval e X.env)]
structure M2(X:Cx)(o:Expr)(m:Str)(am:Pos)(e f:Expr)(ag:Pos):Prop where
 base:Hs o m X.env (eval o X.env)=eval o X.env
 few:((Gc ag (Aj [e,f] X.env)).all (fun x=> !x.1) && (Nr ag (Jg [] X.env)).all (fun x=>x.1.isSome)
  && decide (([e,f]:List Expr).length+([]:List Jh).length+(if([]:List Jh).isEmpty then 0 else 1)<30))=true
 line:(am.endLine==ag.line)=true
 trees:Gc ag (Aj [e,f] X.env)=[(false,eval e X.env),(false,eval f X.env)]
def IsD(H:Hp)(a:Addr):Prop:=(∃kvs,Rd H a (.dK kvs))∨ ∃kvs,Rd H a (.dT kvs)
theorem AH{X:Cx}{aa:List (Addr×Obj)}{σ:St}{H:Hp}{s:Af}{a:Addr}(I:cT X aa σ H s)(d:IsD H a):
  s.TypeIs (.ref a) "dict" /\(∀b,Bn a= .ref b-> ∃ob,s.heap.get? b=some ob/\ob.dict=none)/\(a==Fm)=false:=by
 rcases d with⟨kvs,e⟩|⟨kvs,e⟩
 ·obtain⟨_,hd,vs,_,dd⟩:=MU I.hok e
  refine⟨dd.typeIs,fun b q=> ?_,hd⟩;cases q;obtain⟨ob,_,_,h1,h2,_⟩:=dd;exact⟨ob,h1,h2.2.1⟩
 ·obtain⟨_,hd,xs,_,dd⟩:=MW I.hok e
  refine⟨dd.typeIs,fun b q=> ?_,hd⟩;cases q;obtain⟨ob,_,_,h1,h2,_⟩:=dd;exact⟨ob,h1,h2.2.1⟩
section
variable{X:Cx}{aa:List (Addr×Obj)}{σ:St}{H:Hp}{s:Af}{a:Addr}{y d:V}{u r:Value}{o:Option V}{A:Cz}{E:Value->Af->Prop}
theorem zG5{Q:Value->Af->Prop}(hu:A.units+1<cLine)(I:cT X aa σ H s)(g:RB H a y o)(ry:cB y u)(h: ∀w' s',cT X aa σ H s'->cB (o.getD .non) w'->Q w' s'):
  wpAny (model X.prog X.w) A (call (.builtin "dict.get") [.ref a,u]) Q E s:=by
 rcases g with⟨kvs,k,e,ey,l⟩|⟨kvs,k,b,e,ey,eb,l⟩
 ·subst ey
  obtain⟨z,hd,vs,rel,dd⟩:=MU I.hok e;refine Mc Dy dd.typeIs Fa (Hu _ _) (meets_dict_get (bG X.prog X.w) a (M6 ry) hd) ⟨_,dd.mapOf,h _ _ (I.tok _) ?_⟩;rw[l];exact(rel.val k).getD rfl
 ·subst ey
  cases (show u=Bn b from ry);obtain⟨z,hd,xs,rel,dd⟩:=MW I.hok e;refine Mc Dy dd.typeIs Fa (Hu _ _) (meetsH_dict_get (tupleKind (bG X.prog X.w)) a b hd) ⟨Ht hu,k,xs,OZ I.hok eb,dd,h _ _ (I.tok _) ?_⟩;rw[l];exact(rel.val k).getD rfl
theorem zG4{Q:Value->Af->Prop}(hu:A.units+1<cLine)(I:cT X aa σ H s)(g:RB H a y o)(ry:cB y u)(rd:cB d r)(h: ∀w' s',cT X aa σ H s'->cB (o.getD d) w'->Q w' s'):
  wpAny (model X.prog X.w) A (call (.builtin "dict.get") [.ref a,u,r]) Q E s:=by
 rcases g with⟨kvs,k,e,ey,l⟩|⟨kvs,k,b,e,ey,eb,l⟩
 ·subst ey
  obtain⟨z,hd,vs,rel,dd⟩:=MU I.hok e;refine Mc Dy dd.typeIs Fa (Kx _ _ _) (meets_dict_get_default (bG X.prog X.w) a (M6 ry) hd r) ⟨_,dd.mapOf,h _ _ (I.tok _) ?_⟩;rw[l];exact(rel.val k).getD rd
 ·subst ey
  cases (show u=Bn b from ry);obtain⟨z,hd,xs,rel,dd⟩:=MW I.hok e;refine Mc Dy dd.typeIs Fa (Kx _ _ _) (meetsH_dict_get_default (tupleKind (bG X.prog X.w)) a b hd r) ⟨Ht hu,k,xs,OZ I.hok eb,dd,h _ _ (I.tok _) ?_⟩;rw[l];exact(rel.val k).getD rd
end
def zDH(td ty tx:TE):TE:=fun σ H Q=>td σ H fun x H1=> ∃a,x= .ref a/\IsD H1 a/\ty σ H1 fun y H2=>tx σ H2 fun z H3=> ∃o,RB H3 a y o/\Q (o.getD z) H3
section
variable{X:Cx}{o e f:Expr}{am ag:Pos}{td ty tx:TE}
theorem BC(hu:X.A.units+1<cLine)(ho:PE X o td)(he:PE X e ty)(hf:PE X f tx)(m:M2 X o "get" am e f ag):PE X (.Call (.Attribute o "get" am) [e,f] [] ag) (zDH td ty tx):=by
 intro aa s σ H Q I h;refine Om m.base m.few m.line Ky Dy Md (ZX (ho aa s σ H _ I h) fun u s1 ⟨x,H1,I1,rx,a,ex,d,q1⟩=> ?_);subst ex;obtain rfl:u=Bn a:=rx;obtain⟨t1,t2,_⟩:=AH I1 d;refine⟨t1,t2,?_⟩;rw[m.trees];refine Gh rfl (Hc (Fe (ZX (he aa s1 σ H1 _ I1 q1) fun iv s2 ⟨y,H2,I2,ry,q2⟩=>
  Fe (ZX (hf aa s2 σ H2 _ I2 q2) fun fv s3 ⟨z,H3,I3,rz,ov,g,q3⟩=>Gy ?_))))
 exact zG4 hu I3 g ry rz fun w' s4 I4 rw'=>⟨_,H3,I4,rw',q3⟩
end
end L2
namespace Att
open PySem PySem.W PySem.Calls PyProof.Rows
theorem QR{P:Qb}{h:Heap}: ∀(ns:List Int) (vs:List Value),WellAll P h vs (ns.map WData.int)->Oo vs ns:=by
 intro ns;induction ns with
 |nil=>
  intro vs w;rw[Eg] at w;cases w;exact .nil
 |cons n ns ih=>
  intro vs w;rw[Az] at w;cases w with
  |cons a b=>
   cases a;exact .cons _ _ (ih _ b)
theorem E9{l:OpenLaw}{n:Nat}(hn:l.most=some n){P:Qb}{h:Heap}{args:List WData}{vals:List Value}
  (hpre:l.row.toRowW.claim.pre args=true) (hwl:WellAll P h vals args):
  ∃a vs ns,vals=[Bn a]/\args=[WData.list (ns.map WData.int)]/\h.get? a=some {cls:= .type "list",data:= .seq vs.toArray}/\Oo vs ns/\ns.length<=n:=by
 have hsh:WShape.hasAll [] args [.list .int]=true:=(pre_splitW hpre).1;have hc:l.pre.holds [] {args:=args}=true:=(pre_splitW hpre).2;obtain⟨d,r,rfl,h1,h2⟩:=hasAllW_cons hsh;obtain rfl:=hasAllW_nil h2;obtain⟨xs,rfl,h3⟩:=hasW_list h1;obtain⟨ns,rfl⟩:=items_int h3;have ae:ns.length<=n:=by
  unfold OpenLaw.pre at hc;have h4:(WTm.not (.lt (.lit (.int (n:Int))) (.len (.arg 0)))).holds [] {args:=[.list (ns.map .int)]}=true:=by
   have h4:=(holds_andW hc).1;rw[hn] at h4;exact h4
  have h5:=condW_of h4 (w_not (w_lt w_lit (w_len_list (w_arg rfl))));rw[Bz] at h5;refine Dt fun q=> ?_;have q':(n:Int)<((ns.length:Nat):Int):=by lia
  first
   |(rw[decide_eq_true q'] at h5;exact absurd h5 (by decide))
   |(simp at h5;lia)
 cases hwl with
 |cons w1 w2=>
  cases w2;cases w1 with
  |list ho j6=>exact⟨_,_,ns,rfl,rfl,ho,QR ns _ j6,ae⟩
theorem E2(l:OpenLaw)(args:List WData):l.row.toRowW.claim.post args (.bool true) args=true:=
 postW_of (r:=l.row.toRowW) (X:=(true==true))
  (show Ta [] (.bool true) .bool=true by first|rfl|decide|simp[Ta,WShape.arms,WShape.armsAll])
  (show(WTm.eq .res (.lit (.bool true))).value [] {args:=args,res:=some (.bool true),after:=args}=some (.bool (true==true)) from w_eq_bool (w_res rfl) w_lit) rfl
theorem JK{l:OpenLaw}{n:Nat}{q:Bk}{loose:List Str}{XP:(Str->Option Value)->Heap->Prop}{YP:World->Heap->Prop}{d:DefRec}
  (hn:l.most=some n) (hdf:d.params.defaults=[])
  (call: ∀(w:World) (s₀ s₁:Af) (mg mb:Str->Option Value) (fa:Addr) (o:Obj) (pm cd doc:Value) (a:Addr) (vs:List Value) (ns:List Int),
   Ground q loose [] XP w s₀ mg mb s₁.heap->YP w s₁.heap→
   s₁.heap.get? fa=some o->o.data= .func (docDef d.name d.params d.body d.scope pm cd doc)->s₁.heap.CodeRec cd d.name->mg d.name=some (.ref fa)→
   s₁.heap.get? a=some {cls:= .type "list",data:= .seq vs.toArray}->Oo vs ns->ns.length<=n->s₁.gens= #[]→
   Gg (model l.prog w) Nb (.call (.ref fa) ⟨[.ref a],[]⟩) (fun r s'=>r= .ok (.ret (.bool true))/\OldK s₁.heap s'.heap/\s'.os=s₁.os/\Lw s'.gens) s₁):
  WalkO q loose XP YP l.row.toRowW d [] (fun f vs=>Rr f vs):=by
 intro w s₀ s₁ mg mb G Y fa o pm cd doc dV kV ho hd hcd hD hmg hg args vals as hpre hlay hrd hwl hlo;obtain rfl:dV= .none:=Dflts.none hD hdf;obtain rfl:kV= .none:=Dflts.noKw hD;obtain⟨a,vs,ns,rfl,rfl,hobj,hints,ae⟩:=E9 hn hpre hwl;refine enter_call (Jx (call w s₀ s₁ mg mb fa o pm cd doc a vs ns G Y ho (fd_plain hd) hcd hmg hobj hints ae hg) fun r s' hq=> ?_);obtain⟨rfl,h2,h3,h4⟩:=hq;exact⟨.inl ⟨.bool true,.bool true,[],rfl,fun _=>rfl,.bool true,E2 l _,fun _=>⟨Kj,fun _ hm=>(nomatch hm)⟩⟩,h2,h3,h4⟩
end Att
namespace L2
open PySem PySem.Spec PyProof.Rows
theorem NP: ∀{vs:List Value} {ns:List Int},Oo vs ns->b6 (ns.map V.int) vs
 |_,_,.nil=> .nil
 |_,_,.cons n t h=> .cons ⟨t,rfl⟩ (NP h)
def Only(H:Hp):Prop:= ∀b,H b=none∨ ∃o xs,H b=some (.frz o (.lst xs))
theorem AQ{P:Bk}{w:World}{K:Ap}{mg mb:Str->Option Value}{CX:CXT}{k:Nat}{fa a:Addr}{fd:Gk}{x:Str}{sp:Sp}{s₁:Af}{vs:List Value}{ns:List Int}
  (KX:K.In s₁.heap) (hns:s₁.heap.Ns mainGlobals mg) (hb:s₁.heap.Ns builtinsNs mb) (hbb: ∀x:Str,x≠ "__name__" ->mb x=Bh x) (nu:s₁.heap.NoLimit) (hg:s₁.gens= #[])
  (ha:s₁.heap.get? a=some {cls:= .type "list",data:= .seq vs.toArray}) (hi:Oo vs ns) (hl:ns.length<=sizeLine) (hr:XZ k Nb)
  (F: ∀base:Heap,K.In base->base.Ns mainGlobals mg->aP P w K mg base CX k fa fd [x] sp) (ls: ∀(s:Af) (u:Value),Qj s fd ⟨[u],[]⟩ [(x,u)])
  (hsp: ∀H:Hp,Only H->X9 K H a (ns.map V.int)->sp [.ref a] H (fun v _=>v= .bl true) fun _ _ _=>False)
  (hCX: ∀H e s',CX [] H s₁ (fun _ _ _=>False) e s'->False):
  Gg (model P w) Nb (.call (.ref fa) ⟨[.ref a],[]⟩) (fun r s'=>r= .ok (.ret (.bool true))/\OldK s₁.heap s'.heap/\s'.os=s₁.os/\Lw s'.gens) s₁:=by
 have rv:=NP hi;have mo:=hi.length;have lu: ∀H:Hp,Only H->X9 K H a (ns.map V.int)->T3 P w H s₁.heap->(∀b,H b≠none->b=a)->(H a≠none->K.lookup a=none)→
   Gg (model P w) Nb (.call (.ref fa) ⟨[.ref a],[]⟩) (fun r s'=>r= .ok (.ret (.bool true))/\OldK s₁.heap s'.heap/\s'.os=s₁.os/\Lw s'.gens) s₁:=by
  intro H hO hS hok hA hK;have f7: ∀{b:Addr} {o:Obj},s₁.heap.get? b=some o->H b=none->(LZ s₁.heap H).get? b=some o:=fun e n=>zA0 e n;have noA: ∀{b:Addr} {o:Obj} {es:Array Lu} {ep:Nat},s₁.heap.get? b=some o->o.data= .dict es ep->H b=none:=fun{b o es ep} e d=>by
   cases q:H b with
   |none=>rfl
   |some u=>
    have e':b=a:=hA b (by rw[q];simp);subst e';rw[ha] at e;cases e;have d':Data.seq vs.toArray _=Data.dict es ep:=d;cases d'
  have nsK: ∀{b:Addr} {m:Str->Option Value},s₁.heap.Ns b m->(LZ s₁.heap H).Ns b m:=fun{b m} ⟨o,es,ep,e,d,r⟩=>⟨o,es,ep,f7 e (noA e d),d,r⟩;have hKb:K.In (LZ s₁.heap H):=fun b o e=>f7 (KX b o e) (by
   cases q:H b with
   |none=>rfl
   |some u=>
    have e':b=a:=hA b (by rw[q];simp);subst e';rw[hK (by rw[q];simp)] at e;cases e)
  have hM:Mod K mg (LZ s₁.heap H):=⟨hKb,nsK hns,⟨mb,nsK hb,hbb⟩,let ⟨mc,h1,h2⟩:=nu;⟨mc,nsK h1,h2⟩⟩;have e0:Env0 P w K mg (LZ s₁.heap H) Nb [] s₁ H:=⟨rfl,hM,fun b o e=>zBI e,Nat.le_of_eq (EK _ _),trivial,fun b hb=>absurd (show b∈([]:List Addr) from hb) (by simp),hok,.of_eq hg⟩;refine Jx ((F _ hKb (nsK hns)).run Nb [] s₁ H ⟨[.ref a],[]⟩ [.ref a] [.ref a] _ _ hr e0 (ls s₁ (.ref a)) (.cons rfl .nil) (hsp H hO hS)) fun r s' h=> ?_;cases r with
  |error e=>exact(hCX H e s' h).elim
  |ok fl=>
   cases fl with
   |next=>exact Gw h
   |brk=>exact Gw h
   |cont=>exact Gw h
   |ret u=>
    obtain⟨v,H',os,bare,un,ni,r',q⟩:=h;have q':v= .bl true:=q;subst q';obtain rfl:u=Ro true:=r';refine⟨rfl,OldK.of_keep fun b o e=> ?_,os,bare⟩;cases q:H b with
    |none=>exact un.keep b o e q (by intro z;exact absurd (show b∈([]:List Addr) from z) (by simp)) (by simp)
    |some u=>
     rcases hO b with z|⟨ob,xs,z⟩
     ·rw[q] at z;cases z
     ·have z2:=un.frzs b ob _ z
      obtain⟨e1,_⟩:=hok b _ z;obtain⟨e2,_⟩:=ni b _ z2;rw[e] at e1;cases e1;exact e2
 cases hk:K.lookup a with
 |some o=>
  have e:=KX a o hk;rw[ha] at e;cases e;refine lu (fun _=>none) (fun _=> .inl rfl) (.inr ⟨_,vs.toArray,_,hk,rfl,rfl,rfl,by rw[As,mo];exact hl,by simpa using rv⟩) (fun b u z=>by have z':(none:Option HO)=some u:=z;cases z') (fun b z=>absurd rfl z) fun z=>absurd rfl z
 |none=>
  refine lu (fun b=>if b=a then some (.frz {cls:= .type "list",data:= .seq vs.toArray} (.lst (ns.map V.int))) else none) (fun b=> ?_) (.inl (.inr ⟨{cls:= .type "list",data:= .seq vs.toArray},if_pos rfl⟩)) (fun b u z=> ?_) (fun b z=> ?_) fun _=>hk
  ·by_cases hb:b=a
   ·exact .inr ⟨_,_,if_pos hb⟩
   ·exact .inl (if_neg hb)
  ·by_cases hb:b=a
   ·have z':=(if_pos hb).symm.trans z
    cases z';subst hb;exact⟨ha,by rw[Bz];exact hl,vs,_,rv,ha⟩
   ·have z':=(if_neg hb).symm.trans z
    cases z'
  ·by_cases hb:b=a
   ·exact hb
   ·exact absurd (if_neg hb) z
theorem zAG{l:Sg}{n k:Nat}{q:Bk}{loose:List Str}{XP:(Str->Option Value)->Heap->Prop}{YP:World->Heap->Prop}{d:DefRec}{K:Qb->Ap}{CX:World->CXT}{sp:World->Sp}{x:Str}
  (hn:l.most=some n) (hn2:n<=sizeLine) (hdf:d.params.defaults=[]) (hr:XZ k Nb)
  (hY: ∀(w:World) (h:Heap),YP w h->(K w.params).In h)
  (F: ∀(w:World) (mg:Str->Option Value) (fa:Addr) (h:Heap),(K w.params).In h->h.Ns mainGlobals mg->mg d.name=some (.ref fa)→
   ∃fd:Gk,(∀(s:Af) (u:Value),Qj s fd ⟨[u],[]⟩ [(x,u)])∧
    ∀base:Heap,(K w.params).In base->base.Ns mainGlobals mg->aP l.prog w (K w.params) mg base (CX w) k fa fd [x] (sp w))
  (hsp: ∀(w:World) (H:Hp) (a:Addr) (ns:List Int),ns.length<=n->Only H->X9 (K w.params) H a (ns.map V.int)->sp w [.ref a] H (fun v _=>v= .bl true) fun _ _ _=>False)
  (hCX: ∀(w:World) (H:Hp) (s:Af) (e:Value) (s':Af),CX w [] H s (fun _ _ _=>False) e s'->False):
  W.WalkO q loose XP YP l.row.toRowW d [] (fun f vs=>Rr f vs):=by
 refine Att.JK hn hdf fun w s₀ s₁ mg mb fa o pm cd doc a vs ns G Y ho hd hcd hmg hobj hints ae hg=> ?_;have KX:=hY w _ Y;obtain⟨fd,hb,hF⟩:=F w mg fa _ KX G.T.g hmg;exact AQ KX G.T.g G.T.b G.T.builtins G.T.nolimit hg hobj hints (Bu ae hn2) hr hF hb (fun H hO hS=>hsp w H a ns ae hO hS) fun H e s'=>hCX w H s₁ e s'
theorem DE{l:Sg}{n k:Nat}{q:Bk}{loose:List Str}{XP:(Str->Option Value)->Heap->Prop}{YP:World->Heap->Prop}{d:DefRec}{K:Qb->Ap}{CX:CXT}{sp:Ap->Sp}{x:Str}
  (hn:l.most=some n) (hn2:n<=sizeLine) (hdf:d.params.defaults=[]) (hr:XZ k Nb)
  (hY: ∀(w:World) (h:Heap),YP w h->(K w.params).In h)
  (F: ∀(w:World) (mg:Str->Option Value) (fa:Addr) (h:Heap),(K w.params).In h->h.Ns mainGlobals mg->mg d.name=some (.ref fa)→
   ∃fd:Gk,(∀(s:Af) (u:Value),Qj s fd ⟨[u],[]⟩ [(x,u)])∧
    ∀base:Heap,(K w.params).In base->base.Ns mainGlobals mg->aP l.prog w (K w.params) mg base CX k fa fd [x] (sp (K w.params)))
  (hsp: ∀(K:Ap) (H:Hp) (a:Addr) (ns:List Int),ns.length<=n->Only H->X9 K H a (ns.map V.int)->sp K [.ref a] H (fun v _=>v= .bl true) fun _ _ _=>False)
  (hCX: ∀(H:Hp) (s:Af) (e:Value) (s':Af),CX [] H s (fun _ _ _=>False) e s'->False):
  W.WalkO q loose XP YP l.row.toRowW d [] (fun f vs=>Rr f vs):=
 zAG (K:=K) (CX:=fun _=>CX) (sp:=fun w=>sp (K w.params)) hn hn2 hdf hr hY F (fun w H a ns h1 h2 h3=>hsp (K w.params) H a ns h1 h2 h3) fun _ H s e s'=>hCX H s e s'
noncomputable def YG(s:Stmt):Arguments:=match s with
 | .FunctionDef _ a _ _ _ _ _ _ _ _=>a
 |_=>{posonlyargs:=[],args:=[],vararg:=none,kwonlyargs:=[],kw_defaults:=[],kwarg:=none,defaults:=[]}
def ZJ(s:Stmt):List Stmt:=match s with
 | .FunctionDef _ _ b _ _ _ _ _ _ _=>b
 |_=>[]
noncomputable def cY(s:Stmt):Scope:=match s with
 | .FunctionDef _ _ _ _ _ _ sc _ _ _=>sc
 |_=>{kind:= .function,names:=[],isGenerator:=false,isCoroutine:=false}
abbrev CX0:CXT:=fun _ _ _ _ _ _=>False
abbrev E0:XK:=fun _ _ _=>False
theorem zHP{X:Cx}:HJ CX0 X E0:=fun _ _ _ _ _ _ _ h=>h.elim
structure XM(K:Ap)(x qual:Str)(st:Stmt)(f:Addr)(fd:Gk):Prop where
 ex: ∃(oc:Value) (od:Option Addr) (kV doc pm:Value) (an:Option Addr) (cdv ct:Value) (osl:Array (Option Value)),
  fd=Mu x qual (YG st) (ZJ st) (cY st) .none kV doc pm an cdv ct/\K.lookup f=some ⟨oc,od,.func fd,osl⟩/\Np K cdv qual=true
 kp:Mo K (.ref f)=true
section
variable{P:Bk}{w:World}{K:Ap}{mg:Str->Option Value}{base:Heap}
theorem XM.ok{x qual:Str}{st:Stmt}{f:Addr}{fd:Gk}{N ps:List Str}{k:Nat}{sp:Sp}(F:XM K x qual st f fd)(S:cQ N ps (cY st))(len: ∀vs H Q E,sp vs H Q E->vs.length=ps.length)
  (cj: ∀(cdv:Value) (A:Cz) (outer:List Env) (s:Af) (H:Hp) (vs:List V) (Q:VK) (E:XK),XZ k (A.deeper (Lj qual (cY st) s.heap.objs.size f cdv))->sp vs H Q E→
   ∃t,QP (JQ CX0 P w K mg base N qual (cY st) f cdv A outer s H E).nox (ZJ st) t/\t {nx:=fun _ H'=>Q .non H',rt:=Q} (start N vs) H):aP P w K mg base CX0 (k+1) f fd ps sp:=by
 obtain⟨oc,od,kV,doc,pm,an,cdv,ct,osl,rfl,lk,hcd⟩:=F.ex;refine zIN lk hcd S len fun A outer s H vs Q E hr hsp=> ?_;obtain⟨t,h,q⟩:=cj cdv A outer s H vs Q E hr hsp;exact⟨t,h.nox,q⟩
theorem XM.binds{x qual:Str}{st:Stmt}{f:Addr}{fd:Gk}{ps:List Str}(F:XM K x qual st f fd)
  (h: ∀(kV doc pm:Value) (an:Option Addr) (cdv ct:Value) (us:List Value),us.length=ps.length->bindArgs (Mu x qual (YG st) (ZJ st) (cY st) .none kV doc pm an cdv ct) ⟨us,[]⟩=pure (ps.zip us)):MI K fd ps []:=by
 obtain⟨oc,od,kV,doc,pm,an,cdv,ct,osl,rfl,lk,hcd⟩:=F.ex;exact .all (h kV doc pm an cdv ct)
theorem zA2{x qual:Str}{st:Stmt}{f:Addr}{oc:Value}{od an:Option Addr}{osl:Array (Option Value)}{kV doc pm cdv ct:Value}(l:K.lookup f=some ⟨oc,od,.func (Mu x qual (YG st) (ZJ st) (cY st) .none kV doc pm an cdv ct),osl⟩)
  (c:Np K cdv qual=true) (k:Mo K (.ref f)=true):XM K x qual st f (Mu x qual (YG st) (ZJ st) (cY st) .none kV doc pm an cdv ct):=⟨⟨oc,od,kV,doc,pm,an,cdv,ct,osl,rfl,l,c⟩,k⟩
end
theorem zIJ{A:Cz}{k:Nat}(hr:XZ k A):A.units+1<cLine:=Nu (Nat.add_le_add_left (by decide:1<=64) _) hr.units
section
variable{X:Cx}
theorem pv(i:Nat){x:Str}{pos:Pos}(hN:X.N[i]? =some x:=by rfl)(hv:Vis X.env.scope x:=by first|exact Mv rfl|exact Mw (Mv rfl)|exact Mw (Mw rfl))(hd:(x==("__debug__":Str))=false:=by decide)
  (hcd:(x==("__classdict__":Str))=false:=by decide):PE X (.Name x pos) (ME i):=IE hN hv hd hcd
end
theorem QS{A B:Prop}(h:B):if false=true then A else B:=by
 rw[if_neg Df];exact h
theorem QT{A B:Prop}(h:A):if true=true then A else B:=by
 rw[if_pos rfl];exact h
def bL(H H':Hp):Prop:= ∀b o,H b=some o->H' b=some o
theorem bL.refl(H:Hp):bL H H:=fun _ _ h=>h
theorem bL.trans{H H1 H2:Hp}(a:bL H H1)(b:bL H1 H2):bL H H2:=fun c o h=>b c o (a c o h)
theorem bL.seq{K:Ap}{H H':Hp}{a:Addr}{xs:List V}(e:bL H H')(h:X9 K H a xs):X9 K H' a xs:=by
 rcases h with(h|⟨o,h⟩)|h
 ·exact .inl (.inl (e _ _ h))
 ·exact .inl (.inr ⟨o,e _ _ h⟩)
 ·exact .inr h
theorem LQ{env:Env}{f:Str×NameKind->List (Str×Addr)->Sem (ForInStep (List (Str×Addr)))}
  (hf: ∀n k r,f (n,k) r=if(k==Bj)=true then(cellOf env n>>=fun c=>pure (Cm ((n,c)::r))) else pure (Cm r)):
  ∀(names:List (Str×NameKind)) (cs:List (Str×Addr)),(∀y∈names,y.2= .free-> ∃c,env.cells.lookup y.1=some c)→
   ∃cl,forIn names cs f=(pure cl:Sem (List (Str×Addr)))/\(∀x c,cl.lookup x=some c->cs.lookup x=some c∨env.cells.lookup x=some c)∧
    (∀x c,cs.lookup x=some c-> ∃c',cl.lookup x=some c')/\ ∀x,(x,Bj)∈names-> ∃c,cl.lookup x=some c
 |[],cs,_=>⟨cs,rfl,fun _ _ e=> .inl e,fun _ c e=>⟨c,e⟩,fun _ h=>nomatch h⟩
 | (n,k) :: r,cs,h => by
  have hr: ∀y∈r,y.2= .free-> ∃c,env.cells.lookup y.1=some c:=fun y hy=>h y (Ao _ hy);by_cases hk:k= .free
  ·subst hk
   obtain⟨c,hc⟩:=h (n,.free) Au rfl;have hc:env.cells.lookup n=some c:=hc;obtain⟨cl,e1,e2,e3,e4⟩:=LQ hf r ((n,c)::cs) hr;refine⟨cl,?_,fun x c' e=> ?_,fun x c' e=> ?_,fun x hx=> ?_⟩
   ·rw [Ji,hf,if_pos (show (Bj == Bj) = true by decide)]
    have ec:cellOf env n=pure c:=by unfold cellOf;rw[hc]
    rw[ec,pure_bind,pure_bind];exact e1
   ·rcases e2 x c' e with q|q
    ·by_cases hx:x=n
     ·subst hx
      rw[Dz] at q;cases q;exact .inr hc
     ·rw[Cj,beq_eq_false_iff_ne.mpr hx] at q
      exact .inl q
    ·exact .inr q
   ·by_cases hx:x=n
    ·subst hx
     exact e3 x c (Dz ..)
    ·refine e3 x c' ?_
     rw[Cj,beq_eq_false_iff_ne.mpr hx];exact e
   ·rcases Ak.mp hx with q|q
    ·cases q
     exact e3 n c (Dz ..)
    ·exact e4 x q
  ·obtain⟨cl,e1,e2,e3,e4⟩:=LQ hf r cs hr
   refine⟨cl,?_,e2,e3,fun x hx=> ?_⟩
   ·have hb : ¬ (k == Bj) = true := by simpa using hk
    rw[Ji,hf,if_neg hb,pure_bind];exact e1
   ·rcases Ak.mp hx with q|q
    ·cases q
     exact absurd rfl hk
    ·exact e4 x q
theorem LR{env:Env}{scope:Scope}(h: ∀y∈scope.names,y.2= .free-> ∃c,env.cells.lookup y.1=some c):
  ∃cl,closureFor scope env=pure cl/\(∀x c,cl.lookup x=some c->env.cells.lookup x=some c)/\ ∀x,(x,Bj)∈scope.names-> ∃c,cl.lookup x=some c:=by
 simp only[closureFor];obtain⟨cl,e1,e2,_,e4⟩:=LQ (env:=env) (f:=fun x r=>match x with
  |(name,kind)=>if(kind==Bj)=true then(cellOf env name>>=fun c=>pure (Cm ((name,c)::r))) else pure (Cm r)) (fun _ _ _=>rfl) scope.names [] h
 refine⟨cl,?_,fun x c e=> ?_,e4⟩
 ·first
   |exact e1
   |(refine Eq.trans (congrArg (fun m=>m>>=pure) e1) ?_;exact pure_bind _ _)
 ·rcases e2 x c e with q|q
  ·cases q
  ·exact q
def bN(ix:List Nat)(σ:St):St:=ix.map fun i=>(σ[i]?).join
def PTs(Y:Cx)(ifs:List Expr)(tt:TT):Prop:=
 ∀(aa:List (Addr×Obj)) (s:Af) (σ:St) (H:Hp) (Q:Bool->Hp->Prop),cT Y aa σ H s->tt σ H Q→
  wpAny (model Y.prog Y.w) Y.A (forIn ifs true fun c r=>if r=true then do let ok<- isTrue c Y.env (eval c Y.env);pure (Cm ok) else pure (Cm r)) (TP Y aa σ Q) Y.xe s
def tYes:TT:=fun _ H Q=>Q true H
theorem zB1{Y:Cx}:PTs Y [] tYes:=fun _ _ _ H _ I h=>wpAny_tests_nil ⟨H,I,h⟩
theorem zB0{Y:Cx}{c:Expr}{tt:TT}(h:PT Y c tt):PTs Y [c] tt:=fun aa s σ H Q I hw=>wpAny_tests_one (h aa s σ H Q I hw)
structure Blk(Y:Cx)(tg:Expr)(ifs:List Expr)(elt:Expr)(g:TG)(tt:TT)(te:TE):Prop where
 tg:PG Y tg g
 ts:PTs Y ifs tt
 el:PE Y elt te
theorem D9{prog:Bk}{w:World}{A:Cz}{s:Af}{elt br iter:Expr}{ifs:List Expr}{scope:Scope}{pos:Pos}{it acc:Value}{env:Env}{R:Qi->Af->Prop}(I:Nat->Af->Prop)
  (turn : ∀ n s,I n s -> wpAny (model prog w) A (pyNext it) (fun r s₁ => match r with
   |none=>R (.ok .next) s₁
   | some v => wpAny (model prog w) A (Eu br it v) (fun _ s₀ => wpAny (model prog w) A (Fn br env v) (fun _ s₂ =>
     wpAny (model prog w) A (forIn ifs true fun c r=>if r=true then do let ok<- isTrue c env (eval c env);pure (Cm ok) else pure (Cm r)) (fun ok s₃=>if ok=true then wpAny (model prog w) A (eval elt env) (fun x s₄=>
      wpAny (model prog w) A (call (.builtin "list.append") [acc,x]) (fun _ s₅=> ∃m,m<n/\I m s₅) (fun _ _=>False) s₄) (fun _ _=>False) s₃
      else∃m,m<n/\I m s₃) (fun _ _=>False) s₂)
     (fun _ _=>False) s₀) (fun _ _=>False) s₁) (fun _ _=>False) s)
  (n:Nat) (h:I n s):Gg (model prog w) A (.compLoop (.ListComp elt [⟨br,iter,ifs,0⟩] scope pos) 0 it acc env) R s:=by
 refine Pd rfl I (fun n s hI=> ?_) n h;show wpAny _ A ((Py (.ListComp elt [⟨br,iter,ifs,0⟩] scope pos) 0 it acc env).onRaise (fun x=>do Ql x env;Me x)) _ _ s;refine Qm ?_;rw[compTurn_list];refine Aa (Ee (Aa (Aw (turn n s hI) (fun r s₁ h₁=> ?_) fun _ _ h'=>h'.elim)));cases r with
 |none=>exact Ah h₁
 |some v=>
  refine Aa (Aw h₁ (fun _ s₀ h₀'=> ?_) fun _ _ h'=>h'.elim);refine Aa (Aw h₀' (fun _ s₂ h₂=> ?_) fun _ _ h'=>h'.elim);refine Aa (Aw h₂ (fun okb s₃ h₃=> ?_) fun _ _ h'=>h'.elim);cases okb with
  |false=>exact Ah ⟨rfl,h₃⟩
  |true=>exact Aa (Aa (Aw h₃ (fun x s₄ h₄=>Aa (Aw h₄ (fun _ s₅ h₅=>Ah (Ah ⟨rfl,h₅⟩)) fun _ _ h'=>h'.elim)) fun _ _ h'=>h'.elim))
section
variable{X:Cx}{aa:List (Addr×Obj)}{σ:St}{H H':Hp}{s s1 s':Af}{h'':Heap}
theorem cT.offNew{σ':St}{H1:Hp}(I1:cT X aa σ H1 s1)(I':cT X aa σ' H' s')(hn:H' s1.heap.objs.size=none)(sb: ∀b o,b≠s1.heap.objs.size->s'.heap.get? b=some o->h''.get? b=some o):
  cT X aa σ' H' {s' with heap:=h''}:=
 I'.turned (t':=s'.toks) (it:=s1.heap.objs.size) sb hn (Gq I1.lt) (.inr I1.sz)
  (fun x c e z => by
   obtain⟨v,q⟩:=I1.cell x c e;have:=q.lt;rw[z] at this;exact Ca _ this)
  fun p hp z=>by
   have:=Am (I1.pin p hp).1;rw[z] at this;exact Ca _ this
end
def zD2(D:Addr)(ix:List Nat)(nl:Nat)(J:It)(g:TG)(tt:TT)(te:TE)(σ:St)(H0:Hp)(Q:Hp->Prop):Prop:=
 ∃W:Nat->Nat->List V->Hp->Prop,(∃m,W 0 m [] (bH H0 D (.lst [])))/\ ∀i m acc H1,W i m acc H1→
  (J.stop i H1/\Q H1)∨
  (J.go i H1/\ ∃N:List V->Hp->Prop,(∀af H',N af H'-> ∃m',m'<m/\W (i+1) m' af H')∧
   ∀x H2,J.yld i H1 x H2->g x (bN ix σ++Bb nl none) H2 fun σ2 H3=>σ2.take ix.length=bN ix σ∧
    tt σ2 H3 fun b H4=>if b=true then te σ2 H4 fun v H5=>H5 D=some (.lst acc)/\acc.length<sizeLine/\N (acc++[v]) (bH H5 D (.lst (acc++[v]))) else N acc H4)
theorem WP{env:Env}{x:Str}: ∀{l:List (Str×NameKind)},l.lookup x=some .free→
  (l.map fun(n,k)=>if(k==Bj && env.scope.kind== .function && env.kindOf n==some .cell) then(n,Bx) else(n,k)).lookup x=some .cell∨
  (l.map fun(n,k)=>if(k==Bj && env.scope.kind== .function && env.kindOf n==some .cell) then(n,Bx) else(n,k)).lookup x=some .free
 |[],h=>by cases h
 | (n,k) :: r,h => by
  show Nc x ((if(k==Bj && env.scope.kind== .function && env.kindOf n==some .cell)=true then(n,Bx) else(n,k))::_)=some .cell∨Nc x ((if(k==Bj && env.scope.kind== .function && env.kindOf n==some .cell)=true then(n,Bx) else(n,k))::_)=some .free;by_cases hx:x=n
  ·subst hx
   rw[Dz] at h;cases h;by_cases hc:(Bj==Bj && env.scope.kind== .function && env.kindOf x==some .cell)=true
   ·left
    rw[if_pos hc,Dz]
   ·right
    rw[if_neg hc,Dz]
  ·have hb:(x==n)=false:=beq_eq_false_iff_ne.mpr hx
   simp only[Cj,hb] at h;have ih:=WP (env:=env) h;by_cases hc:(k==Bj && env.scope.kind== .function && env.kindOf n==some .cell)=true
   ·rw[if_pos hc]
    simp only[Cj,hb];exact ih
   ·rw[if_neg hc]
    simp only[Cj,hb];exact ih
def HA(ix:List Nat)(nl:Nat)(wi:TI)(g:TG)(tt:TT)(te:TE):TE:=fun σ H Q=>wi σ H fun J H0=> ∀D,H0 D=none->zD2 D ix nl J g tt te σ H0 fun H'=>Q (.ref D) H'
mutual
inductive Dp(K:Ap)(H:Hp):V->Mx->Prop
 |non:Dp K H .non .none
 |bl (b:Bool):Dp K H (.bl b) (.bool b)
 |int (i:Int):Dp K H (.int i) (.int i)
 |str (x:Str):Dp K H (.str x) (.str x)
 |lst {a:Addr} {xs:List V} {ds:List Mx}:X9 K H a xs->OE K H xs ds->Dp K H (.ref a) (.list ds)
 |tup {a:Addr} {xs:List V} {ds:List Mx}:W9 K H a xs->OE K H xs ds->Dp K H (.ref a) (.tuple ds)
inductive OE(K:Ap)(H:Hp):List V->List Mx->Prop
 |nil:OE K H [] []
 |cons {v:V} {vs:List V} {d:Mx} {ds:List Mx}:Dp K H v d->OE K H vs ds->OE K H (v::vs) (d::ds)
end
section
variable{X:Cx}{aa:List (Addr×Obj)}{σ:St}{H:Hp}{s:Af}
mutual
theorem cT.reads(I:cT X aa σ H s): ∀{v:V} {d:Mx} {u:Value},Dp X.K H v d->cB v u-> ∃as,Reads s.heap u d as
 |_,_,_,.non,r=>by cases r;exact⟨_,.none⟩
 |_,_,_,.bl b,r=>by cases r;exact⟨_,.bool b⟩
 |_,_,_,.int i,r=>by obtain⟨t,rfl⟩:=r;exact⟨_,.int i t⟩
 |_,_,_,.str x,r=>by obtain⟨t,rfl⟩:=r;exact⟨_,.str x t⟩
 |_,_,_,.lst q all,r=>by
  cases r;obtain⟨its,rv,⟨o,n,e,c,_,d⟩,_⟩:=I.list q;obtain⟨as,h⟩:=cT.readsAll I all rv;exact⟨_,.list e c d (by simpa using h)⟩
 |_,_,_,.tup q all,r=>by
  cases r;obtain⟨its,rv,⟨o,e,c,n,d⟩,_⟩:=I.tuple q;obtain⟨as,h⟩:=cT.readsAll I all rv;exact⟨_,.tuple e c d (by simpa using h)⟩
theorem cT.readsAll(I:cT X aa σ H s): ∀{vs:List V} {ds:List Mx} {us:List Value},OE X.K H vs ds->b6 vs us-> ∃as,ReadsAll s.heap us ds as
 |_,_,_,.nil,r=>by cases r;exact⟨_,.nil⟩
 | _,_,_,.cons h t,r => by
  cases r with
  |cons r1 r2=>
   obtain⟨as,h1⟩:=cT.reads I h r1;obtain⟨bs,h2⟩:=cT.readsAll I t r2;exact⟨_,.cons h1 h2⟩
end
end
def rEqD(K:Ap):R2:=fun x y H Q=> ∃d e,Dp K H x d/\Dp K H y e/\Em d=true/\Em e=true/\Q (.bl (Jb d e)) H
def rNeD(K:Ap):R2:=fun x y H Q=> ∃d e,Dp K H x d/\Dp K H y e/\Em d=true/\Em e=true/\Q (.bl (!PyData.eqv d e)) H
section
variable{X:Cx}
theorem zER(hu:X.A.units+64<cLine):XN X (Dg .Eq) (rEqD X.K):=by
 intro aa s σ H x y v u Q I rx ry h;obtain⟨d,e,hd,he,sd,se,q⟩:=h;obtain⟨as,h1⟩:=I.reads hd rx;obtain⟨bs,h2⟩:=I.reads he ry;exact eq_dataH h1 h2 sd se hu (LX I q rfl)
theorem zEO(hu:X.A.units+64<cLine):XN X (Dg .NotEq) (rNeD X.K):=by
 intro aa s σ H x y v u Q I rx ry h;obtain⟨d,e,hd,he,sd,se,q⟩:=h;obtain⟨as,h1⟩:=I.reads hd rx;obtain⟨bs,h2⟩:=I.reads he ry;exact ne_dataH h1 h2 sd se hu (LX I q rfl)
theorem TW: ∀{us:List Value} {ns:List Int},Oo us ns->b6 (ns.map V.int) us
 |_,_,.nil=> .nil
 |_,_,.cons i t h=> .cons ⟨t,rfl⟩ (TW h)
theorem SX: ∀{ns:List Int} {us:List Value},b6 (ns.map V.int) us->Oo us ns
 |[],_,.nil=> .nil
 |i::ns,_,.cons r t=>by
  obtain⟨k,rfl⟩:=r;exact .cons i k (SX t)
theorem RJ:aY X (.builtin "sorted") (fun xs H Q=> ∃(p:Addr) (ns:List Int),xs=[.ref p]/\X9 X.K H p (ns.map V.int)/\ns.length<64∧
  ∀(l:Addr) (ms:List Int),H l=none->ms.Perm ns->ms.Pairwise (· <= ·)->Q (.ref l) (bH H l (.lst (ms.map V.int)))):=by
 intro aa s σ H xs us Q I r h;obtain⟨p,ns,rfl,hq,hl,q⟩:=h;obtain⟨u,rfl,rx⟩:=WB r;cases rx;obtain⟨its,rv,pl,hz⟩:=I.list hq;have ae:=rv.length;rw[Bz] at ae;refine sorted_ints pl.isList (SX rv) (by lia) fun out ms a1 a2 a3=> ?_;obtain⟨e,he⟩:=sortedAll_at s.heap its out;have hml:ms.length=ns.length:=a2.length_eq;have hn:H (s.heap.objs.size+1)=none:=I.hok.fresh (Ew _);refine⟨.ref (s.heap.objs.size+1),_,I.laid (a:=s.heap.objs.size+1) (o:= .lst (ms.map V.int)) (t':=s.toks) (fun b o=>sortedAll_old) (Ew _) ?_,rfl,q _ ms hn a2 a3⟩;refine⟨by rw[Bz,Ct];lia,out.toList,e,TW a1,?_⟩;rw[he]
def rngP(p:Addr)(a b c:Int):Heap->Prop:=fun h=> ∃t u v,IsRange h p a b c t u v
inductive ML:List Lu->List (Str×V)->Prop
 |nil:ML [] []
 |cons {e:Lu} {es:List Lu} {x:Str} {t:Tok} {v:V} {D:List (Str×V)}:e.key= .str x t->cB v e.val->ML es D->ML (e::es) ((x,v)::D)
def KTab(K:Ap)(a:Addr)(D:List (Str×V)):Prop:=
 (a==Fm)=false/\ ∃o es ep,K.lookup a=some o/\o.ExactDict/\o.data= .dict es ep/\ML es.toList D
theorem ML.rows{es:List Lu}{D:List (Str×V)}(h:ML es D):KTD.Rows cB es D:=by
 induction h with
 |nil=>exact .nil
 |cons h1 h2 _ ih=>exact .cons h1 h2 ih
theorem J0{A:Cz}{E:Value->Af->Prop}{s:Af}{K:Ap}{prog:Bk}{w:World}{a:Addr}{D:List (Str×V)}{k:Str}{tk:Tok}{Q:Option Value->Af->Prop}(hK:K.In s.heap)(T:KTab K a D)
  (h1: ∀d v,Fl k D=some d->cB d v->Q (some v) {s with toks:=s.toks+1}) (h2:Fl k D=none->Q none {s with toks:=s.toks+1}):
  wpAny (model prog w) A (dictGet a (.str k tk)) Q E s:=by
 obtain⟨_,o,es,ep,ho,hc,hd,hr⟩:=T;have ho:=hK _ _ ho;have hr:=hr.rows;unfold dictGet;try with_reducible refine Ck ?_
 refine Aa (wpAny_pyHash_str (Aa (KTD.kt_dictFind_strs (s:={s with toks:=s.toks+1}) ho hd (by obtain⟨l⟩:=es;simpa using hr.exact) ?_)));have hq:Q (findBy (fun k v=>v.isStr k) es k) {s with toks:=s.toks+1}:=by
  have hf:findBy (fun k v=>v.isStr k) es k=(es.toList.find? fun e=>e.key.isStr k).map (·.val):=by
   obtain⟨l⟩:=es;simp[findBy]
  rw[hf];cases hat:Fl k D with
  |some d=>obtain⟨v,hv,hfl⟩:=hr.find_some hat;rw[hv];exact h1 d v hat hfl
  |none=>rw[hr.find_none hat];exact h2 hat
 rw[findBy_of_findIdx?] at hq;cases hi:es.findIdx? fun e=>e.key.isStr k with
 |none=>rw[hi] at hq;exact Ah hq
 |some i=>rw[hi] at hq;exact Aa (wpAny_dictEntries (s:={s with toks:=s.toks+1}) ho hd (Ah hq))
theorem zBV:DT X (fun x y H Q=> ∃a k D v,x= .ref a/\y= .str k/\KTab X.K a D/\Fl k D=some v/\Q v H):=by
 intro value slice aa s σ H x y v u Q I rx ry h hs;obtain⟨a,k,D,d,rfl,rfl,T,hk,q⟩:=h;cases rx;obtain⟨t,rfl⟩:=ry;have hT:s.TypeIs (.ref a) "dict":=by
  obtain⟨_,o,es,ep,ho,hc,_⟩:=T;exact⟨o,I.kIn _ _ ho,hc.1⟩
 have main:wpAny (model X.prog X.w) X.A (Kw (.ref a) (.str k t)) (EP X aa σ Q) X.xe s:=by
  unfold Kw;try with_reducible refine Ck ?_
  refine Aa (Ki hT (by decide) ?_);refine Aa (Dj (name:=Bi "__getitem__") hT Ka
   (Ds Ka hT PySem.F.entry_dict_getitem ?_ (PySem.F.args_dict_getitem_2 _ _)))
  show wpAny _ _ (dictGet a (.str k t)>>=_) _ _ s;exact Aa (J0 I.kIn T (fun d' v' ha hv=>Ah ⟨v',rfl,Ah (by
   rw[hk] at ha;cases ha;exact⟨d,H,I.tok _,hv,q⟩)⟩) fun hn=>by rw[hk] at hn;cases hn)
 exact Rv hT PySem.F.slot_dict_getitem.lookup main hs
end
section
variable{prog:Bk}{w:World}{A:Cz}{E:Value->Af->Prop}{s:Af}
theorem MV{it t:Addr}{items:Array Value}(hne:t≠it): ∀(n i:Nat) (s:Af) (Q:List Value->Af->Prop),s.heap.IsListIter it t i->s.heap.IsList t items->i+n<=items.size→
  (∀h',h'.IsListIter it t (i+n)->Fd it s.heap h'->Q ((items.toList.drop i).take n) {s with heap:=h'})->wpAny (model prog w) A (draw (.ref it) n) Q E s
 |0,i,s,Q,hit,_,_,hQ=>by
  show wpAny _ _ (pure []) Q E s;exact Ah (by simpa using hQ s.heap hit (Heap.SameBut.refl ..))
 |n+1,i,s,Q,hit,ht,hle,hQ=>by
  have hlt:i<items.size:=by lia
  show wpAny _ _ (pyNext (.ref it)>>=_) Q E s;refine Aa (Lo hit ht (x:=items[i]) (by simp[hlt]) fun h₁ hit₁ hs₁=> ?_);refine Aa (Ck (MV hne n (i+1) _ _ hit₁ (ht.extBut hs₁.extBut hne) (by lia) fun h₂ hit₂ hs₂=>Ah ?_));have hd:items.toList.drop i=items[i]::items.toList.drop (i+1):=by simp[Cn,hlt]
  have:=hQ h₂ (by rw[show i+(n+1)=i+1+n by lia];exact hit₂) (hs₁.trans hs₂);rw[hd,Nd] at this;exact this
theorem SF{t:Addr}{items:Array Value}{Q:List Value->Af->Prop}(hh:A.handled=none)(ht:s.heap.IsList t items)
  (hQ: ∀h',Jj s.heap.objs.size s.heap h'->Q items.toList {s with heap:=h'}):wpAny (model prog w) A (Jf (.ref t) items.size none) Q E s:=by
 have hlt:t≠s.heap.objs.size:=by obtain⟨o,ho,_⟩:=ht;exact Bd (Am ho)
 unfold Jf;refine Aa ?_
 ·unfold notIterableAtAll
  refine Aa (Mf ht.typeIs PySem.F.slot_list_iter.lookup ?_);refine Ah ?_;simp only[Ef,if_false];refine Aa (Ck (Fp ht ?_));have htp:(s.heap.push {cls:= .type "list_iterator",data:= .fields #[.ref t,.int 0 0]}).IsList t items:=by
   obtain⟨o,ho,r⟩:=ht;exact⟨o,Ac _ ho,r⟩
  refine Aa (Ck (MV hlt items.size 0 _ _ ⟨_,Aq _ rfl,rfl,rfl⟩ htp (by lia) fun h₁ hit₁ hs₁=> ?_));have j6:List.take items.size (List.drop 0 items.toList)=items.toList:=by rw[My];exact Cf (by simp)
  rw[j6];rw[if_neg (by simp)];have ht₁:h₁.IsList t items:=htp.extBut hs₁.extBut hlt;refine Aa (Ck (Ly hh hit₁ ht₁ (by simp) fun h₂ he₂=> ?_));simp only[Option.isSome_none,Ef,if_false];refine Ah (hQ h₂ fun b o hb e=>he₂ b o hb (hs₁.extBut b o hb (Ac _ e)))
theorem SJ{env:Env}{ij:List Expr}{x1}{pos:Pos}{t:Addr}{items:Array Value}{Q:Unit->Af->Prop}(hh:A.handled=none)(ht:s.heap.IsList t items)
  (hn:(assignEach ij env).length=items.size) (lh:(assignEach ij env).findIdx? (·.1)=none)
  (h: ∀h',Jj s.heap.objs.size s.heap h'->wpAny (model prog w) A (assignInOrder ((assignEach ij env).map (·.2)) items.toList) Q E {s with heap:=h'}):
  wpAny (model prog w) A (Fn (.Tuple ij x1 pos) env (.ref t)) Q E s:=by
 rw[assign_Tuple];refine Aa (Ee ?_);unfold unpack;rw[hn,lh];exact Aa (Ck (SF hh ht h))
end
section
variable{X:Cx}{pos:Pos}
def gLst(K:Ap)(n:Nat)(t:D1):TG:=fun v σ H Q=> ∃a xs,v= .ref a/\X9 K H a xs/\xs.length=n/\t xs σ H Q
theorem zEF{es:List Expr}{k:Nat}{t:D1}{n:Nat}(hc:X.calm=true)(h:FQ X es t)
  (hn:(assignEach es X.env).length=n:=by rfl) (hst:(assignEach es X.env).findIdx? (·.1)=none:=by rfl):PG X (.Tuple es k pos) (gLst X.K n t):=by
 intro aa s σ H v u Q I r hw;obtain⟨a,xs,e1,hq,hl,hw⟩:=hw;subst e1;cases r;obtain⟨its,rv,ht,hz⟩:=I.list hq;refine SJ (I.ok.hd hc) ht.isList (by simp[hn,<- hl,rv.length]) hst fun h' hx=> ?_;have I1:cT X aa σ H {s with heap:=h'}:=I.kept (t':=s.toks) fun b o e=>hx b o (Bd (Am e)) e;exact h aa _ σ H xs _ Q I1 (by simpa using rv) hw
end
section
variable{X:Cx}{K:Ap}
theorem zIA(h:X.K=K):aY X (.type "list") (fun xs H Q=> ∃p ys,xs=[.ref p]/\(X9 K H p ys∨W9 K H p ys)/\ ∀l,H l=none->Q (.ref l) (bH H l (.lst ys))):=by subst h;exact LM
theorem zFV(h:X.K=K):aY X (.type "tuple") (fun xs H Q=> ∃p ys,xs=[.ref p]/\((X9 K H p ys/\ ∀l,H l=none->Q (.ref l) (bH H l (.tup ys)))∨(W9 K H p ys/\Q (.ref p) H))):=by subst h;exact NZ
theorem zBT(h:X.K=K):aY X (.builtin "sorted") (fun xs H Q=> ∃(p:Addr) (ns:List Int),xs=[.ref p]/\X9 K H p (ns.map V.int)/\ns.length<64∧
  ∀(l:Addr) (ms:List Int),H l=none->ms.Perm ns->ms.Pairwise (· <= ·)->Q (.ref l) (bH H l (.lst (ms.map V.int)))):=by subst h;exact RJ
theorem kEqD(h:X.K=K)(hu:X.A.units+64<cLine):XN X (Dg .Eq) (rEqD K):=by subst h;exact zER hu
theorem N6(h:X.K=K)(hu:X.A.units+64<cLine):XN X (Dg .NotEq) (rNeD K):=by subst h;exact zEO hu
theorem zCW(h:X.K=K){es:List Expr}{k:Nat}{t:D1}{n:Nat}{pos:Pos}(hc:X.calm=true)(hg:FQ X es t)(hn:(assignEach es X.env).length=n:=by rfl)(hst:(assignEach es X.env).findIdx? (·.1)=none:=by rfl):PG X (.Tuple es k pos) (gTup K n t):=by subst h;exact zEE hc hg hn hst
theorem zI9(h:X.K=K){es:List Expr}{k:Nat}{t:D1}{n:Nat}{pos:Pos}(hc:X.calm=true)(hg:FQ X es t)(hn:(assignEach es X.env).length=n:=by rfl)(hst:(assignEach es X.env).findIdx? (·.1)=none:=by rfl):PG X (.Tuple es k pos) (gLst K n t):=by subst h;exact zEF hc hg hn hst
theorem AM(h:X.K=K){tg l:Expr}{tl:TE}(hl:PE X l tl):PI X tg l (zCZ K tl):=by subst h;exact zB7 hl
theorem zCV(h:X.K=K){tg l:Expr}{tl:TE}(hl:PE X l tl):PI X tg l (iTup K tl):=by subst h;exact zEC hl
theorem kBm(h:X.K=K){o e:Expr}{es:List Expr}{to:TE}{t:TA}{name:Str}{am ag:Pos}{T id:String}{r:V->List V->Hp->VK->Prop}(pa:PlainAttrs T)(slot:Slot T name id)(hty:typeOf (.builtin id)=pure (.type "method_descriptor")) (hm:MtR X id r) (ho:PE X o to) (ha:PA X (e::es) t)
  (cm:Hs o name X.env (eval o X.env)=eval o X.env:=by rfl)
  (dr : ((Gc ag (Aj (e :: es) X.env)).all (fun x => !x.1) && (Nr ag (Jg [] X.env)).all (fun x => x.1.isSome)
   && decide ((e::es).length+([]:List Jh).length+(if([]:List Jh).isEmpty then 0 else 1)<30))=true:=by rfl)
  (cf:(am.endLine==ag.line)=true:=by rfl) (hs:Aj (e::es) X.env=(false,eval e X.env)::Aj es X.env:=by rfl) (bh:(Gc ag (Aj es X.env)).any (·.1)=false:=by rfl):
  PE X (.Call (.Attribute o name am) (e::es) [] ag) (tBM K T r to t):=by
 subst h;exact zHN pa slot hty hm ho ha cm dr cf hs bh
end
theorem zGB:Bh "len"=some (.builtin "len"):=by decide+kernel
theorem zG9:Bh "min"=some (.builtin "min"):=by decide+kernel
theorem zGA:Bh "max"=some (.builtin "max"):=by decide+kernel
theorem RH:Bh "sorted"=some (.builtin "sorted"):=by decide+kernel
theorem NX:Bh "isinstance"=some (.builtin "isinstance"):=by decide+kernel
theorem LJ:Bh "list"=some (.type "list"):=by decide+kernel
theorem YB:Bh "tuple"=some (.type "tuple"):=by decide+kernel
theorem zAA:Bh "range"=some (.type "range"):=by decide+kernel
theorem FV:Bh "bool"=some (.type "bool"):=by decide+kernel
theorem zGC:Bh "int"=some (.type "int"):=by decide+kernel
theorem zG8:Bh "str"=some (.type "str"):=by decide+kernel
structure Def(P:Bk)(w:World)(K:Ap)(mg:Str->Option Value)(base:Heap)(x:Str)(k:Nat)(ps:List Str)(sp:Sp)(f:Addr):Prop where
 at_:mg x=some (.ref f)
 ok: ∃fd,aP P w K mg base CX0 k f fd ps sp/\MI K fd ps []
 kp:Mo K (.ref f)=true
section
variable{X:Cx}{x:Str}{k j:Nat}{ps:List Str}{sp:Sp}{f:Addr}{p pos:Pos}{e:Expr}{es:List Expr}{t:TA}
theorem A9(D:Def X.prog X.w X.K X.mg X.base x k ps sp f)(hr:XZ j X.A)(hk:k<=j)(hg:Gl X x)(ha:PA X (e::es) t)(hdb:(x==("__debug__":Str))=false:=by decide)
  (he:Aj (e::es) X.env=(false,eval e X.env)::Aj es X.env:=by rfl) (hpl:(Gc pos (Aj es X.env)).any (·.1)=false:=by rfl):
  PE X (.Call (.Name x p) (e::es) [] pos) (CO sp [] E0 t):=by
 obtain⟨fd,F,B⟩:=D.ok;exact zBC F (hr.mono hk) hg D.at_ D.kp B .nil zHP ha hdb he hpl
end
theorem c6{H:Hp}{p:Addr}{o:HO}(hp:H p=none):bL H (bH H p o):=fun b o' e=>by
 rw[b7 (YO e hp)];exact e
theorem KY(ns:List Int):Em (.list (ns.map Op))=true:=by
 have h1:Gf (.list (ns.map Op))=true:=by simp only[Gf,canLayAll_ints]
 have h2:Il (.list (ns.map Op))<=64:=by
  simp only[Il,depthAll_ints];decide
 unfold Em;rw[h1,decide_eq_true h2];rfl
inductive dF where
 |non|bl (b:Bool)|int (i:Int)|str (x:Str)|ty (n:String)|fn (x:Str)|tup (ds:List dF)|lst (ds:List dF)|dct (ks:List a0) (ds:List dF)|exn (x:Str)|exr (x n:Str) (d:dF)
def FzL(K:Ap)(H:Hp)(a:Addr)(xs:List V):Prop:=
 (∃o,H a=some (.frz o (.lst xs)))∨
  ∃(o:Obj) (its:Array Value) (n:Nat),K.lookup a=some o/\o.cls= .type "list" /\o.dict=none/\o.data= .seq its n/\its.size<=sizeLine/\b6 xs its.toList
theorem FzL.sq{K:Ap}{H:Hp}{a:Addr}{xs:List V}(h:FzL K H a xs):X9 K H a xs:=by
 rcases h with⟨o,h⟩|h
 ·exact .inl (.inr ⟨o,h⟩)
 ·exact .inr h
def zJ0(h:Heap)(a C:Addr):Prop:= ∃o vs,h.get? a=some o/\o.cls= .ref C/\o.data= .fields vs
def zGI(h:Heap)(a C D:Addr):Prop:= ∃o vs,h.get? a=some o/\o.cls= .ref C/\o.data= .fields vs/\o.dict=some D
mutual
inductive bU(K:Ap)(N:Addr->Prop)(H:Hp):(Addr->Prop)->V->dF->Prop
 |non {M:Addr->Prop}:bU K N H M .non .non
 |bl {M:Addr->Prop} (b:Bool):bU K N H M (.bl b) (.bl b)
 |int {M:Addr->Prop} (i:Int):bU K N H M (.int i) (.int i)
 |str {M:Addr->Prop} (x:Str):bU K N H M (.str x) (.str x)
 |ty {M:Addr->Prop} (n:String):bU K N H M (.ty n) (.ty n)
 |fn {M:Addr->Prop} {a:Addr} {x:Str}:Pe K mainGlobals x=some (some (.ref a))->bU K N H M (.ref a) (.fn x)
 |tup {M:Addr->Prop} {a:Addr} {xs:List V} {ds:List dF}:W9 K H a xs->cR K N H xs ds->bU K N H M (.ref a) (.tup ds)
 |lst {M:Addr->Prop} {a:Addr} {xs:List V} {ds:List dF}:H a=some (.lst xs)-> ¬M a->cR K N H xs ds->bU K N H M (.ref a) (.lst ds)
 |fzl {M:Addr->Prop} {a:Addr} {xs:List V} {ds:List dF}:FzL K H a xs->cR K N H xs ds->bU K N H M (.ref a) (.lst ds)
 |dct {M:Addr->Prop} {a:Addr} {kvs:List (a0×V)} {ds:List dF}:H a=some (.dK kvs)-> ¬M a->cR K N H (kvs.map Eh) ds->bU K N H M (.ref a) (.dct (kvs.map Dh) ds)
 |ktb {M:Addr->Prop} {a:Addr} {D:List (Str×V)} {ds:List dF}:KTab K a D->cR K N H (D.map Eh) ds->bU K N H M (.ref a) (.dct (D.map fun p=> .inr p.1) ds)
 |exn {M:Addr->Prop} {a C:Addr} {x:Str} {φ:Heap->Prop}:Pe K mainGlobals x=some (some (.ref C))->H a=some (.ext φ)->(∀h,φ h->zJ0 h a C)->bU K N H M (.ref a) (.exn x)
 |exr {M:Addr->Prop} {a C D:Addr} {x n:Str} {φ:Heap->Prop} {v:V} {d:dF}:Pe K mainGlobals x=some (some (.ref C))->H a=some (.ext φ)->(∀h,φ h->zGI h a C D)->H D=some (.xd [(n,v)])->bU K N H N v d->bU K N H M (.ref a) (.exr x n d)
inductive cR(K:Ap)(N:Addr->Prop)(H:Hp):List V->List dF->Prop
 |nil:cR K N H [] []
 |cons {v:V} {vs:List V} {d:dF} {ds:List dF}:bU K N H N v d->cR K N H vs ds->cR K N H (v::vs) (d::ds)
end
def Hard:HO->Prop
 | .tup _=>True
 | .frz _ _=>True
 | .ext _=>True
 | .xd _=>True
 |_=>False
def Fr(P:Addr->Prop)(H H':Hp):Prop:= ∀b o,H b=some o->(P b->Hard o)->H' b=some o
theorem Fr.refl(P:Addr->Prop)(H:Hp):Fr P H H:=fun _ _ h _=>h
theorem Fr.trans{P:Addr->Prop}{H H1 H2:Hp}(a:Fr P H H1)(b:Fr P H1 H2):Fr P H H2:=fun c o h n=>b c o (a c o h n) n
theorem Fr.mono{P P':Addr->Prop}{H H':Hp}(a:Fr P H H')(h: ∀b,P b->P' b):Fr P' H H':=fun c o e n=>a c o e fun z=>n (h c z)
theorem bL.fr{P:Addr->Prop}{H H':Hp}(a:bL H H'):Fr P H H':=fun c o h _=>a c o h
section
variable{K:Ap}{N N' M M' P:Addr->Prop}{H H':Hp}
theorem Fr.tup(f:Fr P H H'){a:Addr}{xs:List V}(h:W9 K H a xs):W9 K H' a xs:=by
 rcases h with(h|⟨o,h⟩)|h
 ·exact .inl (.inl (f _ _ h fun _=>trivial))
 ·exact .inl (.inr ⟨o,f _ _ h fun _=>trivial⟩)
 ·exact .inr h
theorem Fr.fzl(f:Fr P H H'){a:Addr}{xs:List V}(h:FzL K H a xs):FzL K H' a xs:=by
 rcases h with⟨o,h⟩|h
 ·exact .inl ⟨o,f _ _ h fun _=>trivial⟩
 ·exact .inr h
theorem bU.fr(f:Fr P H H')(hN: ∀a,P a->N a){M:Addr->Prop}{v:V}{d:dF}(hM: ∀a,P a->M a)(h:bU K N H M v d):bU K N H' M v d:=
 bU.rec (motive_1:=fun M v d _=>(∀a,P a->M a)->bU K N H' M v d) (motive_2:=fun vs ds _=>cR K N H' vs ds) (fun _=> .non) (fun b _=> .bl b) (fun i _=> .int i) (fun x _=> .str x) (fun n _=> .ty n) (fun q _=> .fn q) (fun q _ r _=> .tup (f.tup q) r)
  (fun q n _ r hM=> .lst (f _ _ q fun z=>absurd (hM _ z) n) n r) (fun q _ r _=> .fzl (f.fzl q) r) (fun q n _ r hM=> .dct (f _ _ q fun z=>absurd (hM _ z) n) n r) (fun q _ r _=> .ktb q r) (fun p q r _=> .exn p (f _ _ q fun _=>trivial) r)
  (fun p q r s _ t _=> .exr p (f _ _ q fun _=>trivial) r (f _ _ s fun _=>trivial) (t hN)) .nil (fun _ _ a b=> .cons (a hN) b) h hM
theorem cR.map{K':Ap}{N':Addr->Prop}{H':Hp}(g: ∀{v d},bU K N H N v d->bU K' N' H' N' v d): ∀{vs:List V} {ds:List dF},cR K N H vs ds->cR K' N' H' vs ds:=by
 intro vs;induction vs with
 |nil=>intro ds h;cases h;exact .nil
 |cons v vs ih=>intro ds h;cases h with|cons a b=>exact .cons (g a) (ih b)
theorem cR.fr(f:Fr P H H')(hN: ∀a,P a->N a){vs:List V}{ds:List dF}(h:cR K N H vs ds):cR K N H' vs ds:=h.map fun r=>r.fr f hN hN
theorem bU.mono(hN: ∀a,N' a->N a){M M':Addr->Prop}{v:V}{d:dF}(hM: ∀a,M' a->M a)(h:bU K N H M v d):bU K N' H M' v d:=
 bU.rec (motive_1:=fun M v d _=> ∀M',(∀a,M' a->M a)->bU K N' H M' v d) (motive_2:=fun vs ds _=>cR K N' H vs ds) (fun _ _=> .non) (fun b _ _=> .bl b) (fun i _ _=> .int i) (fun x _ _=> .str x) (fun n _ _=> .ty n) (fun q _ _=> .fn q) (fun q _ r _ _=> .tup q r)
  (fun q n _ r _ hM=> .lst q (fun z=>n (hM _ z)) r) (fun q _ r _ _=> .fzl q r) (fun q n _ r _ hM=> .dct q (fun z=>n (hM _ z)) r) (fun q _ r _ _=> .ktb q r) (fun p q r _ _=> .exn p q r) (fun p q r s _ t _ _=> .exr p q r s (t _ hN)) .nil (fun _ _ a b=> .cons (a _ hN) b) h M' hM
theorem cR.mono(hN: ∀a,N' a->N a){vs:List V}{ds:List dF}(h:cR K N H vs ds):cR K N' H vs ds:=h.map fun r=>r.mono hN hN
theorem bU.same(f:bL H H'){v:V}{d:dF}(h:bU K N H M v d):bU K N H' M v d:=h.fr f.fr (fun _ z=>z.elim) (P:=fun _=>False) fun _ z=>z.elim
theorem cR.same(f:bL H H'){vs:List V}{ds:List dF}(h:cR K N H vs ds):cR K N H' vs ds:=h.fr f.fr (P:=fun _=>False) fun _ z=>z.elim
theorem cR.length: ∀{vs:List V} {ds:List dF},cR K N H vs ds->vs.length=ds.length
 |_,_,.nil=>rfl
 |_,_,.cons _ t=>congrArg (· +1) (cR.length t)
theorem cR.append: ∀{vs ws:List V} {ds es:List dF},cR K N H vs ds->cR K N H ws es->cR K N H (vs++ws) (ds++es)
 |_,_,_,_,.nil,s=>s
 |_,_,_,_,.cons h t,s=> .cons h (cR.append t s)
theorem cR.get: ∀{vs:List V} {ds:List dF} {i:Nat} {d:dF},cR K N H vs ds->ds[i]? =some d-> ∃v,vs[i]? =some v/\bU K N H N v d
 |_,_,_,_,.nil,e=>by simp at e
 |_,_,0,_,.cons r _,e=>by simp at e;subst e;exact⟨_,rfl,r⟩
 |_,_,i+1,x,.cons _ t,e=>by
  obtain⟨u,h1,h2⟩:=cR.get (i:=i) (d:=x) t (by simpa using e);exact⟨u,by simpa using h1,h2⟩
theorem cR.take: ∀{vs:List V} {ds:List dF} (n:Nat),cR K N H vs ds->cR K N H (vs.take n) (ds.take n)
 |_,_,0,_=> .nil
 |_,_,_+1,.nil=> .nil
 |_,_,n+1,.cons r t=> .cons r (cR.take n t)
theorem cR.drop: ∀{vs:List V} {ds:List dF} (n:Nat),cR K N H vs ds->cR K N H (vs.drop n) (ds.drop n)
 |_,_,0,r=>r
 |_,_,_+1,.nil=> .nil
 |_,_,n+1,.cons _ t=>cR.drop n t
theorem cR.snoc{vs:List V}{ds:List dF}{v:V}{d:dF}(r:cR K N H vs ds)(h:bU K N H N v d):cR K N H (vs++[v]) (ds++[d]):=r.append (.cons h .nil)
end
mutual
def dF.isD:dF->Bool
 | .non=>true
 | .bl _=>true
 | .int _=>true
 | .str _=>true
 | .ty _=>false
 | .fn _=>false
 | .tup ds=>JX ds
 | .lst ds=>JX ds
 | .dct _ _=>false
 | .exn _=>false
 | .exr _ _ _=>false
def JX:List dF->Bool
 |[]=>true
 |d::ds=>d.isD && JX ds
end
mutual
def dF.pd:dF->Mx
 | .non=> .none
 | .bl b=> .bool b
 | .int i=> .int i
 | .str x=> .str x
 | .ty _=> .none
 | .fn _=> .none
 | .tup ds=> .tuple (DO ds)
 | .lst ds=> .list (DO ds)
 | .dct _ _=> .none
 | .exn _=> .none
 | .exr _ _ _=> .none
def DO:List dF->List Mx
 |[]=>[]
 |d::ds=>d.pd::DO ds
end
mutual
def dF.hard:dF->Bool
 | .tup ds=>VL ds
 | .lst _=>false
 | .dct _ _=>false
 | .exr _ _ _=>false
 |_=>true
def VL:List dF->Bool
 |[]=>true
 |d::ds=>d.hard && VL ds
end
section
variable{K:Ap}{N:Addr->Prop}{H:Hp}
theorem bU.dp{M:Addr->Prop}{v:V}{d:dF}(h:bU K N H M v d)(e:d.isD=true):Dp K H v d.pd:=
 bU.rec (motive_1:=fun M v d _=>d.isD=true->Dp K H v d.pd) (motive_2:=fun vs ds _=>JX ds=true->OE K H vs (DO ds)) (fun _=> .non) (fun b _=> .bl b) (fun i _=> .int i) (fun x _=> .str x) (fun _ h=>nomatch h) (fun _ h=>nomatch h) (fun q _ r h=> .tup q (r h))
  (fun q _ _ r h=> .lst (X9.of q) (r h)) (fun q _ r h=> .lst q.sq (r h)) (fun _ _ _ _ h=>nomatch h) (fun _ _ _ h=>nomatch h) (fun _ _ _ h=>nomatch h) (fun _ _ _ _ _ _ h=>nomatch h) (fun _=> .nil) (fun _ _ a b e=> .cons (a (Dm.mp e).1) (b (Dm.mp e).2)) h e
theorem bU.hard{N':Addr->Prop}{M M':Addr->Prop}{v:V}{d:dF}(h:bU K N H M v d)(e:d.hard=true):bU K N' H M' v d:=
 bU.rec (motive_1:=fun M v d _=> ∀M',d.hard=true->bU K N' H M' v d) (motive_2:=fun vs ds _=>VL ds=true->cR K N' H vs ds) (fun _ _=> .non) (fun b _ _=> .bl b) (fun i _ _=> .int i) (fun x _ _=> .str x) (fun n _ _=> .ty n) (fun q _ _=> .fn q) (fun q _ r _ h=> .tup q (r h))
  (fun _ _ _ _ _ h=>nomatch h) (fun _ _ _ _ h=>nomatch h) (fun _ _ _ _ _ h=>nomatch h) (fun _ _ _ _ h=>nomatch h) (fun p q r _ _=> .exn p q r) (fun _ _ _ _ _ _ _ h=>nomatch h) (fun _=> .nil) (fun _ _ a b e=> .cons (a _ (Dm.mp e).1) (b (Dm.mp e).2)) h M' e
theorem cR.hard{N':Addr->Prop}: ∀{vs:List V} {ds:List dF},cR K N H vs ds->VL ds=true->cR K N' H vs ds:=by
 intro vs;induction vs with
 |nil=>intro ds h _;cases h;exact .nil
 |cons v vs ih=>intro ds h e;cases h with|cons a b=>exact .cons (a.hard (Dm.mp e).1) (ih b (Dm.mp e).2)
end
inductive Sl where
 |no|va (d:dF)|ow (d:dF)
abbrev Ev:=List Sl
structure Bs where
 Z:Addr->Prop
 P:Addr->Prop
 H0:Hp
 mu:Nat->Option Addr
 kp:List (V×dF)
def Nn(B:Bs)(O:Nat->Option Addr):Addr->Prop:=fun a=>B.Z a∨ ∃i,O i=some a
def OA(O:Nat->Option Addr):Addr->Prop:=fun a=> ∃i,O i=some a
inductive P8(K:Ap)(N:Addr->Prop)(H:Hp)(a:Addr):dF->Prop
 |lst {xs:List V} {ds:List dF}:H a=some (.lst xs)->cR K N H xs ds->P8 K N H a (.lst ds)
 |dct {kvs:List (a0×V)} {ds:List dF}:H a=some (.dK kvs)->cR K N H (kvs.map Eh) ds->P8 K N H a (.dct (kvs.map Dh) ds)
theorem P8.fr{K:Ap}{N P:Addr->Prop}{H H':Hp}{a:Addr}{d:dF}(f:Fr P H H')(hN: ∀a,P a->N a)(ha: ¬P a):P8 K N H a d->P8 K N H' a d
 | .lst q r=> .lst (f _ _ q fun z=>absurd z ha) (r.fr f hN)
 | .dct q r=> .dct (f _ _ q fun z=>absurd z ha) (r.fr f hN)
theorem P8.mono{K:Ap}{N N':Addr->Prop}{H:Hp}{a:Addr}{d:dF}(h: ∀b,N' b->N b):P8 K N H a d->P8 K N' H a d
 | .lst q r=> .lst q (r.mono h)
 | .dct q r=> .dct q (r.mono h)
theorem P8.soft{K:Ap}{N:Addr->Prop}{H:Hp}{a:Addr}{d:dF}(h:P8 K N H a d): ∃o,H a=some o/\¬Hard o:=by
 cases h with
 |lst q _=>exact⟨_,q,fun z=>z⟩
 |dct q _=>exact⟨_,q,fun z=>z⟩
theorem P8.rep{K:Ap}{N M:Addr->Prop}{H:Hp}{a:Addr}{d:dF}(h:P8 K N H a d)(hM: ¬M a):bU K N H M (.ref a) d:=by
 cases h with
 |lst q r=>exact .lst q hM r
 |dct q r=>exact .dct q hM r
structure aX(K:Ap)(ml:List Nat)(B:Bs)(O:Nat->Option Addr)(H:Hp)(σ:St)(δ:Ev):Prop where
 len:σ.length=δ.length
 va: ∀(i:Nat) (d:dF),δ[i]? =some (Sl.va d)-> ∃v,σ[i]? =some (some v)/\bU K (Nn B O) H (Nn B O) v d
 ow: ∀(i:Nat) (d:dF),δ[i]? =some (Sl.ow d)-> ∃a,O i=some a/\σ[i]? =some (some (.ref a))/\P8 K (Nn B O) H a d
 dom: ∀(i:Nat) a,O i=some a-> ∃d,δ[i]? =some (Sl.ow d)
 inj: ∀i j a,O i=some a->O j=some a->i=j
 old: ∀i a,O i=some a-> ¬B.Z a/\(B.P a∨B.H0 a=none)
 zin: ∀a,B.Z a-> ∃o,H a=some o
 frm:Fr B.P B.H0 H
 par:(∀i a,B.mu i=some a->i∈ml)/\ ∀i∈ml,O i=B.mu i
 pin: ∀a,B.P a-> ∃o,H a=some o
 kep: ∀p∈B.kp,bU K (Nn B O) H (Nn B O) p.1 p.2
section
variable{K:Ap}{ml:List Nat}{B:Bs}{O:Nat->Option Addr}{H H':Hp}{σ:St}{δ δ':Ev}
theorem aX.nin(S:aX K ml B O H σ δ){a:Addr}(h:Nn B O a): ∃o,H a=some o:=by
 rcases h with h|⟨i,h⟩
 ·exact S.zin a h
 ·obtain⟨d,e⟩:=S.dom i a h
  obtain⟨a',e1,_,w⟩:=S.ow i d e;rw[h] at e1;cases e1;obtain⟨o,q,_⟩:=w.soft;exact⟨o,q⟩
theorem aX.new(S:aX K ml B O H σ δ){a:Addr}(h:H a=none): ¬Nn B O a:=fun z=>by
 obtain⟨o,q⟩:=S.nin z;rw[h] at q;cases q
theorem aX.same(S:aX K ml B O H σ δ)(f:bL H H'):aX K ml B O H' σ δ where
 len:=S.len
 va:=fun i d e=>let ⟨v,a,b⟩:=S.va i d e;⟨v,a,b.same f⟩
 ow:=fun i d e=>let ⟨a,b,c,w⟩:=S.ow i d e;⟨a,b,c,w.fr (P:=fun _=>False) f.fr (fun _ z=>z.elim) fun z=>z⟩
 dom:=S.dom
 inj:=S.inj
 old:=S.old
 zin:=fun a h=>let ⟨o,q⟩:=S.zin a h;⟨o,f _ _ q⟩
 frm:=S.frm.trans f.fr
 par:=S.par
 pin:=fun a h=>let ⟨o,q⟩:=S.pin a h;⟨o,f _ _ q⟩
 kep:=fun p h=>(S.kep p h).same f
theorem aX.fresh(S:aX K ml B O H σ δ){a:Addr}(h:H a=none):B.H0 a=none:=by
 cases q:B.H0 a with
 |none=>rfl
 |some o=>
  by_cases hp:B.P a
  ·obtain⟨o',e⟩:=S.pin a hp
   rw[h] at e;cases e
  ·have := S.frm a o q fun z => absurd z hp
   rw[h] at this;cases this
def Bs.add(B:Bs)(p:Addr):Bs:={B with Z:=fun a=>B.Z a∨a=p}
theorem UD{p:Addr}: ∀a,Nn B O a->Nn (B.add p) O a:=fun a h=>by
 rcases h with h|h
 ·exact .inl (.inl h)
 ·exact .inr h
theorem bU.away{p:Addr}(hp:H p=none)(N N':Addr->Prop)(hN: ∀a,N' a->N a∨a=p){M M':Addr->Prop}{v:V}{d:dF}(hM: ∀a,M' a->M a∨a=p)(h:bU K N H M v d):bU K N' H M' v d:=
 have no: ∀{a:Addr} {o:HO} {M M':Addr->Prop},H a=some o-> ¬M a->(∀a,M' a->M a∨a=p)-> ¬M' a:=fun q n hM z=>(hM _ z).elim n fun e=>by rw[e,hp] at q;cases q
 bU.rec (motive_1:=fun M v d _=> ∀M',(∀a,M' a->M a∨a=p)->bU K N' H M' v d) (motive_2:=fun vs ds _=>cR K N' H vs ds) (fun _ _=> .non) (fun b _ _=> .bl b) (fun i _ _=> .int i) (fun x _ _=> .str x) (fun n _ _=> .ty n) (fun q _ _=> .fn q) (fun q _ r _ _=> .tup q r)
  (fun q n _ r _ hM=> .lst q (no q n hM) r) (fun q _ r _ _=> .fzl q r) (fun q n _ r _ hM=> .dct q (no q n hM) r) (fun q _ r _ _=> .ktb q r) (fun p q r _ _=> .exn p q r) (fun p q r s _ t _ _=> .exr p q r s (t _ hN)) .nil (fun _ _ a b=> .cons (a _ hN) b) h M' hM
theorem cR.away{p:Addr}(hp:H p=none)(N N':Addr->Prop)(hN: ∀a,N' a->N a∨a=p){vs:List V}{ds:List dF}(h:cR K N H vs ds):cR K N' H vs ds:=h.map fun r=>r.away hp N N' hN hN
theorem XJ{p:Addr}: ∀a,Nn (B.add p) O a->Nn B O a∨a=p:=fun a h=>by
 rcases h with(h|h)|h
 ·exact .inl (.inl h)
 ·exact .inr h
 ·exact .inl (.inr h)
theorem aX.laid(S:aX K ml B O H σ δ){p:Addr}{o:HO}(hp:H p=none):aX K ml (B.add p) O (bH H p o) σ δ where
 len:=S.len
 va:=fun i d e=>let ⟨v,a,b⟩:=S.va i d e;⟨v,a,(b.away hp _ _ XJ XJ).same (c6 hp)⟩
 ow:=fun i d e=>by
  obtain⟨a,b,c,w⟩:=S.ow i d e;refine⟨a,b,c,?_⟩;have hne: ∀o,H a=some o->bH H p o=bH H p o:=fun _ _=>rfl;cases w with
  |lst q r=>exact .lst (c6 hp _ _ q) ((r.away hp _ _ XJ).same (c6 hp))
  |dct q r=>exact .dct (c6 hp _ _ q) ((r.away hp _ _ XJ).same (c6 hp))
 dom:=S.dom
 inj:=S.inj
 old:=fun i a h=>by
  refine⟨fun z=> ?_,(S.old i a h).2⟩;rcases z with z|z
  ·exact(S.old i a h).1 z
  ·obtain⟨o,q⟩:=S.nin (.inr ⟨i,h⟩)
   rw[z,hp] at q;cases q
 zin:=fun a h=>by
  rcases h with h|h
  ·obtain⟨o,q⟩:=S.zin a h
   exact⟨o,c6 hp _ _ q⟩
  ·exact⟨_,by rw[h];exact cO⟩
 frm:=S.frm.trans (c6 hp).fr
 par:=S.par
 pin:=fun a h=>let ⟨o,q⟩:=S.pin a h;⟨o,c6 hp _ _ q⟩
 kep:=fun p h=>((S.kep p h).away hp _ _ XJ XJ).same (c6 hp)
theorem Q2{i:Nat}{o:Option Addr}: ∀a,Nn B (fun j=>if j=i then none else O j) a->Nn B O a:=fun a h=>by
 rcases h with h|⟨j,h⟩
 ·exact .inl h
 ·refine .inr ⟨j,?_⟩
  by_cases hj:j=i
  ·simp[hj] at h
  ·simpa[hj] using h
theorem U1{α:Type}{l:List α}{i j:Nat}{x y:α}(h:(l.set i x)[j]? =some y):(j=i/\y=x/\i<l.length)∨(j≠i/\l[j]? =some y):=by
 by_cases hj:j=i
 ·subst hj
  rw[List.getElem?_set_self'] at h;cases q:l[j]? with
  |none=>rw[q] at h;cases h
  |some z=>
   rw[q] at h;cases h;exact .inl ⟨rfl,rfl,(Ae.mp q).1⟩
 ·rw[Bw (Dk hj)] at h
  exact .inr ⟨hj,h⟩
theorem aX.setVa(S:aX K ml B O H σ δ){i:Nat}{v:V}{d:dF}(hm:i∉ml)(h:bU K (Nn B O) H (Nn B O) v d):aX K ml B (fun j=>if j=i then none else O j) H (σ.set i (some v)) (δ.set i (.va d)) where
 len:=by rw[Cc,Cc,S.len]
 va:=fun j e q=>by
  rcases U1 q with⟨rfl,z,hl⟩|⟨hj,q⟩
  ·cases z
   exact⟨v,by rw[De (by rw[S.len];exact hl)],h.mono (Q2 (o:=none)) (Q2 (o:=none))⟩
  ·obtain⟨u,e1,r⟩:=S.va j e q
   exact⟨u,by rw[Bw (Dk hj)];exact e1,r.mono (Q2 (o:=none)) (Q2 (o:=none))⟩
 ow:=fun j e q=>by
  rcases U1 q with⟨rfl,z,hl⟩|⟨hj,q⟩
  ·cases z
  ·obtain⟨a,e1,e2,w⟩:=S.ow j e q
   exact⟨a,by simpa[hj] using e1,by rw[Bw (Dk hj)];exact e2,w.mono (Q2 (o:=none))⟩
 dom:=fun j a e=>by
  by_cases hj:j=i
  ·simp[hj] at e
  ·obtain ⟨d,q⟩ := S.dom j a (by simpa [hj] using e)
   exact⟨d,by rw[Bw (Dk hj)];exact q⟩
 inj:=fun j k a e1 e2=>by
  by_cases hj:j=i
  ·simp[hj] at e1
  ·by_cases hk:k=i
   ·simp[hk] at e2
   ·exact S.inj j k a (by simpa[hj] using e1) (by simpa[hk] using e2)
 old:=fun j a e=>by
  by_cases hj:j=i
  ·simp[hj] at e
  ·exact S.old j a (by simpa[hj] using e)
 zin:=S.zin
 frm:=S.frm
 par:=⟨S.par.1,fun j hj=>by
  have hne:j≠i:=fun z=>hm (z▸hj);have h2:O j=B.mu j:=S.par.2 j hj;simpa[hne] using h2⟩
 pin:=S.pin
 kep:=fun p hp=>(S.kep p hp).mono (Q2 (o:=none)) (Q2 (o:=none))
theorem RY{i:Nat}{p:Addr}: ∀a,Nn B (fun j=>if j=i then some p else O j) a->Nn (B.add p) O a:=fun a h=>by
 rcases h with h|⟨j,h⟩
 ·exact .inl (.inl h)
 ·by_cases hj:j=i
  ·simp[hj] at h
   exact .inl (.inr h.symm)
  ·exact .inr ⟨j,by simpa[hj] using h⟩
theorem aX.setOw{p:Addr}(S:aX K ml (B.add p) O H σ δ){i:Nat}{d:dF}(hm:i∉ml)(hl:i<δ.length)(hz: ¬B.Z p)(h0:B.H0 p=none)(h:P8 K (Nn (B.add p) O) H p d):
  aX K ml B (fun j=>if j=i then some p else O j) H (σ.set i (some (.ref p))) (δ.set i (.ow d)) where
 len:=by rw[Cc,Cc,S.len]
 va:=fun j e q=>by
  rcases U1 q with⟨rfl,z,_⟩|⟨hj,q⟩
  ·cases z
  ·obtain⟨u,e1,r⟩:=S.va j e q
   exact⟨u,by rw[Bw (Dk hj)];exact e1,r.mono RY RY⟩
 ow:=fun j e q=>by
  rcases U1 q with⟨rfl,z,hl⟩|⟨hj,q⟩
  ·cases z
   exact⟨p,by simp,by rw[De (by rw[S.len];exact hl)],h.mono RY⟩
  ·obtain⟨a,e1,e2,w⟩:=S.ow j e q
   exact⟨a,by simpa[hj] using e1,by rw[Bw (Dk hj)];exact e2,w.mono RY⟩
 dom:=fun j a e=>by
  by_cases hj:j=i
  ·subst hj
   exact⟨d,by rw[De hl]⟩
  ·obtain ⟨d,q⟩ := S.dom j a (by simpa [hj] using e)
   exact⟨d,by rw[Bw (Dk hj)];exact q⟩
 inj:=fun j k a e1 e2=>by
  by_cases hj:j=i
  ·by_cases hk:k=i
   ·rw[hj,hk]
   ·simp[hj] at e1
    simp[hk] at e2;exact absurd (.inr e1.symm) (S.old k a e2).1
  ·by_cases hk:k=i
   ·simp[hk] at e2
    simp[hj] at e1;exact absurd (.inr e2.symm) (S.old j a e1).1
   ·exact S.inj j k a (by simpa[hj] using e1) (by simpa[hk] using e2)
 old:=fun j a e=>by
  by_cases hj:j=i
  ·simp[hj] at e
   subst e;exact⟨hz,.inr h0⟩
  ·have := S.old j a (by simpa [hj] using e)
   exact⟨fun z=>this.1 (.inl z),this.2⟩
 zin:=fun a h=>S.zin a (.inl h)
 frm:=S.frm
 par:=⟨S.par.1,fun j hj=>by
  have hne:j≠i:=fun z=>hm (z▸hj);have h2:O j=B.mu j:=S.par.2 j hj;simpa[hne] using h2⟩
 pin:=S.pin
 kep:=fun p hp=>(S.kep p hp).mono RY RY
theorem aX.wrote(S:aX K ml B O H σ δ){i:Nat}{a:Addr}{d:dF}{o:HO}(e:O i=some a)(ho: ¬Hard o)(h:P8 K (Nn B O) (bH H a o) a d):aX K ml B O (bH H a o) σ (δ.set i (.ow d)):=by
 have hf:Fr (fun b=>b=a) H (bH H a o):=fun b u q n=>by
  by_cases hb:b=a
  ·subst hb
   obtain⟨d',q'⟩:=S.dom i b e;obtain⟨a',e1,_,w⟩:=S.ow i d' q';rw[e] at e1;cases e1;obtain⟨u',q1,hh⟩:=w.soft;rw[q] at q1;cases q1;exact absurd (n rfl) hh
  ·rw[b7 hb]
   exact q
 have hN: ∀b,b=a->Nn B O b:=fun b z=> .inr ⟨i,z▸e⟩;have hin: ∀b,(∃u,H b=some u)-> ∃u,bH H a o b=some u:=fun b q0=>by
  obtain⟨u,q⟩:=q0;by_cases hb:b=a
  ·exact⟨o,by rw[hb];exact cO⟩
  ·exact⟨u,by rw[b7 hb];exact q⟩
 refine⟨by rw[Cc,S.len],fun j d' q=> ?_,fun j d' q=> ?_,fun j b q=> ?_,S.inj,S.old,fun b h=>hin b (S.zin b h),?_,S.par,fun b h=>hin b (S.pin b h),fun p hp=>(S.kep p hp).fr hf hN hN⟩
 ·rcases U1 q with⟨_,z,_⟩|⟨hj,q⟩
  ·cases z
  ·obtain⟨v,e1,r⟩:=S.va j d' q
   exact⟨v,e1,r.fr hf hN hN⟩
 ·rcases U1 q with⟨rfl,z,hl⟩|⟨hj,q⟩
  ·cases z
   obtain⟨d0,q0⟩:=S.dom j a e;obtain⟨a',e1,e2,_⟩:=S.ow j d0 q0;rw[e] at e1;cases e1;exact⟨a,e,e2,h⟩
  ·obtain⟨a',e1,e2,w⟩:=S.ow j d' q
   exact⟨a',e1,e2,w.fr hf hN fun z=>hj (S.inj j i a (z▸e1) e)⟩
 ·by_cases hj:j=i
  ·subst hj
   obtain⟨d0,q0⟩:=S.dom j b q;exact⟨d,by rw[De (Ae.mp q0).1]⟩
  ·obtain⟨d0,q0⟩:=S.dom j b q
   exact⟨d0,by rw[Bw (Dk hj)];exact q0⟩
 ·intro b u q n
  have h1:=S.frm b u q n;by_cases hb:b=a
  ·subst hb
   rcases(S.old i b e).2 with z|z
   ·obtain⟨d',q'⟩:=S.dom i b e
    obtain⟨a',e1,_,w⟩:=S.ow i d' q';rw[e] at e1;cases e1;obtain⟨u',q1,hh⟩:=w.soft;rw[h1] at q1;cases q1;exact absurd (n z) hh
   ·rw[q] at z
    cases z
  ·rw[b7 hb]
   exact h1
theorem aX.keepV(S:aX K ml B O H σ δ){ps:List (V×dF)}(h: ∀p∈ps,bU K (Nn B O) H (Nn B O) p.1 p.2):aX K ml {B with kp:=ps++B.kp} O H σ δ:=
 ⟨S.len,S.va,S.ow,S.dom,S.inj,S.old,S.zin,S.frm,S.par,S.pin,fun p hp=>(Bo.mp hp).elim (h p) (S.kep p)⟩
theorem aX.unkeep{ps:List (V×dF)}(S:aX K ml {B with kp:=ps++B.kp} O H σ δ):aX K ml B O H σ δ:=
 ⟨S.len,S.va,S.ow,S.dom,S.inj,S.old,S.zin,S.frm,S.par,S.pin,fun p hp=>S.kep p (Av _ hp)⟩
end
def rz(B:Bs):Addr->Prop:=fun a=>B.Z a∨ ∃i,B.mu i=some a
def av(B:Bs)(O:Nat->Option Addr)(b:Bool):Addr->Prop:=if b then Nn B O else fun a=>Nn B O a/\rz B a
def at_(B:Bs)(O:Nat->Option Addr)(b:Bool):Addr->Prop:=if b then Nn B O else fun _=>False
theorem zD1{B:Bs}{O:Nat->Option Addr}{b:Bool}: ∀a,at_ B O b a->av B O b a:=fun a h=>by
 cases b with
 |true=>exact h
 |false=>exact h.elim
theorem zC6{B:Bs}{O:Nat->Option Addr}{b c:Bool}(h:b=true->c=true): ∀a,at_ B O b a->at_ B O c a:=fun a z=>by
 cases b with
 |true=>rw[h rfl];exact z
 |false=>exact z.elim
theorem aX.rzn{K:Ap}{ml:List Nat}{B:Bs}{O:Nat->Option Addr}{H:Hp}{σ:St}{δ:Ev}(S:aX K ml B O H σ δ): ∀a,rz B a->Nn B O a:=fun a h=>by
 rcases h with h|⟨i,h⟩
 ·exact .inl h
 ·exact .inr ⟨i,(S.par.2 i (S.par.1 i a h)).trans h⟩
theorem aX.rza{K:Ap}{ml:List Nat}{B:Bs}{O:Nat->Option Addr}{H:Hp}{σ:St}{δ:Ev}(S:aX K ml B O H σ δ){b:Bool}: ∀a,rz B a->av B O b a:=fun a h=>by
 cases b with
 |true=>exact S.rzn a h
 |false=>exact⟨S.rzn a h,h⟩
theorem P9{B:Bs}{O:Nat->Option Addr}{b c:Bool}(h:b=true->c=true): ∀a,av B O b a->av B O c a:=fun a z=>by
 cases b with
 |true=>rw[h rfl];exact z
 |false=>cases c with
  |true=>exact z.1
  |false=>exact z
structure Res(K:Ap)(ml:List Nat)(B:Bs)(O:Nat->Option Addr)(H:Hp)(σ:St)(pu bt bi:Bool)(H':Hp)(δ':Ev)(v:V)(d:dF):Prop where
 sta:aX K ml B O H' σ δ'
 frm:Fr (OA O) H H'
 pur:pu=true->bL H H'
 rep:bU K (av B O bi) H' (at_ B O bt) v d
abbrev VF:=Ev->Option (dF×Ev)
def TV(K:Ap)(ml:List Nat)(pu bt bi:Bool)(f:VF):TE:=fun σ H Q=> ∃B O δ d δ',aX K ml B O H σ δ/\f δ=some (d,δ')/\ ∀v H',Res K ml B O H σ pu bt bi H' δ' v d->Q v H'
theorem PE.imp{X:Cx}{e:Expr}{t u:TE}(h:PE X e t)(k: ∀σ H Q,u σ H Q->t σ H Q):PE X e u:=fun aa s σ H Q I w=>h aa s σ H Q I (k σ H Q w)
theorem PT.imp{X:Cx}{e:Expr}{t u:TT}(h:PT X e t)(k: ∀σ H Q,u σ H Q->t σ H Q):PT X e u:=fun aa s σ H Q I w=>h aa s σ H Q I (k σ H Q w)
theorem PW.imp{X:Cx}{e:Expr}{t u:TT}(h:PW X e t)(k: ∀σ H Q,u σ H Q->t σ H Q):PW X e u:=fun bn aa s σ H Q I w=>h bn aa s σ H Q I (k σ H Q w)
theorem PA.imp{X:Cx}{e:List Expr}{t u:TA}(h:PA X e t)(k: ∀σ H Q,u σ H Q->t σ H Q):PA X e u:=fun pos aa s σ H Q I w=>h pos aa s σ H Q I (k σ H Q w)
theorem PS.imp{X:Cx}{e:Stmt}{t u:TS}(h:PS X e t)(k: ∀D σ H,u D σ H->t D σ H):PS X e u:=fun aa s σ H D I w=>h aa s σ H D I (k D σ H w)
theorem QP.imp{X:Cx}{e:List Stmt}{t u:TS}(h:QP X e t)(k: ∀D σ H,u D σ H->t D σ H):QP X e u:=fun aa s σ H D I w=>h aa s σ H D I (k D σ H w)
section
variable{X:Cx}{K:Ap}{ml:List Nat}{e a b c:Expr}{pa ta ia pb tb ib pc tc ic:Bool}{fa fb fc:VF}{r:R2}{o:dF->dF->Option dF}{B:Bs}{O:Nat->Option Addr}{H H1 H':Hp}{σ:St}{δ δ':Ev}{v:V}{d:dF}
def fC(d:dF):VF:=fun δ=>some (d,δ)
theorem Res.refl{pu bt bi:Bool}(S:aX K ml B O H σ δ)(h:bU K (av B O bi) H (at_ B O bt) v d):Res K ml B O H σ pu bt bi H δ v d:=⟨S,Fr.refl _ _,fun _=>bL.refl _,h⟩
theorem FL(h:PE X e (tC v))(hr: ∀N H M,bU K N H M v d):PE X e (TV K ml true true true (fC d)):=h.imp fun σ H Q q0=>by
 obtain⟨B,O,δ,d',δ',S,q,k⟩:=q0;cases q;exact k v H (Res.refl S (hr _ _ _))
theorem dC{i j pos}:PE X (.Constant (.int i) j pos) (TV K ml true true true (fC (.int i))):=FL zEL fun _ _ _=> .int i
theorem XU{i j pos}:PE X (.Constant (.bool i) j pos) (TV K ml true true true (fC (.bl i))):=FL zHO fun _ _ _=> .bl i
theorem MG{j pos}:PE X (.Constant .none j pos) (TV K ml true true true (fC .non)):=FL zEJ fun _ _ _=> .non
theorem cS{i j pos}:PE X (.Constant (.str i) j pos) (TV K ml true true true (fC (.str i))):=FL zEG fun _ _ _=> .str i
noncomputable def fV(i:Nat):VF:=fun δ=>match δ[i]? with
 |some (.va d)=>some (d,δ)
 |_=>none
noncomputable def fO(i:Nat):VF:=fun δ=>match δ[i]? with
 |some (.va d)=>some (d,δ)
 |some (.ow d)=>some (d,δ)
 |_=>none
theorem zD6{i:Nat}(h:PE X e (ME i)):PE X e (TV K ml true true true (fV i)):=h.imp fun σ H Q q0=>by
 obtain⟨B,O,δ,d',δ',S,q,k⟩:=q0;unfold fV at q;split at q
 ·rename_i d hd
  cases q;obtain⟨v,e1,r⟩:=S.va i _ hd;exact⟨v,e1,k v H (Res.refl S r)⟩
 ·cases q
theorem zD7{i:Nat}(h:PE X e (ME i)):PE X e (TV K ml true false true (fO i)):=h.imp fun σ H Q q0=>by
 obtain⟨B,O,δ,d',δ',S,q,k⟩:=q0;unfold fO at q;split at q
 ·rename_i d hd
  cases q;obtain⟨v,e1,r⟩:=S.va i _ hd;exact⟨v,e1,k v H (Res.refl S (r.mono (fun _ z=>z) fun a z=>z.elim))⟩
 ·rename_i d hd
  cases q;obtain⟨a,e1,e2,w⟩:=S.ow i _ hd;exact⟨.ref a,e2,k _ H (Res.refl S (w.rep fun z=>z))⟩
 ·cases q
theorem Res.live{H2:Hp}{v2:V}{d2:dF}(R2:Res K ml B O H1 σ pb tb ib H2 δ' v2 d2)(hs:(pb || (ta && ia))=true)(h:bU K (av B O ia) H1 (at_ B O ta) v d):bU K (av B O ia) H2 (at_ B O ta) v d:=by
 cases pb with
 |true=>exact h.same (R2.pur rfl)
 |false=>
  have hs:(ta && ia)=true:=by simpa using hs
  obtain⟨h1,h2⟩:=(Ad _ _).mp hs;subst h1 h2;exact h.fr R2.frm (fun a z=> .inr z) fun a z=> .inr z
noncomputable def f2(o:dF->dF->Option dF)(fa fb:VF):VF:=fun δ=>(fa δ).bind fun p=>(fb p.2).bind fun q=>(o p.1 q.1).map fun c=>(c,q.2)
theorem RO{δ2:Ev}(h:f2 o fa fb δ=some (d,δ2)): ∃x δ1 y,fa δ=some (x,δ1)/\fb δ1=some (y,δ2)/\o x y=some d:=by
 unfold f2 at h;cases h1:fa δ with
 |none=>rw[h1] at h;cases h
 |some p=>
  rw[h1] at h;cases h2:fb p.2 with
  |none=>simp[h2] at h
  |some q=>
   simp only[An,h2] at h;cases h3:o p.1 q.1 with
   |none=>rw[h3] at h;cases h
   |some c=>
    rw[h3] at h;cases h;exact⟨p.1,p.2,q.1,rfl,h2,h3⟩
def QW(K:Ap)(r:R2)(o:dF->dF->Option dF):Prop:= ∀(H:Hp) (N N' M M':Addr->Prop) (x y:V) (d e c:dF) (Q:VK),bU K N H M x d->bU K N' H M' y e->o d e=some c->(∀v,(∀H' N M,bU K N H' M v c)->Q v H)->r x y H Q
def OpC(K:Ap)(r:R2)(o:dF->dF->Option dF):Prop:= ∀(H:Hp) (N M M':Addr->Prop) (x y:V) (d e c:dF) (Q:VK),bU K N H M x d->bU K N H M' y e->o d e=some c→
 (∀v H',bL H H'->(∀M,(∀a,M a-> ∃o,H a=some o)->bU K N H' M v c)->Q v H')->r x y H Q
def OpI(K:Ap)(r:R2)(o:dF->dF->Option dF):Prop:= ∀(H:Hp) (N N' M M':Addr->Prop) (x y:V) (d e c:dF) (Q:VK),bU K N H M x d->bU K N' H M' y e->o d e=some c->(∀v,bU K N H N v c->Q v H)->r x y H Q
theorem JC(ho:QW K r o)(hs:(pb || (ta && ia))=true){Q:VK}(h:TV K ml (pa && pb) true true (f2 o fa fb) σ H Q):tOp r (TV K ml pa ta ia fa) (TV K ml pb tb ib fb) σ H Q:=by
 obtain⟨B,O,δ,d,δ2,S,q,k⟩:=h;obtain⟨x,δ1,y,h1,h2,h3⟩:=RO q;refine⟨B,O,δ,x,δ1,S,h1,fun v1 H1 R1=>⟨B,O,δ1,y,δ2,R1.sta,h2,fun v2 H2 R2=> ?_⟩⟩;exact ho H2 _ _ _ _ v1 v2 x y d Q (R2.live hs R1.rep) R2.rep h3 fun v hv=>k v H2 ⟨R2.sta,R1.frm.trans R2.frm,fun z=>by
  obtain⟨z1,z2⟩:=(Ad _ _).mp z;exact(R1.pur z1).trans (R2.pur z2),hv _ _ _⟩
theorem zDC(ho:OpC K r o)(hs:(pb || (ta && ia))=true){Q:VK}(h:TV K ml (pa && pb) true (ia && ib) (f2 o fa fb) σ H Q):tOp r (TV K ml pa ta ia fa) (TV K ml pb tb ib fb) σ H Q:=by
 obtain⟨B,O,δ,d,δ2,S,q,k⟩:=h;obtain⟨x,δ1,y,h1,h2,h3⟩:=RO q;refine⟨B,O,δ,x,δ1,S,h1,fun v1 H1 R1=>⟨B,O,δ1,y,δ2,R1.sta,h2,fun v2 H2 R2=> ?_⟩⟩;have g1: ∀a,av B O (ia && ib) a->av B O ia a:=P9 fun z=>((Ad _ _).mp z).1;have g2: ∀a,av B O (ia && ib) a->av B O ib a:=P9 fun z=>((Ad _ _).mp z).2;refine ho H2 (av B O (ia && ib)) _ _ v1 v2 x y d Q ((R2.live hs R1.rep).mono g1 fun _ z=>z) (R2.rep.mono g2 fun _ z=>z) h3 fun v H3 s3 hv=>k v H3 ⟨R2.sta.same s3,(R1.frm.trans R2.frm).trans s3.fr,fun z=> ?_,hv _ fun a z=>R2.sta.nin z⟩;obtain⟨z1,z2⟩:=(Ad _ _).mp z;exact((R1.pur z1).trans (R2.pur z2)).trans s3
theorem zDB(ho:OpI K r o)(hs:(pb || (ta && ia))=true){Q:VK}(h:TV K ml (pa && pb) ia ia (f2 o fa fb) σ H Q):tOp r (TV K ml pa ta ia fa) (TV K ml pb tb ib fb) σ H Q:=by
 obtain⟨B,O,δ,d,δ2,S,q,k⟩:=h;obtain⟨x,δ1,y,h1,h2,h3⟩:=RO q;refine⟨B,O,δ,x,δ1,S,h1,fun v1 H1 R1=>⟨B,O,δ1,y,δ2,R1.sta,h2,fun v2 H2 R2=> ?_⟩⟩;exact ho H2 _ _ _ _ v1 v2 x y d Q (R2.live hs R1.rep) R2.rep h3 fun v hv=>k v H2 ⟨R2.sta,R1.frm.trans R2.frm,fun z=>by
  obtain⟨z1,z2⟩:=(Ad _ _).mp z;exact(R1.pur z1).trans (R2.pur z2),hv.mono (fun _ z=>z) zD1⟩
theorem YR{op:Operator}{pos:Pos}(ho:XN X (Gj op) r)(hv:QW K r o)(ha:PE X a (TV K ml pa ta ia fa))(hb:PE X b (TV K ml pb tb ib fb))(hs:(pb || (ta && ia))=true:=by rfl):PE X (.BinOp a op b pos) (TV K ml (pa && pb) true true (f2 o fa fb)):=
 (zCN ho ha hb).imp fun _ _ _ h=>JC hv hs h
theorem ZZ{op:Operator}{pos:Pos}(ho:XN X (Gj op) r)(hv:OpC K r o)(ha:PE X a (TV K ml pa ta ia fa))(hb:PE X b (TV K ml pb tb ib fb))(hs:(pb || (ta && ia))=true:=by rfl):PE X (.BinOp a op b pos) (TV K ml (pa && pb) true (ia && ib) (f2 o fa fb)):=
 (zCN ho ha hb).imp fun _ _ _ h=>zDC hv hs h
theorem Y2{op:CmpOp}{pos:Pos}(ho:XN X (Dg op) r)(hv:QW K r o)(ha:PE X a (TV K ml pa ta ia fa))(hb:PE X b (TV K ml pb tb ib fb))(hm:Hq op b=false)(hs:(pb || (ta && ia))=true:=by rfl):PE X (.Compare a [op] [b] pos) (TV K ml (pa && pb) true true (f2 o fa fb)):=
 (zBB ho ha hb hm).imp fun _ _ _ h=>JC hv hs h
theorem zGK{pos:Pos}(ho:DT X r)(hv:OpI K r o)(ha:PE X a (TV K ml pa ta ia fa))(hb:PE X b (TV K ml pb tb ib fb))(hx:LD b)(hs:(pb || (ta && ia))=true:=by rfl):PE X (.Subscript a b pos) (TV K ml (pa && pb) ia ia (f2 o fa fb)):=
 (zHM ho ha hb hx).imp fun _ _ _ h=>zDB hv hs h
noncomputable def oI(C:Int->Int->Bool)(g:Int->Int->dF):dF->dF->Option dF
 | .int i,.int j=>if C i j=true then some (g i j) else none
 |_,_=>none
theorem A0{C:Int->Int->Bool}{g:Int->Int->dF}{d e c:dF}(h:oI C g d e=some c): ∃i j,d= .int i/\e= .int j/\C i j=true/\c=g i j:=by
 unfold oI at h;split at h
 ·split at h
  ·rename_i hc
   cases h;exact⟨_,_,rfl,rfl,hc,rfl⟩
  ·cases h
 ·cases h
theorem GN{C:Int->Int->Prop}{C':Int->Int->Bool}{g:Int->Int->V}{g':Int->Int->dF}(hC: ∀i j,C' i j=true->C i j)(hg: ∀i j N H M,bU K N H M (g i j) (g' i j)):QW K (rI C g) (oI C' g'):=by
 intro H N N' M M' x y d e c Q hx hy h k;obtain⟨i,j,rfl,rfl,hc,rfl⟩:=A0 h;cases hx;cases hy;exact⟨_,_,rfl,rfl,hC _ _ hc,k _ fun _ _ _=>hg ..⟩
theorem PK{g:Int->Int->V}{g':Int->Int->dF}(hg: ∀i j N H M,bU K N H M (g i j) (g' i j)):QW K (II g) (oI (fun _ _=>true) g'):=by
 intro H N N' M M' x y d e c Q hx hy h k;obtain⟨i,j,rfl,rfl,hc,rfl⟩:=A0 h;cases hx;cases hy;exact⟨_,_,rfl,rfl,k _ fun _ _ _=>hg ..⟩
noncomputable def cMul(i j:Int):Bool:=(decide (-18446744073709551616<i) && decide (i<18446744073709551616)) || (decide (-18446744073709551616<j) && decide (j<18446744073709551616))
noncomputable def cDiv(i j:Int):Bool:=decide (0<j) && decide (j<1073741824)
noncomputable def cPow(i j:Int):Bool:=decide (0<=j) && decide (j<=1000000) && decide (i.natAbs<18446744073709551616)
noncomputable abbrev N7:=oI (fun _ _=>true) fun i j=> .int (i - j)
noncomputable abbrev oMul:=oI cMul fun i j=> .int (i*j)
noncomputable abbrev GJ:=oI cDiv fun i j=> .int (i/j)
noncomputable abbrev L4:=oI (fun _ j=>decide (0<j)) fun i j=> .int (i % j)
noncomputable abbrev oPow:=oI cPow fun i j=> .int (i ^ j.toNat)
noncomputable abbrev oLt:=oI (fun _ _=>true) fun i j=> .bl (decide (i<j))
noncomputable abbrev oLe:=oI (fun _ _=>true) fun i j=> .bl (decide (i<=j))
noncomputable abbrev oGt:=oI (fun _ _=>true) fun i j=> .bl (decide (j<i))
noncomputable abbrev oGe:=oI (fun _ _=>true) fun i j=> .bl (decide (j<=i))
theorem PX:QW K (II fun i j=> .int (i - j)) N7:=PK fun i j _ _ _=> .int _
theorem zH1:QW K (rI DQ fun i j=> .int (i*j)) oMul:=GN (fun i j h=>by
 have p:(2:Int) ^ 64=18446744073709551616:=by decide
 unfold DQ;rw[p];simpa[cMul] using h) fun i j _ _ _=> .int _
theorem CC:QW K (rI CDiv fun i j=> .int (i/j)) GJ:=GN (fun i j h=>by show 0<j/\j<1073741824;simpa[cDiv] using h) fun i j _ _ _=> .int _
theorem Q7:QW K (rI (fun _ j=>0<j) fun i j=> .int (i % j)) L4:=GN (fun i j h=>by simpa using h) fun i j _ _ _=> .int _
theorem zH0:QW K (rI CPow fun i j=> .int (i ^ j.toNat)) oPow:=GN (fun i j h=>by
 have p:(2:Nat) ^ 64=18446744073709551616:=by decide
 unfold CPow;rw[p];simpa[cPow,and_assoc] using h) fun i j _ _ _=> .int _
theorem s_lt:QW K (II fun i j=> .bl (decide (i<j))) oLt:=PK fun i j _ _ _=> .bl _
theorem s_le:QW K (II fun i j=> .bl (decide (i<=j))) oLe:=PK fun i j _ _ _=> .bl _
theorem s_gt:QW K (II fun i j=> .bl (decide (j<i))) oGt:=PK fun i j _ _ _=> .bl _
theorem s_ge:QW K (II fun i j=> .bl (decide (j<=i))) oGe:=PK fun i j _ _ _=> .bl _
noncomputable def NB(d:dF):Bool:=d.isD && Em d.pd
def MY(d e:dF):Bool:=Jb d.pd e.pd
noncomputable def XO(d e:dF):Option dF:=if(NB d && NB e)=true then some (.bl (MY d e)) else none
noncomputable def OD(d e:dF):Option dF:=if(NB d && NB e)=true then some (.bl (!MY d e)) else none
theorem s_eq:QW K (rEqD K) XO:=by
 intro H N N' M M' x y d e c Q hx hy h k;unfold XO at h;split at h
 ·rename_i hh
  cases h;simp only[NB,Ad] at hh;exact⟨d.pd,e.pd,hx.dp hh.1.1,hy.dp hh.2.1,hh.1.2,hh.2.2,k _ fun _ _ _=> .bl _⟩
 ·cases h
theorem N8:QW K (rNeD K) OD:=by
 intro H N N' M M' x y d e c Q hx hy h k;unfold OD at h;split at h
 ·rename_i hh
  cases h;simp only[NB,Ad] at hh;exact⟨d.pd,e.pd,hx.dp hh.1.1,hy.dp hh.2.1,hh.1.2,hh.2.2,k _ fun _ _ _=> .bl _⟩
 ·cases h
noncomputable def isN:dF->Bool
 | .non=>true
 |_=>false
noncomputable def IA:dF->dF->Option dF
 |d,.non=>some (.bl (isN d))
 |_,_=>none
noncomputable def PF:dF->dF->Option dF
 |d,.non=>some (.bl (!isN d))
 |_,_=>none
theorem G5{N M:Addr->Prop}(h:bU K N H M v d):decide (v=V.non)=isN d:=by
 cases h<;>simp[isN]
theorem zH6:QW K (fun x y H Q=>y= .non/\Q (.bl (decide (x= .non))) H) IA:=by
  intro H N N' M M' x y d e c Q hx hy h k;cases hy<;>first
    | (cases h
       refine⟨rfl,?_⟩;rw[G5 hx];exact k _ fun _ _ _=> .bl _)
    |(simp[IA] at h)
theorem zDU:QW K (fun x y H Q=>y= .non/\Q (.bl (!decide (x= .non))) H) PF:=by
  intro H N N' M M' x y d e c Q hx hy h k;cases hy<;>first
    | (cases h
       refine⟨rfl,?_⟩;rw[G5 hx];exact k _ fun _ _ _=> .bl _)
    |(simp[PF] at h)
noncomputable def YZ:dF->Option (List dF)
 | .tup ds=>some ds
 | .lst ds=>some ds
 |_=>none
theorem bU.seq{N M:Addr->Prop}{ds:List dF}(h:bU K N H M v d)(e:YZ d=some ds): ∃a xs,v= .ref a/\(X9 K H a xs∨W9 K H a xs)/\cR K N H xs ds:=by
 cases h<;>first
  |(cases e;rename_i q r;exact⟨_,_,rfl,.inr q,r⟩)
  |(cases e;rename_i q n r;exact⟨_,_,rfl,.inl (X9.of q),r⟩)
  |(cases e;rename_i q r;exact⟨_,_,rfl,.inl q.sq,r⟩)
  |cases e
theorem zC7{N:Addr->Prop}{xs:List V}{ds:List dF}{i:Int}(r:cR K N H xs ds)(h:V4 ds i=some d): ∃v,V4 xs i=some v/\bU K N H N v d:=by
 unfold V4 at h⊢;rw[r.length];cases hi:ixN ds.length i with
 |none=>rw[hi] at h;cases h
 |some j=>
  rw[hi] at h;exact r.get h
end
section
variable{X:Cx}{K:Ap}{ml:List Nat}{e a b c:Expr}{es:List Expr}{pa ta ia pb tb ib pc tc ic pu bt bi ps bs:Bool}{fa fb fc:VF}{r r':R2}{o o':dF->dF->Option dF}{B:Bs}{O:Nat->Option Addr}{H H1 H':Hp}{σ:St}{δ δ':Ev}{v:V}{d:dF}{p:Addr}{pos:Pos}
theorem aX.unadd(S:aX K ml (B.add p) O H σ δ):aX K ml B O H σ δ where
 len:=S.len
 va:=fun i d e=>let ⟨v,a,b⟩:=S.va i d e;⟨v,a,b.mono UD UD⟩
 ow:=fun i d e=>let ⟨a,b,c,w⟩:=S.ow i d e;⟨a,b,c,w.mono UD⟩
 dom:=S.dom
 inj:=S.inj
 old:=fun i a h=>⟨fun z=>(S.old i a h).1 (.inl z),(S.old i a h).2⟩
 zin:=fun a h=>S.zin a (.inl h)
 frm:=S.frm
 par:=S.par
 pin:=S.pin
 kep:=fun p h=>(S.kep p h).mono UD UD
structure ResN(K:Ap)(ml:List Nat)(B:Bs)(O:Nat->Option Addr)(H:Hp)(σ:St)(pu:Bool)(H':Hp)(δ':Ev)(p:Addr)(d:dF):Prop where
 sta:aX K ml (B.add p) O H' σ δ'
 frm:Fr (OA O) H H'
 pur:pu=true->bL H H'
 own:P8 K (Nn (B.add p) O) H' p d
 nz: ¬Nn B O p
 h0:B.H0 p=none
def TN(K:Ap)(ml:List Nat)(pu:Bool)(f:VF):TE:=fun σ H Q=> ∃B O δ d δ',aX K ml B O H σ δ/\f δ=some (d,δ')/\ ∀p H',ResN K ml B O H σ pu H' δ' p d->Q (.ref p) H'
theorem bV{f:VF}(h:PE X e (TN K ml pu f)):PE X e (TV K ml pu true true f):=h.imp fun σ H Q ⟨B,O,δ,d,δ',S,q,k⟩=>
 ⟨B,O,δ,d,δ',S,q,fun p H' R=>k _ H' ⟨R.sta.unadd,R.frm,R.pur,(R.own.mono UD).rep R.nz⟩⟩
theorem mkN{xs:List V}{ds:List dF}(S:aX K ml B O H1 σ δ')(f:Fr (OA O) H H1)(s:pu=true->bL H H1)(hp:H1 p=none)(r:cR K (Nn B O) H1 xs ds):ResN K ml B O H σ pu (bH H1 p (.lst xs)) δ' p (.lst ds):=
 ⟨S.laid hp,f.trans (c6 hp).fr,fun z=>(s z).trans (c6 hp),.lst cO ((r.away hp _ _ XJ).same (c6 hp)),S.new hp,S.fresh hp⟩
theorem mkD(S:aX K ml B O H1 σ δ')(f:Fr (OA O) H H1)(s:pu=true->bL H H1)(hp:H1 p=none):ResN K ml B O H σ pu (bH H1 p (.dK [])) δ' p (.dct [] []):=
 ⟨S.laid hp,f.trans (c6 hp).fr,fun z=>(s z).trans (c6 hp),.dct (kvs:=[]) cO .nil,S.new hp,S.fresh hp⟩
theorem C8:PE X (.Dict [] [] pos) (TN K ml true (fC (.dct [] []))):=BD.imp fun σ H Q q0=>by
 obtain⟨B,O,δ,d,δ',S,q,k⟩:=q0;cases q;exact fun p hp=>k p _ (mkD S (Fr.refl _ _) (fun _=>bL.refl _) hp)
abbrev OC:=Ev->Option (List dF×Ev)
structure ResA(K:Ap)(ml:List Nat)(B:Bs)(O:Nat->Option Addr)(H:Hp)(σ:St)(pu b:Bool)(H':Hp)(δ':Ev)(vs:List V)(ds:List dF):Prop where
 sta:aX K ml B O H' σ δ'
 frm:Fr (OA O) H H'
 pur:pu=true->bL H H'
 rep:cR K (av B O b) H' vs ds
def TAV(K:Ap)(ml:List Nat)(pu b:Bool)(f:OC):TA:=fun σ H Q=> ∃B O δ d δ',aX K ml B O H σ δ/\f δ=some (d,δ')/\ ∀vs H',ResA K ml B O H σ pu b H' δ' vs d->Q vs H'
def cD:OC:=fun δ=>some ([],δ)
noncomputable def c9(fa:VF)(fs:OC):OC:=fun δ=>(fa δ).bind fun p=>(fs p.2).map fun q=>(p.1::q.1,q.2)
theorem EF{fs:OC}{ds:List dF}(h:c9 fa fs δ=some (ds,δ')): ∃x δ1 xs,fa δ=some (x,δ1)/\fs δ1=some (xs,δ')/\ds=x::xs:=by
 unfold c9 at h;cases h1:fa δ with
 |none=>rw[h1] at h;cases h
 |some p=>
  rw[h1] at h;cases h2:fs p.2 with
  |none=>simp[h2] at h
  |some q=>
   simp only[An,h2] at h;cases h;exact⟨p.1,p.2,q.1,rfl,h2,rfl⟩
theorem cW:PA X [] (TAV K ml true true cD):=Z8.imp fun σ H Q q0=>by
 obtain⟨B,O,δ,d,δ',S,q,k⟩:=q0;cases q;exact k [] H ⟨S,Fr.refl _ _,fun _=>bL.refl _,.nil⟩
theorem dE{fs:OC}(ha:PE X a (TV K ml pa ta ia fa))(hr:PA X es (TAV K ml ps bs fs))(hs:Aj (a::es) X.env=(false,eval a X.env)::Aj es X.env:=by rfl)(hl:(ps || (ta && ia))=true:=by rfl)(ht:ta=true:=by rfl):
  PA X (a::es) (TAV K ml (pa && ps) (ta && ia && bs) (c9 fa fs)):=(b5 ha hr hs).imp fun σ H Q ⟨B,O,δ,d,δ2,S,q,k⟩=>by
 obtain⟨x,δ1,xs,h1,h2,rfl⟩:=EF q;refine⟨B,O,δ,x,δ1,S,h1,fun v1 H1 R1=>⟨B,O,δ1,xs,δ2,R1.sta,h2,fun vs H2 R2=>k _ H2 ⟨R2.sta,R1.frm.trans R2.frm,fun z=> ?_,?_⟩⟩⟩
 ·obtain⟨z1,z2⟩:=(Ad _ _).mp z
  exact(R1.pur z1).trans (R2.pur z2)
 ·have g : ∀ c,((ta && ia && bs) = true -> c = true) -> ∀ a,av B O (ta && ia && bs) a -> av B O c a := fun c h => P9 h
  have g1:=g ta fun z=>by simp only[Ad] at z;exact z.1.1
  have g2:=g ia fun z=>by simp only[Ad] at z;exact z.1.2
  have g3:=g bs fun z=>by simp only[Ad] at z;exact z.2
  refine .cons ?_ (R2.rep.mono g3);have h:bU K (av B O ia) H2 (at_ B O ta) v1 x:=by
   cases ps with
   |true=>exact R1.rep.same (R2.pur rfl)
   |false=>
    have hs:(ta && ia)=true:=by simpa using hl
    obtain⟨h1,h2⟩:=(Ad _ _).mp hs;subst h1 h2;exact R1.rep.fr R2.frm (fun a z=> .inr z) fun a z=> .inr z
  subst ht;exact h.mono g2 g1
theorem aX.lone(S:aX K ml B O H σ δ){i:Nat}{x:dF}(hm:i∉ml)(h:fO i δ=some (x,δ')):δ'=δ/\ ∃v,σ[i]? =some (some v)/\bU K (av B O false) H (av B O false) v x:=by
 unfold fO at h;split at h
 ·rename_i d hd
  cases h;obtain⟨v,e1,r⟩:=S.va i _ hd;exact⟨rfl,v,e1,r.mono (fun a z=>z.1) fun a z=>z.1⟩
 ·rename_i d hd
  cases h;obtain⟨a,e1,e2,w⟩:=S.ow i _ hd;refine⟨rfl,.ref a,e2,(w.mono fun a z=>z.1).rep fun z=> ?_⟩;rcases z.2 with z|⟨j,z⟩
  ·exact(S.old i a e1).1 z
  ·have hj:=S.par.1 j a z
   have:i=j:=S.inj i j a e1 ((S.par.2 j hj).trans z);exact hm (this▸hj)
 ·cases h
noncomputable def Z4(fs:OC):VF:=fun δ=>(fs δ).bind fun p=>if p.1.length<=16777216 then some (.tup p.1,p.2) else none
noncomputable def Y7(fs:OC):VF:=fun δ=>(fs δ).bind fun p=>if p.1.length<=16777216 then some (.lst p.1,p.2) else none
theorem JU{fs:OC}{g:List dF->dF}(h:((fs δ).bind fun p=>if p.1.length<=16777216 then some (g p.1,p.2) else none)=some (d,δ')): ∃ds,fs δ=some (ds,δ')/\ds.length<=16777216/\d=g ds:=by
 cases h1:fs δ with
 |none=>rw[h1] at h;cases h
 |some p=>
  rw[h1] at h;have h:(if p.1.length<=16777216 then some (g p.1,p.2) else none)=some (d,δ'):=h;split at h
  ·cases h
   exact⟨p.1,rfl,by assumption,rfl⟩
  ·cases h
theorem bO{x1}{fs:OC}(h:PA X es (TAV K ml pu bs fs)):PE X (.Tuple es x1 pos) (TV K ml pu true bs (Z4 fs)):=(BH h).imp fun σ H Q q0=>by
 obtain⟨B,O,δ,d,δ',S,q,k⟩:=q0;obtain⟨ds,h1,hl,rfl⟩:=JU (g:=dF.tup) q;refine⟨B,O,δ,ds,δ',S,h1,fun vs H1 R=>⟨by rw[R.rep.length,Ct];exact hl,fun p hp=>k _ _ ⟨R.sta.same (c6 hp),R.frm.trans (c6 hp).fr,fun z=>(R.pur z).trans (c6 hp),.tup (W9.of cO) (R.rep.same (c6 hp))⟩⟩⟩
theorem aV{fs:OC}(h:PA X es (TAV K ml pu true fs)):PE X (.List es pos) (TN K ml pu (Y7 fs)):=(zEK h).imp fun σ H Q q0=>by
 obtain⟨B,O,δ,d,δ',S,q,k⟩:=q0;obtain⟨ds,h1,hl,rfl⟩:=JU (g:=dF.lst) q;exact⟨B,O,δ,ds,δ',S,h1,fun vs H1 R=>⟨by rw[R.rep.length,Ct];exact hl,fun p hp=>k p _ (mkN R.sta R.frm R.pur hp R.rep)⟩⟩
abbrev VB:=Ev->Option (Bool×Ev)
structure D0(K:Ap)(ml:List Nat)(B:Bs)(O:Nat->Option Addr)(H:Hp)(σ:St)(pu:Bool)(H':Hp)(δ':Ev):Prop where
 sta:aX K ml B O H' σ δ'
 frm:Fr (OA O) H H'
 pur:pu=true->bL H H'
def TB(K:Ap)(ml:List Nat)(pu:Bool)(f:VB):TT:=fun σ H Q=> ∃B O δ k δ',aX K ml B O H σ δ/\f δ=some (k,δ')/\ ∀H',D0 K ml B O H σ pu H' δ'->Q k H'
noncomputable def fB(f:VF):VB:=fun δ=>(f δ).bind fun p=>match p.1 with
 | .bl k=>some (k,p.2)
 |_=>none
theorem zG2{f:VF}{k:Bool}(h:fB f δ=some (k,δ')):f δ=some (.bl k,δ'):=by
 unfold fB at h;cases h1:f δ with
 |none=>rw[h1] at h;cases h
 |some p=>
  obtain⟨x,δ1⟩:=p;rw[h1] at h;cases x<;>first
   |(cases h;rfl)
   |cases h
theorem MF{f:VF}{t:TE}(ht: ∀σ H Q,TV K ml pu bt bi f σ H Q->t σ H Q){Q:Bool->Hp->Prop}(h:TB K ml pu (fB f) σ H Q):t σ H fun x H'=> ∃k,x= .bl k/\Q k H':=by
 obtain⟨B,O,δ,k,δ',S,q,w⟩:=h;refine ht σ H _ ⟨B,O,δ,.bl k,δ',S,zG2 q,fun v H' R=>⟨k,?_,w H' ⟨R.sta,R.frm,R.pur⟩⟩⟩;cases R.rep;rfl
theorem bT{op:CmpOp}(ho:XN X (Dg op) r)(hv:QW K r o)(ha:PE X a (TV K ml pa ta ia fa))(hb:PE X b (TV K ml pb tb ib fb))(hm:Hq op b=false)(hs:(pb || (ta && ia))=true:=by rfl):PT X (.Compare a [op] [b] pos) (TB K ml (pa && pb) (fB (f2 o fa fb))):=
 (zB2 ho ha hb hm).imp fun _ _ _ h=>MF (fun _ _ _=>JC hv hs) h
theorem ZW{f:VF}(h:PE X e (TV K ml pu bt bi f))(he: ∀bn,isTrue e X.env bn=(do let v<- bn;Oh e.pos;holding [v] (truthy v)):=by intro _;rfl):PT X e (TB K ml pu (fB f)):=
 (zE5 h he).imp fun _ _ _ h=>MF (fun _ _ _ z=>z) h
noncomputable def SM(x y:VB):VB:=fun δ=>(x δ).bind fun p=>if p.1=true then y p.2 else some (false,p.2)
noncomputable def FT(x y:VB):VB:=fun δ=>(x δ).bind fun p=>if p.1=true then some (true,p.2) else y p.2
noncomputable def RG(x:VB):VB:=fun δ=>(x δ).map fun p=>(!p.1,p.2)
theorem D0.refl(S:aX K ml B O H σ δ):D0 K ml B O H σ pu H δ:=⟨S,Fr.refl _ _,fun _=>bL.refl _⟩
theorem zDE{x y:VB}{Q:Bool->Hp->Prop}(h:TB K ml (pa && pb) (SM x y) σ H Q):tAnd (TB K ml pa x) (TB K ml pb y) σ H Q:=by
 obtain⟨B,O,δ,k,δ',S,q,w⟩:=h;unfold SM at q;cases h1:x δ with
 |none=>rw[h1] at q;cases q
 |some p=>
  obtain⟨kk,δ1⟩:=p;rw[h1] at q;refine⟨B,O,δ,kk,δ1,S,h1,fun H1 R1=> ?_⟩;cases kk with
  |true=>
   have q:y δ1=some (k,δ'):=q;exact QT ⟨B,O,δ1,k,δ',R1.sta,q,fun H2 R2=>w H2 ⟨R2.sta,R1.frm.trans R2.frm,fun z=>by
    obtain⟨z1,z2⟩:=(Ad _ _).mp z;exact(R1.pur z1).trans (R2.pur z2)⟩⟩
  |false=>
   have q:some (false,δ1)=some (k,δ'):=q;cases q;exact QS (w H1 ⟨R1.sta,R1.frm,fun z=>R1.pur ((Ad _ _).mp z).1⟩)
theorem zGL{x y:VB}{Q:Bool->Hp->Prop}(h:TB K ml (pa && pb) (FT x y) σ H Q):tOr (TB K ml pa x) (TB K ml pb y) σ H Q:=by
 obtain⟨B,O,δ,k,δ',S,q,w⟩:=h;unfold FT at q;cases h1:x δ with
 |none=>rw[h1] at q;cases q
 |some p=>
  obtain⟨kk,δ1⟩:=p;rw[h1] at q;refine⟨B,O,δ,kk,δ1,S,h1,fun H1 R1=> ?_⟩;cases kk with
  |false=>
   have q:y δ1=some (k,δ'):=q;exact QS ⟨B,O,δ1,k,δ',R1.sta,q,fun H2 R2=>w H2 ⟨R2.sta,R1.frm.trans R2.frm,fun z=>by
    obtain⟨z1,z2⟩:=(Ad _ _).mp z;exact(R1.pur z1).trans (R2.pur z2)⟩⟩
  |true=>
   have q:some (true,δ1)=some (k,δ'):=q;cases q;exact QT (w H1 ⟨R1.sta,R1.frm,fun z=>R1.pur ((Ad _ _).mp z).1⟩)
theorem XG{x:VB}(h:PT X a (TB K ml pu x)):PT X (.UnaryOp .Not a pos) (TB K ml pu (RG x)):=(zE6 h).imp fun σ H Q q0=>by
 obtain⟨B,O,δ,k,δ',S,q,w⟩:=q0;unfold RG at q;cases h1:x δ with
 |none=>rw[h1] at q;cases q
 |some p=>
  rw[h1] at q;cases q;exact⟨B,O,δ,p.1,p.2,S,h1,w⟩
theorem TZ{x:VB}(h:PT X a (TB K ml pu x)):PW X (.BoolOp .And [a] pos) (TB K ml pu x):=zAZ h
theorem WV{x:VB}(h:PT X a (TB K ml pu x)):PW X (.BoolOp .Or [a] pos) (TB K ml pu x):=zE2 h
theorem P6{x y:VB}(ha:PT X a (TB K ml pa x))(hb:PW X (.BoolOp .And (b::es) pos) (TB K ml pb y)):PW X (.BoolOp .And (a::b::es) pos) (TB K ml (pa && pb) (SM x y)):=(zE3 ha hb).imp fun _ _ _ h=>zDE h
theorem T0{x y:VB}(ha:PT X a (TB K ml pa x))(hb:PW X (.BoolOp .Or (b::es) pos) (TB K ml pb y)):PW X (.BoolOp .Or (a::b::es) pos) (TB K ml (pa && pb) (FT x y)):=(zHI ha hb).imp fun _ _ _ h=>zGL h
theorem TY{x:VB}(h:PW X e (TB K ml pu x)):PT X e (TB K ml pu x):=h.pt
noncomputable def VA(x y:VF):VF:=fun δ=>(x δ).bind fun p=>match p.1 with
 | .bl true=>y p.2
 | .bl false=>some (.bl false,p.2)
 |_=>none
noncomputable def fOr(x y:VF):VF:=fun δ=>(x δ).bind fun p=>match p.1 with
 | .bl false=>y p.2
 | .bl true=>some (.bl true,p.2)
 |_=>none
noncomputable def fNot(x:VF):VF:=fun δ=>(x δ).bind fun p=>match p.1 with
 | .bl k=>some (.bl (!k),p.2)
 |_=>none
theorem Y3{op}{f:VF}(h:PE X a (TV K ml pu bt bi f)):PE X (.BoolOp op [a] pos) (TV K ml pu bt bi f):=zEH h
theorem Y1(ha:PE X a (TV K ml pa ta ia fa))(hb:PE X (.BoolOp .And (b::es) pos) (TV K ml pb tb ib fb)):PE X (.BoolOp .And (a::b::es) pos) (TV K ml (pa && pb) tb ib (VA fa fb)):=(zEM ha hb).imp fun σ H Q q0=>by
 obtain⟨B,O,δ,d,δ',S,q,k⟩:=q0;unfold VA at q;cases h1:fa δ with
 |none=>rw[h1] at q;cases q
 |some p=>
  obtain⟨x,δ1⟩:=p;rw[h1] at q;refine⟨B,O,δ,x,δ1,S,h1,fun v1 H1 R1=> ?_⟩;cases x with
  |bl kk=>
   have e1:v1= .bl kk:=by cases R1.rep;rfl
   refine⟨kk,e1,?_⟩;cases kk with
   |true=>
    exact QT ⟨B,O,δ1,d,δ',R1.sta,q,fun v2 H2 R2=>k v2 H2 ⟨R2.sta,R1.frm.trans R2.frm,fun z=>by
     obtain⟨z1,z2⟩:=(Ad _ _).mp z;exact(R1.pur z1).trans (R2.pur z2),R2.rep⟩⟩
   |false=>
    cases q;exact QS (k _ H1 ⟨R1.sta,R1.frm,fun z=>R1.pur ((Ad _ _).mp z).1,.bl _⟩)
  |_=>cases q
theorem zC9(ha:PE X a (TV K ml pa ta ia fa))(hb:PE X (.BoolOp .Or (b::es) pos) (TV K ml pb tb ib fb)):PE X (.BoolOp .Or (a::b::es) pos) (TV K ml (pa && pb) tb ib (fOr fa fb)):=(zHL ha hb).imp fun σ H Q q0=>by
 obtain⟨B,O,δ,d,δ',S,q,k⟩:=q0;unfold fOr at q;cases h1:fa δ with
 |none=>rw[h1] at q;cases q
 |some p=>
  obtain⟨x,δ1⟩:=p;rw[h1] at q;refine⟨B,O,δ,x,δ1,S,h1,fun v1 H1 R1=> ?_⟩;cases x with
  |bl kk=>
   have e1:v1= .bl kk:=by cases R1.rep;rfl
   refine⟨kk,e1,?_⟩;cases kk with
   |false=>
    exact QS ⟨B,O,δ1,d,δ',R1.sta,q,fun v2 H2 R2=>k v2 H2 ⟨R2.sta,R1.frm.trans R2.frm,fun z=>by
     obtain⟨z1,z2⟩:=(Ad _ _).mp z;exact(R1.pur z1).trans (R2.pur z2),R2.rep⟩⟩
   |true=>
    cases q;exact QT (k _ H1 ⟨R1.sta,R1.frm,fun z=>R1.pur ((Ad _ _).mp z).1,.bl _⟩)
  |_=>cases q
theorem zD8(ha:PE X a (TV K ml pa ta ia fa)):PE X (.UnaryOp .Not a pos) (TV K ml pa true true (fNot fa)):=(zEI ha).imp fun σ H Q q0=>by
 obtain⟨B,O,δ,d,δ',S,q,k⟩:=q0;unfold fNot at q;cases h1:fa δ with
 |none=>rw[h1] at q;cases q
 |some p=>
  obtain⟨x,δ1⟩:=p;rw[h1] at q;refine⟨B,O,δ,x,δ1,S,h1,fun v1 H1 R1=> ?_⟩;cases x with
  |bl kk=>
   have e1:v1= .bl kk:=by cases R1.rep;rfl
   cases q;exact⟨kk,e1,k _ H1 ⟨R1.sta,R1.frm,R1.pur,.bl _⟩⟩
  |_=>cases q
noncomputable def fIf(t:VB)(x y:VF):VF:=fun δ=>(t δ).bind fun p=>if p.1=true then x p.2 else y p.2
theorem NR{t:VB}(ht:PT X c (TB K ml pc t))(ha:PE X a (TV K ml pa ta ia fa))(hb:PE X b (TV K ml pb tb ib fb)):PE X (.IfExp c a b pos) (TV K ml (pc && pa && pb) (ta && tb) (ia && ib) (fIf t fa fb)):=(BF ht ha hb).imp fun σ H Q q0=>by
 obtain⟨B,O,δ,d,δ',S,q,k⟩:=q0;unfold fIf at q;cases h1:t δ with
 |none=>rw[h1] at q;cases q
 |some p=>
  obtain⟨kk,δ1⟩:=p;rw[h1] at q;refine⟨B,O,δ,kk,δ1,S,h1,fun H1 R1=> ?_⟩;have g1: ∀c,((ta && tb)=true->c=true)-> ∀a,at_ B O (ta && tb) a->at_ B O c a:=fun c h=>zC6 h;have g2: ∀c,((ia && ib)=true->c=true)-> ∀a,av B O (ia && ib) a->av B O c a:=fun c h=>P9 h;cases kk with
  |true=>
   exact QT ⟨B,O,δ1,d,δ',R1.sta,q,fun v2 H2 R2=>k v2 H2 ⟨R2.sta,R1.frm.trans R2.frm,fun z=>by
    simp only[Ad] at z;exact(R1.pur z.1.1).trans (R2.pur z.1.2),R2.rep.mono (g2 _ fun z=>((Ad _ _).mp z).1) (g1 _ fun z=>((Ad _ _).mp z).1)⟩⟩
  |false=>
   exact QS ⟨B,O,δ1,d,δ',R1.sta,q,fun v2 H2 R2=>k v2 H2 ⟨R2.sta,R1.frm.trans R2.frm,fun z=>by
    simp only[Ad] at z;exact(R1.pur z.1.1).trans (R2.pur z.2),R2.rep.mono (g2 _ fun z=>((Ad _ _).mp z).2) (g1 _ fun z=>((Ad _ _).mp z).2)⟩⟩
noncomputable def f3(o o':dF->dF->Option dF)(fa fb fc:VF):VF:=fun δ=>(fa δ).bind fun p=>(fb p.2).bind fun q=>(o p.1 q.1).bind fun z=>match z with
 | .bl true=>(fc q.2).bind fun s=>(o' q.1 s.1).map fun u=>(u,s.2)
 | .bl false=>some (.bl false,q.2)
 |_=>none
theorem K2(ho:QW K r o)(ho':QW K r' o')(hs:(pb || (ta && ia))=true)(hs':(pc || (tb && ib))=true){Q:VK}(h:TV K ml (pa && pb && pc) true true (f3 o o' fa fb fc) σ H Q):IW r r' (TV K ml pa ta ia fa) (TV K ml pb tb ib fb) (TV K ml pc tc ic fc) σ H Q:=by
 obtain⟨B,O,δ,d,δ3,S,q,k⟩:=h;unfold f3 at q;cases h1:fa δ with
 |none=>rw[h1] at q;cases q
 |some p=>
  obtain⟨x,δ1⟩:=p;rw[h1] at q;cases h2:fb δ1 with
  |none=>simp[h2] at q
  |some p2=>
   obtain⟨y,δ2⟩:=p2;simp only[An,h2] at q;refine⟨B,O,δ,x,δ1,S,h1,fun v1 H1 R1=>⟨B,O,δ1,y,δ2,R1.sta,h2,fun v2 H2 R2=> ?_⟩⟩;cases h3:o x y with
   |none=>rw[h3] at q;cases q
   |some z=>
    rw[h3] at q;refine ho H2 _ _ _ _ v1 v2 x y z _ (R2.live hs R1.rep) R2.rep h3 fun v hv=> ?_;have hv:=hv (fun _=>none) (fun _=>True) fun _=>True;cases z with
    |bl kk=>
     have e1:v= .bl kk:=by cases hv;rfl
     refine⟨kk,e1,?_⟩;cases kk with
     |false=>
      cases q;exact QS (k _ H2 ⟨R2.sta,R1.frm.trans R2.frm,fun z=>by
       simp only[Ad] at z;exact(R1.pur z.1.1).trans (R2.pur z.1.2),.bl _⟩)
     |true=>
      have q:((fc δ2).bind fun s=>(o' y s.1).map fun u=>(u,s.2))=some (d,δ3):=q;cases h4:fc δ2 with
      |none=>rw[h4] at q;cases q
      |some p4=>
       obtain⟨z4,δ4⟩:=p4;rw[h4] at q;have q:((o' y z4).map fun u=>(u,δ4))=some (d,δ3):=q;cases h5:o' y z4 with
       |none=>rw[h5] at q;cases q
       |some u=>
        rw[h5] at q;cases q;refine QT ⟨B,O,δ2,z4,_,R2.sta,h4,fun v4 H4 R4=> ?_⟩;exact ho' H4 _ _ _ _ v2 v4 y z4 d Q (R4.live hs' R2.rep) R4.rep h5 fun v hv=>k v H4 ⟨R4.sta,(R1.frm.trans R2.frm).trans R4.frm,fun z=>by
         simp only[Ad] at z;exact((R1.pur z.1.1).trans (R2.pur z.1.2)).trans (R4.pur z.2),hv _ _ _⟩
    |_=>cases q
theorem C2{op op':CmpOp}(ho:XN X (Dg op) r)(ho':XN X (Dg op') r')(hv:QW K r o)(hv':QW K r' o')(ha:PE X a (TV K ml pa ta ia fa))(hb:PE X b (TV K ml pb tb ib fb))(hc:PE X c (TV K ml pc tc ic fc))
  (hm:Qh [op,op'] [b,c]=false:=by with_unfolding_all rfl) (hs:(pb || (ta && ia))=true:=by rfl) (hs':(pc || (tb && ib))=true:=by rfl):PE X (.Compare a [op,op'] [b,c] pos) (TV K ml (pa && pb && pc) true true (f3 o o' fa fb fc)):=
 (BA ho ho' ha hb hc hm).imp fun _ _ _ h=>K2 hv hv' hs hs' h
theorem DC{op op':CmpOp}(ho:XN X (Dg op) r)(ho':XN X (Dg op') r')(hv:QW K r o)(hv':QW K r' o')(ha:PE X a (TV K ml pa ta ia fa))(hb:PE X b (TV K ml pb tb ib fb))(hc:PE X c (TV K ml pc tc ic fc))
  (hm:Qh [op,op'] [b,c]=false:=by with_unfolding_all rfl) (hs:(pb || (ta && ia))=true:=by rfl) (hs':(pc || (tb && ib))=true:=by rfl):PT X (.Compare a [op,op'] [b,c] pos) (TB K ml (pa && pb && pc) (fB (f3 o o' fa fb fc))):=
 (BN ho ho' ha hb hc hm).imp fun _ _ _ h=>MF (fun _ _ _=>K2 hv hv' hs hs') h
end
section
variable{X:Cx}{K:Ap}{ml:List Nat}{e a b c:Expr}{es:List Expr}{pa ta ia pb tb ib pc tc ic pu bt bi ps bs:Bool}{fa fb fc:VF}{B:Bs}{O:Nat->Option Addr}{H H1 H':Hp}{σ:St}{δ δ':Ev}{v:V}{d:dF}{p:Addr}{pos:Pos}
noncomputable def f1(o:dF->Option dF)(fa:VF):VF:=fun δ=>(fa δ).bind fun p=>(o p.1).map fun c=>(c,p.2)
theorem OO{o:dF->Option dF}(h:f1 o fa δ=some (d,δ')): ∃x,fa δ=some (x,δ')/\o x=some d:=by
 unfold f1 at h;cases h1:fa δ with
 |none=>rw[h1] at h;cases h
 |some p=>
  rw[h1] at h;have h:((o p.1).map fun c=>(c,p.2))=some (d,δ'):=h;cases h3:o p.1 with
  |none=>rw[h3] at h;cases h
  |some c=>
   rw[h3] at h;cases h;exact⟨p.1,rfl,h3⟩
abbrev RC:=List V->Hp->VK->Prop
def DS(K:Ap)(r:RC)(o:dF->Option dF):Prop:= ∀(H:Hp) (N M:Addr->Prop) (x:V) (d c:dF) (Q:VK),bU K N H M x d->o d=some c->(∀v,(∀H' N M,bU K N H' M v c)->Q v H)->r [x] H Q
def CalC(K:Ap)(r:RC)(o:dF->Option dF):Prop:= ∀(H:Hp) (N M:Addr->Prop) (x:V) (d c:dF) (Q:VK),bU K N H M x d->o d=some c→
 (∀v H',bL H H'->(∀M,(∀a,M a-> ∃o,H a=some o)->bU K N H' M v c)->Q v H')->r [x] H Q
def DR(K:Ap)(r:RC)(o:dF->Option dF):Prop:= ∀(H:Hp) (N M:Addr->Prop) (x:V) (d c:dF) (Q:VK),bU K N H M x d->o d=some c→
 (∀p xs ds,H p=none->cR K N H xs ds->c= .lst ds->Q (.ref p) (bH H p (.lst xs)))->r [x] H Q
def MJ(K:Ap)(r:RC)(o:dF->dF->Option dF):Prop:= ∀(H:Hp) (N N' M M':Addr->Prop) (x y:V) (d e c:dF) (Q:VK),bU K N H M x d->bU K N' H M' y e->o d e=some c->(∀v,(∀H' N M,bU K N H' M v c)->Q v H)->r [x,y] H Q
theorem FJ{r:RC}{o:dF->Option dF}(ho:DS K r o){Q:VK}(h:TV K ml pa true true (f1 o fa) σ H Q):tCB r (NM (TV K ml pa ta ia fa) CQ) σ H Q:=by
 obtain⟨B,O,δ,d,δ',S,q,k⟩:=h;obtain⟨x,h1,h2⟩:=OO q;exact⟨B,O,δ,x,δ',S,h1,fun v1 H1 R1=>ho H1 _ _ v1 x d Q R1.rep h2 fun v hv=>k v H1 ⟨R1.sta,R1.frm,R1.pur,hv _ _ _⟩⟩
theorem FI{r:RC}{o:dF->Option dF}(ho:CalC K r o){Q:VK}(h:TV K ml pa true ia (f1 o fa) σ H Q):tCB r (NM (TV K ml pa ta ia fa) CQ) σ H Q:=by
 obtain⟨B,O,δ,d,δ',S,q,k⟩:=h;obtain⟨x,h1,h2⟩:=OO q;exact⟨B,O,δ,x,δ',S,h1,fun v1 H1 R1=>ho H1 _ _ v1 x d Q R1.rep h2 fun v H2 s2 hv=>k v H2 ⟨R1.sta.same s2,R1.frm.trans s2.fr,fun z=>(R1.pur z).trans s2,hv _ fun a z=>R1.sta.nin z⟩⟩
theorem NO{r:RC}{o:dF->Option dF}(ho:DR K r o){Q:VK}(h:TN K ml pa (f1 o fa) σ H Q):tCB r (NM (TV K ml pa ta true fa) CQ) σ H Q:=by
 obtain⟨B,O,δ,d,δ',S,q,k⟩:=h;obtain⟨x,h1,h2⟩:=OO q;refine⟨B,O,δ,x,δ',S,h1,fun v1 H1 R1=>ho H1 _ _ v1 x d Q R1.rep h2 fun p xs ds hp hr he=> ?_⟩;subst he;exact k p _ (mkN R1.sta R1.frm R1.pur hp hr)
theorem FK{r:RC}{o:dF->dF->Option dF}(ho:MJ K r o)(hs:(pb || (ta && ia))=true){Q:VK}(h:TV K ml (pa && pb) true true (f2 o fa fb) σ H Q):tCB r (NM (TV K ml pa ta ia fa) (NM (TV K ml pb tb ib fb) CQ)) σ H Q:=by
 obtain⟨B,O,δ,d,δ2,S,q,k⟩:=h;obtain⟨x,δ1,y,h1,h2,h3⟩:=RO q;refine⟨B,O,δ,x,δ1,S,h1,fun v1 H1 R1=>⟨B,O,δ1,y,δ2,R1.sta,h2,fun v2 H2 R2=> ?_⟩⟩;exact ho H2 _ _ _ _ v1 v2 x y d Q (R2.live hs R1.rep) R2.rep h3 fun v hv=>k v H2 ⟨R2.sta,R1.frm.trans R2.frm,fun z=>by
  obtain⟨z1,z2⟩:=(Ad _ _).mp z;exact(R1.pur z1).trans (R2.pur z2),hv _ _ _⟩
section
variable{x:Str}{p':Pos}{id T:String}{r:RC}
theorem C0{o:dF->Option dF}(hc:aY X (.builtin id) r)(ho:DS K r o)(hg:Gl X x)(hm:X.mg x=none)(hv:Bh x=some (.builtin id))(ha:PE X a (TV K ml pa ta ia fa))(hn:x≠ "__name__":=by decide) (hdb:(x==("__debug__":Str))=false:=by decide)
  (he:Aj (a::[]) X.env=(false,eval a X.env)::Aj [] X.env:=by rfl):PE X (.Call (.Name x p') [a] [] pos) (TV K ml pa true true (f1 o fa)):=
 (PL hc hg hm hv (b5 ha Z8 he) hn hdb he).imp fun _ _ _ h=>FJ ho h
theorem C1{o:dF->dF->Option dF}(hc:aY X (.builtin id) r)(ho:MJ K r o)(hg:Gl X x)(hm:X.mg x=none)(hv:Bh x=some (.builtin id))(ha:PE X a (TV K ml pa ta ia fa))(hb:PE X b (TV K ml pb tb ib fb))(hn:x≠ "__name__":=by decide) (hdb:(x==("__debug__":Str))=false:=by decide)
  (he:Aj (a::[b]) X.env=(false,eval a X.env)::Aj [b] X.env:=by rfl) (he2:Aj (b::[]) X.env=(false,eval b X.env)::Aj [] X.env:=by rfl) (hpl:(Gc pos (Aj [b] X.env)).any (·.1)=false:=by rfl) (hs:(pb || (ta && ia))=true:=by rfl):
  PE X (.Call (.Name x p') [a,b] [] pos) (TV K ml (pa && pb) true true (f2 o fa fb)):=
 (PL hc hg hm hv (b5 ha (b5 hb Z8 he2) he) hn hdb he hpl).imp fun _ _ _ h=>FK ho hs h
theorem K4{o:dF->Option dF}(hc:aY X (.type T) r)(ho:CalC K r o)(hg:Gl X x)(hm:X.mg x=none)(hv:Bh x=some (.type T))(ha:PE X a (TV K ml pa ta ia fa))(hn:x≠ "__name__":=by decide) (hdb:(x==("__debug__":Str))=false:=by decide)
  (he:Aj (a::[]) X.env=(false,eval a X.env)::Aj [] X.env:=by rfl):PE X (.Call (.Name x p') [a] [] pos) (TV K ml pa true ia (f1 o fa)):=
 (W3 hc hg hm hv (b5 ha Z8 he) hn hdb he).imp fun _ _ _ h=>FI ho h
theorem zC8{o:dF->Option dF}(hc:aY X (.type T) r)(ho:DR K r o)(hg:Gl X x)(hm:X.mg x=none)(hv:Bh x=some (.type T))(ha:PE X a (TV K ml pa ta true fa))(hn:x≠ "__name__":=by decide) (hdb:(x==("__debug__":Str))=false:=by decide)
  (he:Aj (a::[]) X.env=(false,eval a X.env)::Aj [] X.env:=by rfl):PE X (.Call (.Name x p') [a] [] pos) (TN K ml pa (f1 o fa)):=
 (W3 hc hg hm hv (b5 ha Z8 he) hn hdb he).imp fun _ _ _ h=>NO ho h
theorem C7{o:dF->Option dF}(hc:aY X (.builtin id) r)(ho:DR K r o)(hg:Gl X x)(hm:X.mg x=none)(hv:Bh x=some (.builtin id))(ha:PE X a (TV K ml pa ta true fa))(hn:x≠ "__name__":=by decide) (hdb:(x==("__debug__":Str))=false:=by decide)
  (he:Aj (a::[]) X.env=(false,eval a X.env)::Aj [] X.env:=by rfl):PE X (.Call (.Name x p') [a] [] pos) (TN K ml pa (f1 o fa)):=
 (PL hc hg hm hv (b5 ha Z8 he) hn hdb he).imp fun _ _ _ h=>NO ho h
end
noncomputable def Y8:dF->Option dF
 | .tup ds=>some (.int ds.length)
 | .lst ds=>some (.int ds.length)
 | .str z=>if z.length<=16777216 then some (.int z.length) else none
 |_=>none
def rLen(K:Ap):RC:=fun xs H Q=>(∃p ys,xs=[.ref p]/\(X9 K H p ys∨W9 K H p ys)/\Q (.int ys.length) H)∨ ∃z,xs=[.str z]/\z.length<=sizeLine/\Q (.int z.length) H
theorem zIB(h:X.K=K):aY X (.builtin "len") (rLen K):=by subst h;exact LK.or LL
theorem zH4:DS K (rLen K) Y8:=by
  intro H N M x d c Q hx h k;cases d<;>first
    | (rename_i ds
       obtain⟨a,xs,rfl,sq,r⟩:=hx.seq rfl;cases h;refine .inl ⟨a,xs,rfl,sq,?_⟩;rw[r.length];exact k _ fun _ _ _=> .int _)
    | (cases hx
       simp only[Y8] at h;split at h
       · cases h
         exact .inr ⟨_,rfl,by rw[Ct];assumption,k _ fun _ _ _=> .int _⟩
       · cases h)
    |cases h
noncomputable def KB(d:dF):Option dF:=(YZ d).map dF.lst
noncomputable def VR(d:dF):Option dF:=(YZ d).map dF.tup
def BW(K:Ap):RC:=fun xs H Q=> ∃p ys,xs=[.ref p]/\(X9 K H p ys∨W9 K H p ys)/\ ∀l,H l=none->Q (.ref l) (bH H l (.lst ys))
def G2(K:Ap):RC:=fun xs H Q=> ∃p ys,xs=[.ref p]/\((X9 K H p ys/\ ∀l,H l=none->Q (.ref l) (bH H l (.tup ys)))∨(W9 K H p ys/\Q (.ref p) H))
theorem AJ(h:X.K=K):aY X (.type "list") (BW K):=zIA h
theorem SZ(h:X.K=K):aY X (.type "tuple") (G2 K):=zFV h
theorem KW{d:dF}{g:List dF->dF}{c:dF}(h:(YZ d).map g=some c): ∃ds,YZ d=some ds/\c=g ds:=by
 cases h1:YZ d with
 |none=>rw[h1] at h;cases h
 |some ds=>rw[h1] at h;cases h;exact⟨ds,rfl,rfl⟩
theorem RX:DR K (BW K) KB:=by
 intro H N M x d c Q hx h k;obtain⟨ds,h1,rfl⟩:=KW h;obtain⟨a,xs,rfl,sq,r⟩:=hx.seq h1;exact⟨a,xs,rfl,sq,fun l hl=>k l xs ds hl r rfl⟩
theorem SQ:CalC K (G2 K) VR:=by
 intro H N M x d c Q hx h k;obtain⟨ds,h1,rfl⟩:=KW h;obtain⟨a,xs,rfl,sq,r⟩:=hx.seq h1;rcases sq with sq|sq
 ·exact⟨a,xs,rfl,.inl ⟨sq,fun l hl=>k _ _ (c6 hl) fun M hM=> .tup (W9.of cO) (r.same (c6 hl))⟩⟩
 ·exact⟨a,xs,rfl,.inr ⟨sq,k _ _ (bL.refl _) fun M hM=> .tup sq r⟩⟩
noncomputable def o2I(g:Int->Int->Int):dF->dF->Option dF
 | .int i,.int j=>some (.int (g i j))
 |_,_=>none
theorem B9{g:Int->Int->Int}:MJ K (fun xs H Q=> ∃i j,xs=[.int i,.int j]/\Q (.int (g i j)) H) (o2I g):=by
 intro H N N' M M' x y d e c Q hx hy h k;unfold o2I at h;split at h
 ·cases h
  cases hx;cases hy;exact⟨_,_,rfl,k _ fun _ _ _=> .int _⟩
 ·cases h
noncomputable abbrev oMax:=o2I fun i j=>if j>i then j else i
noncomputable abbrev oMin:=o2I fun i j=>if j<i then j else i
theorem zH3:MJ K (fun xs H Q=> ∃i j,xs=[.int i,.int j]/\Q (.int (if j>i then j else i)) H) oMax:=B9
theorem zH2:MJ K (fun xs H Q=> ∃i j,xs=[.int i,.int j]/\Q (.int (if j<i then j else i)) H) oMin:=B9
noncomputable def tyD:dF->Option String
 | .non=>some "NoneType"
 | .bl _=>some "bool"
 | .int _=>some "int"
 | .str _=>some "str"
 | .tup _=>some "tuple"
 | .lst _=>some "list"
 |_=>none
noncomputable def RT(t n:String):Option Bool:=if((Kg t)==(Kg n))=true then some true else if W.kitMeta n=true then(PySem.fastBuiltinMro t).map (·.contains (.type n)) else none
theorem zBX{t n:String}{k:Bool}(h:RT t n=some k):W.kitOne K (.type t) (.type n)=some k:=h
noncomputable def TC:dF->dF->Option dF
 |d,.ty n=>(tyD d).bind fun t=>(RT t n).map dF.bl
 |_,_=>none
def rIsi(K:Ap):RC:=fun xs H Q=> ∃x n d N M t k,xs=[x,.ty n]/\bU K N H M x d/\tyD d=some t/\RT t n=some k/\Q (.bl k) H
theorem D5:aY X (.builtin "isinstance") (rIsi X.K):=by
 intro aa s σ H xs us Q I r h;obtain⟨x,n,d,N,M,t,k,rfl,hx,ht,hk,q⟩:=h;obtain⟨u,c,rfl,rx,rc⟩:=HD r;cases (show c=Kg n from rc);have e:=zBX (K:=X.K) hk;have fin: ∀tk,EP X aa σ Q (.bool k) {s with toks:=tk}:=fun tk=>⟨.bl k,H,I.tok tk,rfl,q⟩;cases hx with
 |non=>cases ht;exact UY I rx (.non) e fin
 |bl y=>cases ht;exact UY I rx (.bl y) e fin
 |int i=>cases ht;exact UY I rx (.int i) e fin
 |str y=>cases ht;exact UY I rx (.str y) e fin
 |ty n=>cases ht
 |fn _=>cases ht
 |dct _ _ _=>cases ht
 |ktb _ _=>cases ht
 |exn _ _ _=>cases ht
 |exr _ _ _ _ _=>cases ht
 |tup q _=>
  cases ht;cases rx;obtain⟨its,_,⟨o,h1,h2,_⟩,_⟩:=I.tuple q;exact Fq W.kitx_tuple I.kIn ⟨o,h1,h2⟩ e (fun z=>nomatch z) fin
 |lst q _ _=>
  cases ht;cases rx;obtain⟨its,_,⟨o,n,h1,h2,_⟩,_⟩:=I.list (X9.of q);exact Fq Na I.kIn ⟨o,h1,h2⟩ e (fun z=>nomatch z) fin
 |fzl q _=>
  cases ht;cases rx;obtain⟨its,_,⟨o,n,h1,h2,_⟩,_⟩:=I.list q.sq;exact Fq Na I.kIn ⟨o,h1,h2⟩ e (fun z=>nomatch z) fin
theorem kIsi(h:X.K=K):aY X (.builtin "isinstance") (rIsi K):=by subst h;exact D5
theorem zH5:MJ K (rIsi K) TC:=by
  intro H N N' M M' x y d e c Q hx hy h k;cases hy<;>first
    | (simp only [TC] at h
       cases h1:tyD d with
       |none=>rw[h1] at h;cases h
       |some t=>
         rw[h1] at h;rename_i n;have h:(RT t n).map dF.bl=some c:=h;cases h2:RT t n with
         |none=>rw[h2] at h;cases h
         |some kk=>
           rw[h2] at h;cases h;exact⟨x,n,d,N,M,t,kk,rfl,hx,h1,h2,k _ fun _ _ _=> .bl _⟩)
    |cases h
noncomputable def KC:dF->Option dF
 | .int i=>some (.int (-i))
 |_=>none
theorem SH(ha:PE X a (TV K ml pa ta ia fa)):PE X (.UnaryOp .USub a pos) (TV K ml pa true true (f1 KC fa)):=(zHK zD9 ha).imp fun σ H Q q0=>by
 obtain⟨B,O,δ,d,δ',S,q,k⟩:=q0;obtain⟨x,h1,h2⟩:=OO q;refine⟨B,O,δ,x,δ',S,h1,fun v1 H1 R1=> ?_⟩;cases x with
 |int i=>
  cases h2;have e1:v1= .int i:=by cases R1.rep;rfl
  exact⟨i,e1,k _ H1 ⟨R1.sta,R1.frm,R1.pur,.int _⟩⟩
 |_=>cases h2
abbrev VP:=Ev->Option (Option Int×Ev)
def TPO(K:Ap)(ml:List Nat)(pu:Bool)(f:VP):TO:=fun σ H Q=> ∃B O δ k δ',aX K ml B O H σ δ/\f δ=some (k,δ')/\ ∀H',D0 K ml B O H σ pu H' δ'->Q k H'
def A8:VP:=fun δ=>some (none,δ)
noncomputable def EX(f:VF):VP:=fun δ=>(f δ).bind fun p=>match p.1 with
 | .int i=>some (some i,p.2)
 |_=>none
theorem PO.imp{e:Option Expr}{t u:TO}(h:PO X e t)(k: ∀σ H Q,u σ H Q->t σ H Q):PO X e u:=fun aa s σ H Q I w=>h aa s σ H Q I (k σ H Q w)
theorem Q9:PO X none (TPO K ml true A8):=zB6.imp fun σ H Q q0=>by
 obtain⟨B,O,δ,d,δ',S,q,k⟩:=q0;cases q;exact k H (D0.refl S)
theorem RA(h:PE X a (TV K ml pa ta ia fa)):PO X (some a) (TPO K ml pa (EX fa)):=(zB5 h).imp fun σ H Q q0=>by
 obtain⟨B,O,δ,d,δ',S,q,k⟩:=q0;unfold EX at q;cases h1:fa δ with
 |none=>rw[h1] at q;cases q
 |some p=>
  obtain⟨x,δ1⟩:=p;rw[h1] at q;refine⟨B,O,δ,x,δ1,S,h1,fun v1 H1 R1=> ?_⟩;cases x with
  |int i=>
   have e1:v1= .int i:=by cases R1.rep;rfl
   cases q;exact⟨i,e1,k H1 ⟨R1.sta,R1.frm,R1.pur⟩⟩
  |_=>cases q
noncomputable def WZ(ds:List dF)(lo hi:Option Int):List dF:=(ds.drop (HT.sIx ds.length 0 lo)).take (HT.sIx ds.length ds.length hi - HT.sIx ds.length 0 lo)
theorem QE{N:Addr->Prop}{xs:List V}{ds:List dF}(r:cR K N H xs ds)(lo hi:Option Int):cR K N H (JP xs lo hi) (WZ ds lo hi):=by
 unfold JP WZ;rw[r.length];exact(r.drop _).take _
noncomputable def oSl(d:dF)(lo hi:Option Int):Option dF:=match d with
 | .lst ds=>some (.lst (WZ ds lo hi))
 | .tup ds=>some (.tup (WZ ds lo hi))
 |_=>none
noncomputable def EH(fa:VF)(fl fh:VP):VF:=fun δ=>(fa δ).bind fun p=>(fl p.2).bind fun l=>(fh l.2).bind fun u=>(oSl p.1 l.1 u.1).map fun c=>(c,u.2)
theorem FF{prog:Bk}{w:World}{A:Cz}{E:Value->Af->Prop}{s:Af}{t sl:Addr}{items:Array Value}{vl vu:Value}{lo hi:Option Int}{Q:Value->Af->Prop}(ht:IsTup s.heap t items)(hs:s.heap.IsSliceOf sl vl vu .none)(pl:IsPart vl lo)
  (pu:IsPart vu hi) (h1:HT.sIx items.size 0 lo=0) (h2:HT.sIx items.size items.size hi=items.size) (h:Q (.ref t) s):wpAny (model prog w) A (Kw (.ref t) (.ref sl)) Q E s:=by
 obtain⟨os,hos,hcs,hds⟩:=id hs;have hT:s.TypeIs (.ref sl) "slice":=⟨os,hos,hcs⟩;unfold Kw;try with_reducible refine Ck ?_
 first|refine Aa (Ah ?_)|skip
 refine Aa (Ki ht.typeIs (by decide) ?_);refine Aa (Dj (name:=Bi "__getitem__") ht.typeIs Ej
  (Ds Ej ht.typeIs PyProof.Rows.entry_tuple_getitem ?_ (PyProof.Rows.args_tuple_getitem _ _)))
 show wpAny _ _ (Jv (.ref t)>>=_) _ _ s;refine Aa (PyProof.Rows.tupleItemsOf_ ht ?_);refine Aa (Jy hT ?_);rw[if_pos (by decide)];refine Aa (HT.W6 hs pl pu ?_);rw[h1,h2];show wpAny _ _ (if((((0:Nat):Int)==0 && (1:Int)==1 && (items.size - 0)==items.size)=true) then _ else _) _ _ s;rw[if_pos (by simp)];refine Aa (m:=Qy _) (Aa (Jy ht.typeIs (Ah ?_)));rw[if_pos (by decide)];exact Aa (Ge (Ah ⟨_,rfl,Ah h⟩))
def rSlW(K:Ap):V->Option Int->Option Int->Hp->VK->Prop:=fun x lo hi H Q=> ∃a xs,x= .ref a/\W9 K H a xs/\(HT.sIx xs.length 0 lo=0/\HT.sIx xs.length xs.length hi=xs.length)/\Q (.ref a) H
theorem zAQ:SlR X (rSlW X.K):=by
 intro aa s σ H x v vl vu lo hi sl Q I rx hs pl pu h;obtain⟨a,xs,rfl,hx,hw,q⟩:=h;cases rx;obtain⟨its,r,ht,hz⟩:=I.tuple hx;have ae:its.toArray.size=xs.length:=by rw[As];exact r.length.symm
 refine⟨"tuple",_,PyProof.Rows.slot_tuple_getitem.lookup,ht.typeIs,?_⟩;exact FF ht hs pl pu (by rw[ae];exact hw.1) (by rw[ae];exact hw.2) ⟨.ref a,H,I,rfl,q⟩
def rSl(K:Ap):V->Option Int->Option Int->Hp->VK->Prop:=fun x lo hi H Q=>(rSlT K x lo hi H Q∨rSlL K x lo hi H Q)∨rSlW K x lo hi H Q
theorem kSl(h:X.K=K):SlR X (rSl K):=by subst h;exact(zDJ.or zAR).or zAQ
theorem zBZ{fl fh:VP}(h:EH fa fl fh δ=some (d,δ')): ∃x δ1 l δ2 u,fa δ=some (x,δ1)/\fl δ1=some (l,δ2)/\fh δ2=some (u,δ')/\oSl x l u=some d:=by
 unfold EH at h;cases h1:fa δ with
 |none=>rw[h1] at h;cases h
 |some p=>
  rw[h1] at h;cases h2:fl p.2 with
  |none=>simp[h2] at h
  |some q=>
   simp only[An,h2] at h;cases h3:fh q.2 with
   |none=>simp[h3] at h
   |some s=>
    simp only[An,h3] at h;cases h4:oSl p.1 q.1 s.1 with
    |none=>rw[h4] at h;cases h
    |some c=>
     rw[h4] at h;cases h;exact⟨p.1,p.2,q.1,q.2,s.1,rfl,h2,h3,h4⟩
theorem Q8{lo hi:Option Expr}{p2:Pos}{fl fh:VP}(hK:X.K=K)(ha:PE X a (TV K ml pa ta ia fa))(hl:PO X lo (TPO K ml pb fl))(hh:PO X hi (TPO K ml pc fh))(hs:(pb && pc || (ta && ia))=true:=by rfl):
  PE X (.Subscript a (.Slice lo hi none p2) pos) (TV K ml (pa && pb && pc) true ia (EH fa fl fh)):=(BG (kSl hK) ha hl hh).imp fun σ H Q ⟨B,O,δ,d,δ3,S,q,k⟩=>by
 obtain⟨x,δ1,l,δ2,u,h1,h2,h3,h4⟩:=zBZ q;refine⟨B,O,δ,x,δ1,S,h1,fun v1 H1 R1=>⟨B,O,δ1,l,δ2,R1.sta,h2,fun H2 R2=>⟨B,O,δ2,u,δ3,R2.sta,h3,fun H3 R3=> ?_⟩⟩⟩;have hx:bU K (av B O ia) H3 (at_ B O ta) v1 x:=by
  rcases(Fu _ _).mp hs with z|z
  ·obtain⟨z1,z2⟩:=(Ad _ _).mp z
   exact(R1.rep.same (R2.pur z1)).same (R3.pur z2)
  ·obtain⟨z1,z2⟩:=(Ad _ _).mp z
   subst z1 z2;exact(R1.rep.fr R2.frm (fun a z=> .inr z) fun a z=> .inr z).fr R3.frm (fun a z=> .inr z) fun a z=> .inr z
 have gc:(pa && pb && pc)=true->bL H H3:=fun z=>by
  simp only[Ad] at z;exact((R1.pur z.1.1).trans (R2.pur z.1.2)).trans (R3.pur z.2)
 have hfr:=(R1.frm.trans R2.frm).trans R3.frm;cases x with
 |lst ds=>
  cases h4;obtain⟨a,xs,rfl,sq,r⟩:=hx.seq rfl;rcases sq with sq|sq
  ·exact .inl (.inr ⟨a,xs,rfl,sq,fun p hp=>k _ _ ⟨R3.sta.same (c6 hp),hfr.trans (c6 hp).fr,fun z=>(gc z).trans (c6 hp),.lst cO (R3.sta.new hp) ((QE r l u).same (c6 hp))⟩⟩)
  ·cases hx with
   |lst q n r'=>exact .inl (.inr ⟨a,_,rfl,X9.of q,fun p hp=>k _ _ ⟨R3.sta.same (c6 hp),hfr.trans (c6 hp).fr,fun z=>(gc z).trans (c6 hp),.lst cO (R3.sta.new hp) ((QE r' l u).same (c6 hp))⟩⟩)
   |fzl q r'=>exact .inl (.inr ⟨a,_,rfl,q.sq,fun p hp=>k _ _ ⟨R3.sta.same (c6 hp),hfr.trans (c6 hp).fr,fun z=>(gc z).trans (c6 hp),.lst cO (R3.sta.new hp) ((QE r' l u).same (c6 hp))⟩⟩)
 |tup ds=>
  cases h4;cases hx with
  |tup q r'=>
   by_cases hw:HT.sIx ds.length 0 l=0/\HT.sIx ds.length ds.length u=ds.length
   ·refine .inr ⟨_,_,rfl,q,by rw [r'.length];exact hw,k _ _ ⟨R3.sta,hfr,gc,?_⟩⟩
    have e:WZ ds l u=ds:=by
     unfold WZ;rw[hw.1,hw.2];simp
    rw[e];exact .tup q r'
   ·exact .inl (.inl ⟨_,_,rfl,q,by rw[r'.length];exact hw,fun p hp=>k _ _ ⟨R3.sta.same (c6 hp),hfr.trans (c6 hp).fr,fun z=>(gc z).trans (c6 hp),.tup (W9.of cO) ((QE r' l u).same (c6 hp))⟩⟩)
 |_=>cases h4
end
inductive Ou where
 |nx (δ:Ev)|rt (d:dF) (δ:Ev)|bk (δ:Ev)|ct (δ:Ev)
abbrev VS:=Ev->Option Ou
def Post(K:Ap)(ml:List Nat)(B:Bs)(D:HI):Ou->Prop
 | .nx δ'=> ∀σ' H' O',aX K ml B O' H' σ' δ'->D.nx σ' H'
 | .rt d δ'=> ∀v σ' H' O',aX K ml B O' H' σ' δ'->bU K (rz B) H' (rz B) v d->D.rt v H'
 | .bk δ'=> ∀σ' H' O',aX K ml B O' H' σ' δ'->D.bk σ' H'
 | .ct δ'=> ∀σ' H' O',aX K ml B O' H' σ' δ'->D.ct σ' H'
def UJ(K:Ap)(ml:List Nat)(g:VS):TS:=fun D σ H=> ∃B O δ o,aX K ml B O H σ δ/\g δ=some o/\Post K ml B D o
section
variable{X:Cx}{K:Ap}{ml:List Nat}{e a b c:Expr}{es:List Expr}{pa ta ia pb tb ib pc tc ic pu bt bi ps bs:Bool}{fa fb fc f:VF}{B B':Bs}{O:Nat->Option Addr}{H H1 H':Hp}{σ:St}{δ δ':Ev}{v:V}{d:dF}{p:Addr}{pos:Pos}{st:Stmt}{rest:List Stmt}{g g':VS}
def aF:VS:=fun δ=>some (.nx δ)
noncomputable def cL(g g':VS):VS:=fun δ=>(g δ).bind fun o=>match o with
 | .nx δ'=>g' δ'
 |o=>some o
theorem cN:QP X [] (UJ K ml aF):=GY.imp fun D σ H q0=>by
 obtain⟨B,O,δ,o,S,q,k⟩:=q0;cases q;exact k σ H O S
theorem dD(h1:PS X st (UJ K ml g))(h2:QP X rest (UJ K ml g')):QP X (st::rest) (UJ K ml (cL g g')):=(KJ h1 h2).imp fun D σ H q0=>by
 obtain⟨B,O,δ,o,S,q,k⟩:=q0;unfold cL at q;cases h1:g δ with
 |none=>rw[h1] at q;cases q
 |some z=>
  rw[h1] at q;refine⟨B,O,δ,z,S,h1,?_⟩;cases z with
  |nx δ1=>exact fun σ' H' O' S'=>⟨B,O',δ1,o,S',q,k⟩
  |rt d δ1=>cases q;exact k
  |bk δ1=>cases q;exact k
  |ct δ1=>cases q;exact k
theorem c8(h1:PS X st (UJ K ml g)):QP X [st] (UJ K ml g):=(KJ h1 GY).imp fun D σ H ⟨B,O,δ,o,S,q,k⟩=>⟨B,O,δ,o,S,q,by cases o<;>exact k⟩
noncomputable def bX(f:VF):VS:=fun δ=>(f δ).map fun p=> .rt p.1 p.2
theorem cU(h:PE X e (TV K ml pu bt bi f))(ht:bt=true:=by rfl):PS X (.Return (some e) pos) (UJ K ml (bX f)):=(BK h).imp fun D σ H q0=>by
 obtain⟨B,O,δ,o,S,q,k⟩:=q0;unfold bX at q;cases h1:f δ with
 |none=>rw[h1] at q;cases q
 |some p=>
  rw[h1] at q;cases q;subst ht;exact⟨B,O,δ,p.1,p.2,S,h1,fun v H' R=>k v σ H' O R.sta (R.rep.mono R.sta.rza R.sta.rzn)⟩
theorem zAJ{i:Nat}(h:PE X e (ME i))(hm:i∉ml:=by decide):PS X (.Return (some e) pos) (UJ K ml (bX (fO i))):=(BK h).imp fun D σ H q0=>by
 obtain⟨B,O,δ,o,S,q,k⟩:=q0;unfold bX at q;cases h1:fO i δ with
 |none=>rw[h1] at q;cases q
 |some p=>
  obtain⟨x,δ1⟩:=p;rw[h1] at q;cases q;obtain⟨rfl,v,e1,r⟩:=S.lone hm h1;exact⟨v,e1,k v σ H O S (r.mono S.rza S.rza)⟩
noncomputable def KQ(f:VF):VS:=fun δ=>(f δ).map fun p=> .nx p.2
theorem HF(h:PE X e (TV K ml pu bt bi f))(hs:Gp e none pos.line X.env=pure false:=by rfl):PS X (.Expr e pos) (UJ K ml (KQ f)):=(GX h hs).imp fun D σ H q0=>by
 obtain⟨B,O,δ,o,S,q,k⟩:=q0;unfold KQ at q;cases h1:f δ with
 |none=>rw[h1] at q;cases q
 |some p=>
  rw[h1] at q;cases q;exact⟨B,O,δ,p.1,p.2,S,h1,fun v H' R=>k σ H' O R.sta⟩
noncomputable def XA(t:VB)(g g':VS):VS:=fun δ=>(t δ).bind fun p=>if p.1=true then g p.2 else g' p.2
theorem bP{x y:List Stmt}{t:VB}(ht:PT X c (TB K ml pc t))(ha:QP X x (UJ K ml g))(hb:QP X y (UJ K ml g')):PS X (.If c x y pos) (UJ K ml (XA t g g')):=(zHJ ht ha hb).imp fun D σ H q0=>by
 obtain⟨B,O,δ,o,S,q,k⟩:=q0;unfold XA at q;cases h1:t δ with
 |none=>rw[h1] at q;cases q
 |some p=>
  obtain⟨kk,δ1⟩:=p;rw[h1] at q;refine⟨B,O,δ,kk,δ1,S,h1,fun H1 R1=> ?_⟩;cases kk with
  |true=>exact QT ⟨B,O,δ1,o,R1.sta,q,k⟩
  |false=>exact QS ⟨B,O,δ1,o,R1.sta,q,k⟩
abbrev VX:=Ev->Option (Sl×Ev)
inductive St1(K:Ap)(B:Bs)(O:Nat->Option Addr)(H:Hp):Bs->V->Sl->Prop
 |va {v:V} {d:dF}:St1 K B O H {B with kp:=[(v,d)]++B.kp} v (.va d)
 |ol {p:Addr} {xs:List V} {ds:List dF}:H p=some (.lst xs)->xs.length=ds.length-> ¬Nn B O p->B.H0 p=none->St1 K B O H {B.add p with kp:=xs.zip ds++B.kp} (.ref p) (.ow (.lst ds))
 |od {p:Addr} {kvs:List (a0×V)} {ds:List dF}:H p=some (.dK kvs)->kvs.length=ds.length-> ¬Nn B O p->B.H0 p=none->St1 K B O H {B.add p with kp:=(kvs.map Eh).zip ds++B.kp} (.ref p) (.ow (.dct (kvs.map Dh) ds))
theorem St1.fr{s:Sl}(h:St1 K B O H B' v s)(f:Fr (OA O) H H'):St1 K B O H' B' v s:=by
 cases h with
 |va=>exact .va
 |ol q l n z=>exact .ol (f _ _ q fun w=>absurd (.inr w) n) l n z
 |od q l n z=>exact .od (f _ _ q fun w=>absurd (.inr w) n) l n z
def TX(K:Ap)(ml:List Nat)(f:VX):TE:=fun σ H Q=> ∃B O δ s δ',aX K ml B O H σ δ/\f δ=some (s,δ')/\ ∀v H' B',aX K ml B' O H' σ δ'->St1 K B O H' B' v s->Fr (OA O) H H'->Q v H'
noncomputable def xV(f:VF):VX:=fun δ=>(f δ).map fun p=>(.va p.1,p.2)
noncomputable def xO(f:VF):VX:=fun δ=>(f δ).map fun p=>(.ow p.1,p.2)
theorem Z9(h:PE X e (TV K ml pu true true f)):PE X e (TX K ml (xV f)):=h.imp fun σ H Q q0=>by
 obtain⟨B,O,δ,o,δ',S,q,k⟩:=q0;unfold xV at q;cases h1:f δ with
 |none=>rw[h1] at q;cases q
 |some p=>
  rw[h1] at q;cases q;exact⟨B,O,δ,p.1,p.2,S,h1,fun v H' R=>k v H' _ (R.sta.keepV (ps:=[(v,p.1)]) fun z hz=>by
   rw[Ar.mp hz];exact R.rep) .va R.frm⟩
theorem U4{N:Addr->Prop}: ∀{xs:List V} {ds:List dF},cR K N H xs ds-> ∀z∈xs.zip ds,bU K N H N z.1 z.2
 |_,_,.nil,z,hz=>nomatch hz
 |_,_,.cons h t,z,hz=>by
  rcases Ak.mp hz with e|e
  ·rw[e];exact h
  ·exact U4 t z e
theorem WQ{N:Addr->Prop}: ∀{xs:List V} {ds:List dF},xs.length=ds.length->(∀z∈xs.zip ds,bU K N H N z.1 z.2)->cR K N H xs ds
 |[],[],_,_=> .nil
 |x::xs,d::ds,hl,h=> .cons (h (x,d) (Au ..)) (WQ (by simpa using hl) fun z hz=>h z (Ao _ hz))
theorem WC(h:PE X e (TN K ml pu f)):PE X e (TX K ml (xO f)):=h.imp fun σ H Q q0=>by
 obtain⟨B,O,δ,o,δ',S,q,k⟩:=q0;unfold xO at q;cases h1:f δ with
 |none=>rw[h1] at q;cases q
 |some p=>
  obtain⟨d,δ1⟩:=p;rw[h1] at q;cases q;refine⟨B,O,δ,d,δ1,S,h1,fun p H' R=> ?_⟩;have w:=R.own;cases w with
  |lst q r=>exact k _ H' _ (R.sta.keepV (U4 r)) (.ol q r.length R.nz R.h0) R.frm
  |dct q r=>exact k _ H' _ (R.sta.keepV (U4 r)) (.od q (by simpa using r.length) R.nz R.h0) R.frm
theorem St1.bind{O':Nat->Option Addr}{s:Sl}{i:Nat}(h:St1 K B O H' B' v s)(S:aX K ml B' O' H' σ δ)(hm:i∉ml)(hl:i<δ.length): ∃O'',aX K ml B O'' H' (σ.set i (some v)) (δ.set i s):=by
 cases h with
 |va=>
  refine⟨_,aX.unkeep (ps:=_) (S.setVa hm (S.kep _ (Bv _ (Ar.mpr rfl))))⟩
 |ol q l n z=>
  refine⟨_,aX.setOw (aX.unkeep (B:=B.add _) S) hm hl (fun w=>n (.inl w)) z (.lst q (WQ l fun z hz=>S.kep z (Bv _ hz)))⟩
 |od q l n z=>
  refine⟨_,aX.setOw (aX.unkeep (B:=B.add _) S) hm hl (fun w=>n (.inl w)) z (.dct q (WQ (by simpa using l) fun z hz=>S.kep z (Bv _ hz)))⟩
noncomputable def aG(i:Nat)(x:VX):VS:=fun δ=>(x δ).bind fun p=>if i<p.2.length then some (.nx (p.2.set i p.1)) else none
theorem bJ{i:Nat}{y:Str}{x:VX}{cb:Pos}(hN:X.N.Nodup)(he:PE X e (TX K ml x))(hi:X.N[i]? =some y:=by rfl)(hx:DU X.env.scope y:=by first|exact .inl rfl|exact .inr rfl)(hm:i∉ml:=by decide)(hs:Gp e (some (.Name y cb)) pos.line X.env=pure false:=by rfl)
  (hf:X.fn y=true∨X.env.scope.names.lookup y=some .local:=by first|exact .inl rfl|exact .inr rfl|assumption):PS X (.Assign [.Name y cb] e pos) (UJ K ml (aG i x)):=(zE7 hN hi hx he hs hf).imp fun D σ H ⟨B,O,δ,o,S,q,k⟩=>by
 unfold aG at q;cases h1:x δ with
 |none=>rw[h1] at q;cases q
 |some p=>
  obtain⟨s,δ1⟩:=p;rw[h1] at q;have q:(if i<δ1.length then some (Ou.nx (δ1.set i s)) else none)=some o:=q;split at q
  ·rename_i hl
   cases q;refine⟨B,O,δ,s,δ1,S,h1,fun v H' B' S' h' f'=> ?_⟩;obtain⟨O'',S''⟩:=h'.bind S' hm hl;exact k _ _ _ S''
  ·cases q
noncomputable def KS(i j:Nat)(x y:VX):VS:=fun δ=>(x δ).bind fun p=>(y p.2).bind fun q=>if i<q.2.length/\j<q.2.length then some (.nx ((q.2.set j q.1).set i p.1)) else none
theorem HG{i j:Nat}{y z:Str}{fx fy:VX}{px py pt:Pos}{kt k2 pt2}(hc:X.calm=true)(hN:X.N.Nodup)(hi:X.N[i]? =some y)(hj:X.N[j]? =some z)(hij:i≠j)
  (hx:X.env.scope.names.lookup y=some .local) (hy:X.env.scope.names.lookup z=some .local) (ha:PE X a (TX K ml fx)) (hb:PE X b (TX K ml fy))
  (hw:Fy [.Tuple [.Name y px,.Name z py] kt pt] (.Tuple [a,b] k2 pt2) X.env=pure (some [y,z])) (hmi:i∉ml:=by decide) (hmj:j∉ml:=by decide)
  (hs:Fx [.Tuple [.Name y px,.Name z py] kt pt] (.Tuple [a,b] k2 pt2) pos.line X.env=pure false:=by rfl)
  (he:Aj (a::[b]) X.env=(false,eval a X.env)::Aj [b] X.env:=by rfl) (he2:Aj (b::[]) X.env=(false,eval b X.env)::Aj [] X.env:=by rfl):
  PS X (.Assign [.Tuple [.Name y px,.Name z py] kt pt] (.Tuple [a,b] k2 pt2) pos) (UJ K ml (KS i j fx fy)):=(zE8 hc hN hi hj hij hx hy (b5 ha (b5 hb Z8 he2) he) hw hs).imp fun D σ H ⟨B,O,δ,o,S,q,k⟩=>by
 unfold KS at q;cases h1:fx δ with
 |none=>rw[h1] at q;cases q
 |some p=>
  obtain⟨s,δ1⟩:=p;rw[h1] at q;cases h2:fy δ1 with
  |none=>simp[h2] at q
  |some p2=>
   obtain⟨s2,δ2⟩:=p2;simp only[An,h2] at q;split at q
   ·rename_i hl
    cases q;refine⟨B,O,δ,s,δ1,S,h1,fun v H1 B1 S1 w1 f1=>⟨B1,O,δ1,s2,δ2,S1,h2,fun v2 H2 B2 S2 w2 f2=>⟨v,v2,rfl,?_⟩⟩⟩;obtain⟨O3,S3⟩:=w2.bind S2 hmj hl.2;obtain⟨O4,S4⟩:=(w1.fr f2).bind S3 hmi (by rw[Cc];exact hl.1);rw[El _ _ (Dk hij)] at S4;exact k _ _ _ S4
   ·cases q
abbrev VG:=dF->Ev->Option Ev
def DJ(K:Ap)(ml:List Nat)(h:VG):TG:=fun v σ H Q=> ∃B O δ d δ',aX K ml B O H σ δ/\bU K (Nn B O) H (Nn B O) v d/\h d δ=some δ'/\ ∀σ' O',aX K ml B O' H σ' δ'->(∀i∈ml,σ'[i]? =σ[i]?)->Q σ' H
theorem PG.imp{t u:TG}(h:PG X e t)(k: ∀v σ H Q,u v σ H Q->t v σ H Q):PG X e u:=fun aa s σ H v w Q I r z=>h aa s σ H v w Q I r (k v σ H Q z)
theorem FQ.imp{t u:D1}(h:FQ X es t)(k: ∀v σ H Q,u v σ H Q->t v σ H Q):FQ X es u:=fun aa s σ H v w Q I r z=>h aa s σ H v w Q I r (k v σ H Q z)
theorem PG.or{t u:TG}(h:PG X e t)(h':PG X e u):PG X e (fun v σ H Q=>t v σ H Q∨u v σ H Q):=fun aa s σ H v w Q I r z=>by
 rcases z with z|z
 ·exact h aa s σ H v w Q I r z
 ·exact h' aa s σ H v w Q I r z
def gN(i:Nat):VG:=fun d δ=>some (δ.set i (.va d))
theorem cM{i:Nat}{x:Str}(hN:X.N.Nodup)(hi:X.N[i]? =some x:=by rfl)(hx:DU X.env.scope x:=by first|exact .inl rfl|exact .inr rfl)(hm:i∉ml:=by decide)(hf:X.fn x=true∨X.env.scope.names.lookup x=some .local:=by first|exact .inl rfl|exact .inr rfl|assumption):PG X (.Name x pos) (DJ K ml (gN i)):=
 (QO hN hi hx hf).imp fun v σ H Q q0 => by
  obtain⟨B,O,δ,d,δ',S,r,q,k⟩:=q0;cases q;exact k _ _ (S.setVa hm r) fun j hj=>Bw fun(z:i=j)=>hm (z▸hj)
abbrev DK:=List dF->Ev->Option Ev
def TGVs(K:Ap)(ml:List Nat)(h:DK):D1:=fun vs σ H Q=> ∃B O δ ds δ',aX K ml B O H σ δ/\cR K (Nn B O) H vs ds/\h ds δ=some δ'/\ ∀σ' O',aX K ml B O' H σ' δ'->(∀i∈ml,σ'[i]? =σ[i]?)->Q σ' H
def X5:DK:=fun ds δ=>match ds with
 |[]=>some δ
 |_=>none
noncomputable def bS(g:VG)(gs:DK):DK:=fun ds δ=>match ds with
 |d::r=>(g d δ).bind fun δ1=>gs r δ1
 |[]=>none
theorem Y4:FQ X [] (TGVs K ml X5):=GQ.imp fun vs σ H Q q0=>by
 obtain⟨B,O,δ,ds,δ',S,r,q,k⟩:=q0;cases r with
 |nil=>cases q;exact⟨rfl,k _ _ S fun _ _=>rfl⟩
 |cons _ _=>cases q
theorem bZ{g:VG}{gs:DK}(h1:PG X e (DJ K ml g))(h2:FQ X es (TGVs K ml gs))(hs:(assignEach (e::es) X.env).map (·.2)=Fn e X.env::(assignEach es X.env).map (·.2):=by rfl):FQ X (e::es) (TGVs K ml (bS g gs)):=
 (TJ h1 h2 hs).imp fun vs σ H Q q0 => by
  obtain⟨B,O,δ,ds,δ',S,r,q,k⟩:=q0;cases r with
  |nil=>cases q
  | @cons v vs d ds h t=>
   have q:((g d δ).bind fun δ1=>gs ds δ1)=some δ':=q;cases h1:g d δ with
   |none=>rw[h1] at q;cases q
   |some δ1=>
    rw[h1] at q;have S0:=S.keepV (U4 t);exact⟨v,vs,rfl,_,O,δ,d,δ1,S0,h,h1,fun σ1 O1 S1 m1=>⟨B,O1,δ1,ds,δ',S1.unkeep,WQ t.length fun z hz=>S1.kep z (Bv _ hz),q,fun σ2 O2 S2 m2=>k σ2 O2 S2 fun i hi=>(m2 i hi).trans (m1 i hi)⟩⟩
noncomputable def LC(n:Nat)(gs:DK):VG:=fun d δ=>(YZ d).bind fun ds=>if ds.length=n then gs ds δ else none
theorem XV{gs:DK}{k n:Nat}(hK:X.K=K)(hc:X.calm=true)(h:FQ X es (TGVs K ml gs))(hn:(assignEach es X.env).length=n:=by rfl)(hst:(assignEach es X.env).findIdx? (·.1)=none:=by rfl):PG X (.Tuple es k pos) (DJ K ml (LC n gs)):=
 ((zCW (K := K) hK hc h hn hst).or (zI9 (K := K) hK hc h hn hst)).imp fun v σ H Q q0 => by
  obtain⟨B,O,δ,d,δ',S,r,q,k⟩:=q0;unfold LC at q;cases h1:YZ d with
  |none=>rw[h1] at q;cases q
  |some ds=>
   rw[h1] at q;have q:(if ds.length=n then gs ds δ else none)=some δ':=q;split at q
   ·rename_i hl
    obtain⟨a,xs,rfl,sq,ra⟩:=r.seq h1;have fin:TGVs K ml gs xs σ H Q:=⟨B,O,δ,ds,δ',S,ra,q,k⟩;rcases sq with sq|sq
    ·exact .inr ⟨a,xs,rfl,sq,ra.length.trans hl,fin⟩
    ·exact .inl ⟨a,xs,rfl,sq,ra.length.trans hl,fin⟩
   ·cases q
noncomputable def E8(f:VF)(g:VG):VS:=fun δ=>(f δ).bind fun p=>(g p.1 p.2).map Ou.nx
theorem JE{tg:Expr}{gg:VG}(he:PE X e (TV K ml pu true true f))(hg:PG X tg (DJ K ml gg))(hs:Fx [tg] e pos.line X.env=pure false:=by rfl)(hw:Fy [tg] e X.env=pure none:=by rfl)
  (h1:(assignEach [tg] X.env).map (·.2)=[Fn tg X.env]:=by rfl):PS X (.Assign [tg] e pos) (UJ K ml (E8 f gg)):=(IH he hg hs hw h1).imp fun D σ H ⟨B,O,δ,o,S,q,k⟩=>by
 unfold E8 at q;cases h1:f δ with
 |none=>rw[h1] at q;cases q
 |some p=>
  obtain⟨d,δ1⟩:=p;rw[h1] at q;have q:(gg d δ1).map Ou.nx=some o:=q;cases h2:gg d δ1 with
  |none=>rw[h2] at q;cases q
  |some δ2=>
   rw[h2] at q;cases q;exact⟨B,O,δ,d,δ1,S,h1,fun v H' R=>⟨B,O,δ1,d,δ2,R.sta,R.rep,h2,fun σ' O' S' _=>k σ' H' O' S'⟩⟩
def MuV(K:Ap)(r:V->List V->Hp->VK->Prop)(m:List dF->List dF->Option (List dF)):Prop:= ∀(H:Hp) (N:Addr->Prop) (l:Addr) (xs vs:List V) (ds es ds':List dF) (Q:VK),
 H l=some (.lst xs)->N l->cR K N H xs ds->cR K N H vs es->m ds es=some ds'->(∀v xs',cR K N H xs' ds'->Q v (bH H l (.lst xs')))->r (.ref l) vs H Q
noncomputable def TH(δ:Ev)(i:Nat):Option (List dF):=match δ[i]? with
 |some (.ow (.lst ds))=>some ds
 |_=>none
noncomputable def V7(i:Nat)(m:List dF->List dF->Option (List dF))(fs:OC):VS:=fun δ=>(TH δ i).bind fun _=>(fs δ).bind fun p=>(TH p.2 i).bind fun ds=>(m ds p.1).map fun ds'=> .nx (p.2.set i (.ow (.lst ds')))
theorem NC{i:Nat}{ds:List dF}(h:TH δ i=some ds):δ[i]? =some (.ow (.lst ds)):=by
 unfold TH at h;split at h
 ·cases h;assumption
 ·cases h
theorem KN{N:Addr->Prop}{l:Addr}{o:HO}{xs:List V}{ds ys:List dF}{zs:List V}(ho:H l=some (.lst zs))(hN:N l)(h:cR K N H xs ds):cR K N (bH H l o) xs ds:=
 h.fr (P:=fun b=>b=l) (fun b u q n=>by
  by_cases hb:b=l
  ·subst hb
   rw[ho] at q;cases q;exact absurd (n rfl) fun z=>z
  ·rw[b7 hb]
   exact q) fun a z=>z▸hN
theorem ZA{i:Nat}{x:Str}{name:Str}{am ag f9:Pos}{id:String}{r:V->List V->Hp->VK->Prop}{m:List dF->List dF->Option (List dF)}{fs:OC}(hK:X.K=K)(slot:Slot "list" name id) (hty:typeOf (.builtin id)=pure (.type "method_descriptor")) (hm:MtR X id r) (hmu:MuV K r m)
  (ho:PE X (.Name x f9) (ME i)) (ha:PA X (e::es) (TAV K ml pu true fs))
  (cm:Hs (.Name x f9) name X.env (eval (.Name x f9) X.env)=eval (.Name x f9) X.env:=by rfl)
  (dr : ((Gc ag (Aj (e :: es) X.env)).all (fun x => !x.1) && (Nr ag (Jg [] X.env)).all (fun x => x.1.isSome)
   && decide ((e::es).length+([]:List Jh).length+(if([]:List Jh).isEmpty then 0 else 1)<30))=true:=by rfl)
  (cf:(am.endLine==ag.line)=true:=by rfl) (hs:Aj (e::es) X.env=(false,eval e X.env)::Aj es X.env:=by rfl) (bh:(Gc ag (Aj es X.env)).any (·.1)=false:=by rfl)
  (hsw:Gp (.Call (.Attribute (.Name x f9) name am) (e::es) [] ag) none pos.line X.env=pure false:=by rfl):
  PS X (.Expr (.Call (.Attribute (.Name x f9) name am) (e::es) [] ag) pos) (UJ K ml (V7 i m fs)):=
 (GX (kBm (K := K) hK Kz slot hty hm ho ha cm dr cf hs bh) hsw).imp fun D σ H q0 => by
  obtain⟨B,O,δ,o,S,q,k⟩:=q0;unfold V7 at q;cases h0:TH δ i with
  |none=>rw[h0] at q;cases q
  |some ds0=>
   rw[h0] at q;have q:((fs δ).bind fun p=>(TH p.2 i).bind fun ds=>(m ds p.1).map fun ds'=>Ou.nx (p.2.set i (.ow (.lst ds'))))=some o:=q;cases h1:fs δ with
   |none=>rw[h1] at q;cases q
   |some p=>
    obtain⟨es',δ1⟩:=p;rw[h1] at q;have q:((TH δ1 i).bind fun ds=>(m ds es').map fun ds'=>Ou.nx (δ1.set i (.ow (.lst ds'))))=some o:=q;cases h2:TH δ1 i with
    |none=>rw[h2] at q;cases q
    |some ds=>
     rw[h2] at q;have q:((m ds es').map fun ds'=>Ou.nx (δ1.set i (.ow (.lst ds'))))=some o:=q;cases h3:m ds es' with
     |none=>rw[h3] at q;cases q
     |some ds'=>
      rw[h3] at q;cases q;obtain⟨l,e1,e2,w⟩:=S.ow i _ (NC h0);cases w with
      |lst hl0 _=>
       refine⟨.ref l,e2,.inl ⟨rfl,_,X9.of hl0⟩,B,O,δ,es',δ1,S,h1,fun vs H1 R=> ?_⟩;obtain⟨l',e3,_,w1⟩:=R.sta.ow i _ (NC h2);rw[e1] at e3;cases e3;cases w1 with
       |lst hl1 r1=>
        refine hmu H1 (Nn B O) l _ vs ds es' ds' _ hl1 (.inr ⟨i,e1⟩) r1 R.rep h3 fun v xs' r2=> ?_;exact k σ _ O (R.sta.wrote e1 (fun z=>z) (.lst cO (KN (ys:=[]) hl1 (.inr ⟨i,e1⟩) r2)))
noncomputable def VQ:List dF->List dF->Option (List dF)
 |ds,[d]=>if ds.length<16777216 then some (ds++[d]) else none
 |_,_=>none
theorem YX:MuV K G0 VQ:=by
 intro H N l xs vs ds es ds' Q hl hN rx re h k;cases re with
 |nil=>cases h
 | @cons v vs d es hd t=>
  cases t with
  |cons _ _=>cases h
  |nil=>
   simp only[VQ] at h;split at h
   ·rename_i hz
    cases h;exact⟨l,xs,v,rfl,rfl,hl,by rw[rx.length,Ct];exact hz,k _ _ (rx.snoc hd)⟩
   ·cases h
end
section
variable{X:Cx}{K:Ap}{ml:List Nat}{e a b c:Expr}{es:List Expr}{pa ta ia pb tb ib pc tc ic pu bt bi ps bs:Bool}{fa fb fc f:VF}{B B':Bs}{O:Nat->Option Addr}{H H1 H':Hp}{σ:St}{δ δ':Ev}{v:V}{d:dF}{p:Addr}{pos:Pos}{st:Stmt}{rest:List Stmt}{g g':VS}
noncomputable def again(nxt:VS):Ou->Option Ou
 | .nx δ=>nxt δ
 | .ct δ=>nxt δ
 | .bk δ=>some (.nx δ)
 | .rt d δ=>some (.rt d δ)
noncomputable def bE(t:VB)(g:VS):Nat->VS
 |0=>fun _=>none
 |n+1=>fun δ=>(t δ).bind fun p=>if p.1=true then(g p.2).bind (again (bE t g n)) else some (.nx p.2)
theorem V1{t:VB}: ∀{n:Nat} {δ:Ev} {o:Ou},bE t g n δ=some o->bE t g (n+1) δ=some o
 |0,_,_,h=>by cases h
 | n + 1,δ,o,h => by
  dsimp only[bE] at h;show((t δ).bind fun p=>if p.1=true then(g p.2).bind (again (bE t g (n+1))) else some (.nx p.2))=some o;cases h1:t δ with
  |none=>rw[h1] at h;cases h
  |some p=>
   rw[h1] at h;obtain⟨kk,δ1⟩:=p;cases kk with
   |false=>exact h
   |true=>
    have h:(g δ1).bind (again (bE t g n))=some o:=h;show(g δ1).bind (again (bE t g (n+1)))=some o;cases h2:g δ1 with
    |none=>rw[h2] at h;cases h
    |some z=>
     rw[h2] at h;cases z with
     |nx δ2=>exact V1 (n:=n) h
     |ct δ2=>exact V1 (n:=n) h
     |bk δ2=>exact h
     |rt d δ2=>exact h
theorem UI{t:VB}{n:Nat}{o:Ou}(h:bE t g n δ=some o): ∀k,bE t g (n+k) δ=some o
 |0=>h
 |k+1=>V1 (UI h k)
theorem JF{t:VB}{n m:Nat}{o o':Ou}(h:bE t g n δ=some o)(h':bE t g m δ=some o'):o=o':=by
 have e1:=UI h m;have e2:=UI h' n;rw[Pf] at e2;rw[e1] at e2;exact Ce e2
open Classical in
noncomputable def UG(t:VB)(g:VS):VS:=fun δ=>if h: ∃o n,bE t g n δ=some o then some (Classical.choose h) else none
theorem NK{t:VB}{n:Nat}{o:Ou}(h:bE t g n δ=some o):UG t g δ=some o:=by
 have hx: ∃o n,bE t g n δ=some o:=⟨o,n,h⟩;unfold UG;rw[dif_pos hx];obtain⟨m,hm⟩:=Mg hx;rw[JF hm h]
theorem IM{t:VB}{o:Ou}(h:UG t g δ=some o): ∃n,bE t g n δ=some o:=by
 unfold UG at h;split at h
 ·rename_i hx
  cases h;exact Mg hx
 ·cases h
theorem K6{body:List Stmt}{t:VB}(hp:Qf (model X.prog X.w) X.A X.env X.xe)(hc:PT X c (TB K ml pc t))(hb:QP X body (UJ K ml g)):PS X (.While c body [] pos) (UJ K ml (UG t g)):=(BM hp hc hb).imp fun D σ H q0=>by
 obtain⟨B,O,δ,o,S,q,k⟩:=q0;obtain⟨n,hn⟩:=IM q;refine⟨fun m σ H=> ∃O δ,aX K ml B O H σ δ/\bE t g m δ=some o,⟨n,O,δ,S,hn⟩,?_⟩;rintro m σ H ⟨O,δ,S,hm⟩;cases m with
 |zero=>cases hm
 |succ m=>
  dsimp only[bE] at hm;cases h1:t δ with
  |none=>rw[h1] at hm;cases hm
  |some p=>
   obtain⟨kk,δ1⟩:=p;rw[h1] at hm;refine⟨B,O,δ,kk,δ1,S,h1,fun H1 R1=> ?_⟩;cases kk with
   |false=>
    have hm:some (Ou.nx δ1)=some o:=hm;cases hm;exact QS (k σ H1 O R1.sta)
   |true=>
    have hm:(g δ1).bind (again (bE t g m))=some o:=hm;cases h2:g δ1 with
    |none=>rw[h2] at hm;cases hm
    |some z=>
     rw[h2] at hm;refine QT ⟨fun σ' H'=> ∃O δ,aX K ml B O H' σ' δ/\bE t g m δ=some o,fun σ' H' w=>⟨m,Nat.lt_succ_self _,w⟩,B,O,δ1,z,R1.sta,h2,?_⟩;cases z with
     |nx δ2=>exact fun σ' H' O' S'=>⟨O',δ2,S',hm⟩
     |ct δ2=>exact fun σ' H' O' S'=>⟨O',δ2,S',hm⟩
     |bk δ2=>cases hm;exact fun σ' H' O' S'=>k σ' H' O' S'
     |rt d δ2=>cases hm;exact fun v σ' H' O' S' r=>k v σ' H' O' S' r
def D2(K:Ap)(J:It)(kps:List (V×dF))(ds:List dF):Prop:= ∀(N:Addr->Prop) (H:Hp),(∀p∈kps,bU K N H N p.1 p.2)→
 (∀(i:Nat) (d:dF),ds[i]? =some d->J.go i H/\ ∀x H',J.yld i H x H'->bL H H'/\bU K N H' N x d)/\J.stop ds.length H
abbrev VI:=Ev->Option (List dF×Ev)
def FR(K:Ap)(ml:List Nat)(pu:Bool)(f:VI):TI:=fun σ H R=> ∃B O δ ds δ',aX K ml B O H σ δ/\f δ=some (ds,δ')∧
 ∀J kps H',aX K ml {B with kp:=kps++B.kp} O H' σ δ'->Fr (OA O) H H'->(pu=true->bL H H')->D2 K J kps ds->R J H'
theorem PI.imp{tg:Expr}{t u:TI}(h:PI X tg e t)(k: ∀σ H R,u σ H R->t σ H R):PI X tg e u:=fun aa s σ H R I w=>h aa s σ H R I (k σ H R w)
theorem PI.or{tg:Expr}{t u:TI}(h:PI X tg e t)(h':PI X tg e u):PI X tg e (fun σ H R=>t σ H R∨u σ H R):=fun aa s σ H R I z=>by
 rcases z with z|z
 ·exact h aa s σ H R I z
 ·exact h' aa s σ H R I z
noncomputable def VM(f:VF):VI:=fun δ=>(f δ).bind fun p=>(YZ p.1).map fun ds=>(ds,p.2)
theorem DD{a:Addr}{ds:List dF}:D2 K (Itl K a) [(.ref a,.lst ds)] ds:=by
 intro N H h;have r:=h _ (Ar.mpr rfl);have fin: ∀xs,X9 K H a xs->cR K N H xs ds->(∀(i:Nat) (d:dF),ds[i]? =some d->(Itl K a).go i H/\ ∀x H',(Itl K a).yld i H x H'->bL H H'/\bU K N H' N x d)/\(Itl K a).stop ds.length H:=fun xs sq r=>by
  refine⟨fun i d e=> ?_,xs,sq,by rw[r.length];exact Ag _⟩;obtain⟨x,e1,r1⟩:=r.get e;refine⟨⟨xs,x,sq,e1⟩,fun y H' hy=> ?_⟩;obtain⟨e2,e3⟩:=hy;subst e2;have:=e3 xs sq;rw[e1] at this;cases this;exact⟨bL.refl _,r1⟩
 cases r with
 |lst q n r=>exact fin _ (X9.of q) r
 |fzl q r=>exact fin _ q.sq r
theorem DF{a:Addr}{ds:List dF}:D2 K (Itt K a) [(.ref a,.tup ds)] ds:=by
 intro N H h;have r:=h _ (Ar.mpr rfl);cases r with
 |tup sq r=>
  refine⟨fun i d e=> ?_,_,sq,by rw[r.length];exact Ag _⟩;obtain⟨x,e1,r1⟩:=r.get e;refine⟨⟨_,x,sq,e1⟩,fun y H' hy=> ?_⟩;obtain⟨e2,e3⟩:=hy;subst e2;have:=e3 _ sq;rw[e1] at this;cases this;exact⟨bL.refl _,r1⟩
theorem WS{tg:Expr}(hK:X.K=K)(h:PE X e (TV K ml pu true true f)):PI X tg e (FR K ml pu (VM f)):=((AM (K:=K) hK h).or (zCV (K:=K) hK h)).imp fun σ H R q0=>by
 obtain⟨B,O,δ,ds,δ',S,q,k⟩:=q0;unfold VM at q;cases h1:f δ with
 |none=>rw[h1] at q;cases q
 |some p=>
  obtain⟨x,δ1⟩:=p;rw[h1] at q;cases x with
  |lst ds'=>
   cases q;refine .inl ⟨B,O,δ,_,δ1,S,h1,fun v H1 R1=> ?_⟩;obtain⟨a,xs,rfl,sq,r⟩:=R1.rep.seq rfl;refine⟨a,rfl,?_,k _ [(.ref a,.lst ds)] H1 (R1.sta.keepV fun p hp=>by rw[Ar.mp hp];exact R1.rep) R1.frm R1.pur DD⟩;have r:=R1.rep;cases r with
   |lst q _ _=>exact⟨_,X9.of q⟩
   |fzl q _=>exact⟨_,q.sq⟩
  |tup ds'=>
   cases q;refine .inr ⟨B,O,δ,_,δ1,S,h1,fun v H1 R1=> ?_⟩;obtain⟨a,xs,rfl,sq,r⟩:=R1.rep.seq rfl;refine⟨a,rfl,?_,k _ [(.ref a,.tup ds)] H1 (R1.sta.keepV fun p hp=>by rw[Ar.mp hp];exact R1.rep) R1.frm R1.pur DF⟩;have r:=R1.rep;cases r with
   |tup q _=>exact⟨_,q⟩
  |_=>cases q
def bD(lo:Int)(n:Nat):List dF:=(At n).map fun k:Nat=> .int (lo+k)
noncomputable def iR1(f:VF):VI:=fun δ=>(f δ).bind fun p=>match p.1 with
 | .int j=>if -4611686018427387904<=j/\j<4611686018427387904 then some (bD 0 j.toNat,p.2) else none
 |_=>none
noncomputable def iR2(f g:VF):VI:=fun δ=>(f δ).bind fun p=>(g p.2).bind fun q=>match p.1,q.1 with
 | .int i,.int j=>if(-4611686018427387904<=i/\i<4611686018427387904)/\ -4611686018427387904<=j/\j<4611686018427387904 then some (bD i (j - i).toNat,q.2) else none
 |_,_=>none
theorem B5{lo:Int}{n i:Nat}{d:dF}(h:(bD lo n)[i]? =some d):i<n/\d= .int (lo+i):=by
 unfold bD at h;rw[Cq] at h;cases h1:(At n)[i]? with
 |none=>rw[h1] at h;cases h
 |some k=>
  rw[h1] at h;cases h;have:=Ae.mp h1;obtain⟨hl,e⟩:=this;rw[Hb] at hl;rw[Nv] at e;subst e;exact⟨hl,rfl⟩
theorem K7{lo:Int}{n:Nat}:D2 K (Itr lo n) [] (bD lo n):=by
 intro N H _;refine⟨fun i d e=> ?_,by simp[Itr,bD]⟩;obtain⟨hl,rfl⟩:=B5 e;refine⟨hl,fun x H' hy=> ?_⟩;obtain⟨rfl,rfl⟩:=hy;exact⟨bL.refl _,.int _⟩
theorem W8{tg:Expr}{p':Pos}(hg:Gl X "range") (hm:X.mg "range"=none) (h:PE X a (TV K ml pa ta ia fa)) (hs:Aj [a] X.env=[(false,eval a X.env)]:=by rfl) (hs1:Aj (a::[]) X.env=(false,eval a X.env)::Aj [] X.env:=by rfl):
  PI X tg (.Call (.Name "range" p') [a] [] pos) (FR K ml pa (iR1 fa)):=(EZ hg hm (b5 h Z8 hs1) hs).imp fun σ H R ⟨B,O,δ,ds,δ',S,q,k⟩=>by
 unfold iR1 at q;cases h1:fa δ with
 |none=>rw[h1] at q;cases q
 |some p=>
  obtain⟨x,δ1⟩:=p;rw[h1] at q;cases x with
  |int j=>
   have q:(if -4611686018427387904<=j/\j<4611686018427387904 then some (bD 0 j.toNat,δ1) else none)=some (ds,δ'):=q;split at q
   ·rename_i hj
    cases q;have p62:(2:Int) ^ 62=4611686018427387904:=by decide
    refine⟨B,O,δ,_,_,S,h1,fun v H1 R1=>⟨j,?_,by rw[p62];exact hj.1,by rw[p62];exact hj.2,k _ [] H1 (R1.sta.keepV fun _ z=>nomatch z) R1.frm R1.pur K7⟩⟩;have r:=R1.rep;cases r;rfl
   ·cases q
  |_=>cases q
theorem NS{tg:Expr}{p':Pos}(hg:Gl X "range") (hm:X.mg "range"=none) (h:PE X a (TV K ml pa ta ia fa)) (h':PE X b (TV K ml pb tb ib fb)) (hs:Aj [a,b] X.env=[(false,eval a X.env),(false,eval b X.env)]:=by rfl) (hs2:Aj [b] X.env=[(false,eval b X.env)]:=by rfl)
  (he:Aj (a::[b]) X.env=(false,eval a X.env)::Aj [b] X.env:=by rfl) (he2:Aj (b::[]) X.env=(false,eval b X.env)::Aj [] X.env:=by rfl):
  PI X tg (.Call (.Name "range" p') [a,b] [] pos) (FR K ml (pa && pb) (iR2 fa fb)):=(E1 hg hm (b5 h (b5 h' Z8 he2) he) hs hs2).imp fun σ H R ⟨B,O,δ,ds,δ',S,q,k⟩=>by
 unfold iR2 at q;cases h1:fa δ with
 |none=>rw[h1] at q;cases q
 |some p=>
  obtain⟨x,δ1⟩:=p;rw[h1] at q;cases h2:fb δ1 with
  |none=>simp[h2] at q
  |some p2=>
   obtain⟨y,δ2⟩:=p2;simp only[An,h2] at q;cases x with
   |int i=>
    cases y with
    |int j=>
     have q:(if(-4611686018427387904<=i/\i<4611686018427387904)/\ -4611686018427387904<=j/\j<4611686018427387904 then some (bD i (j - i).toNat,δ2) else none)=some (ds,δ'):=q;split at q
     ·rename_i hj
      cases q;have p62:(2:Int) ^ 62=4611686018427387904:=by decide
      refine⟨B,O,δ,_,_,S,h1,fun v H1 R1=>⟨B,O,δ1,_,_,R1.sta,h2,fun v2 H2 R2=>⟨i,j,?_,by rw[p62];exact⟨hj.1.1,hj.1.2,hj.2.1,hj.2.2⟩,k _ [] H2 (R2.sta.keepV fun _ z=>nomatch z) (R1.frm.trans R2.frm) (fun z=>by
       obtain⟨z1,z2⟩:=(Ad _ _).mp z;exact(R1.pur z1).trans (R2.pur z2)) K7⟩⟩⟩
      have r1:=R1.rep;have r2:=R2.rep;cases r1;cases r2;rfl
     ·cases q
    |_=>cases q
   |_=>cases q
noncomputable def YD(gg:VG)(s:VS):List dF->VS
 |[]=>fun δ=>some (.nx δ)
 |d::r=>fun δ=>(gg d δ).bind fun δ1=>(s δ1).bind (again (YD gg s r))
noncomputable def QV(fi:VI)(gg:VG)(s:VS):VS:=fun δ=>(fi δ).bind fun p=>YD gg s p.1 p.2
theorem WT{tg iter:Expr}{body:List Stmt}{fi:VI}{gg:VG}(hp:Qf (model X.prog X.w) X.A X.env X.xe)(hc:X.calm=true)(hi:PI X tg iter (FR K ml pu fi))(hg:PG X tg (DJ K ml gg))(hb:QP X body (UJ K ml g))
  (hs: ∀x,foldedSetIterable iter X.env x=pure x:=by intro _;rfl):PS X (.For tg iter body [] pos) (UJ K ml (QV fi gg g)):=(zE9 hp hc hi hg hb hs).imp fun D σ H ⟨B,O,δ,o,S,q,k⟩=>by
 unfold QV at q;cases h1:fi δ with
 |none=>rw[h1] at q;cases q
 |some p=>
  obtain⟨ds,δ1⟩:=p;rw[h1] at q;have q:YD gg g ds δ1=some o:=q;refine⟨B,O,δ,ds,δ1,S,h1,fun J kps H1 S1 _ _ wk=> ?_⟩;refine⟨fun i m σ H=>m=ds.length - i/\i<=ds.length/\ ∃O δ,aX K ml {B with kp:=kps++B.kp} O H σ δ/\YD gg g (ds.drop i) δ=some o,⟨ds.length,rfl,Cr _,O,δ1,S1,q⟩,?_⟩;rintro i m σ H ⟨rfl,hi,O,δ,S,hf⟩;have w:=wk (Nn B O) H fun p hp=>S.kep p (Bv _ hp);by_cases hlt:i<ds.length
  ·obtain ⟨go,yl⟩ := w.1 i ds[i] (by simp [hlt])
   rw[Cn hlt] at hf;refine .inr ⟨go,fun σ' H'=> ∃O δ,aX K ml {B with kp:=kps++B.kp} O H' σ' δ/\YD gg g (ds.drop (i+1)) δ=some o,fun σ' H' w'=>⟨ds.length - (i+1),by lia,rfl,hlt,w'⟩,fun x H' hy=> ?_⟩;obtain⟨sm,rx⟩:=yl x H' hy;have hf:((gg ds[i] δ).bind fun δ1=>(g δ1).bind (again (YD gg g (ds.drop (i+1)))))=some o:=hf;cases h2:gg ds[i] δ with
   |none=>rw[h2] at hf;cases hf
   |some δ2=>
    rw[h2] at hf;have hf:(g δ2).bind (again (YD gg g (ds.drop (i+1))))=some o:=hf;refine⟨_,O,δ,ds[i],δ2,S.same sm,rx,h2,fun σ2 O2 S2 _=> ?_⟩;cases h3:g δ2 with
    |none=>rw[h3] at hf;cases hf
    |some z=>
     rw[h3] at hf;refine⟨_,O2,δ2,z,S2,h3,?_⟩;cases z with
     |nx δ3=>exact fun σ' H' O' S'=>⟨O',δ3,S',hf⟩
     |ct δ3=>exact fun σ' H' O' S'=>⟨O',δ3,S',hf⟩
     |bk δ3=>cases hf;exact fun σ' H' O' S'=>k σ' H' O' S'.unkeep
     |rt d δ3=>cases hf;exact fun v σ' H' O' S' r=>k v σ' H' O' S'.unkeep r
  ·have e : i = ds.length := by lia
   subst e;rw[Di] at hf;cases hf;exact .inl ⟨w.2,k σ H O S.unkeep⟩
end
section
variable{X:Cx}{K:Ap}{ml:List Nat}{e a b c:Expr}{es:List Expr}{pa ta ia pb tb ib pc tc ic pu bt bi ps bs:Bool}{fa fb fc f:VF}{B B':Bs}{O:Nat->Option Addr}{H H1 H':Hp}{σ:St}{δ δ':Ev}{v:V}{d:dF}{p:Addr}{pos:Pos}{st:Stmt}{rest:List Stmt}{g g':VS}
theorem aX.call{P:Addr->Prop}(S:aX K ml B O H σ δ)(hl:δ'.length=δ.length)(h: ∀i:Nat,(δ'[i]? =δ[i]? /\ ∀a,O i=some a-> ¬P a)∨ ∃a d',O i=some a/\δ'[i]? =some (Sl.ow d')/\P8 K (Nn B O) H' a d')
  (f:Fr P H H') (hP: ∀a,P a->OA O a):aX K ml B O H' σ δ' where
 len:=by rw[hl,S.len]
 va:=fun i d e=>by
  rcases h i with⟨e1,_⟩|⟨a,d',_,e1,_⟩
  ·rw[e1] at e
   obtain⟨v,e2,r⟩:=S.va i d e;exact⟨v,e2,r.fr f (fun a z=> .inr (hP a z)) fun a z=> .inr (hP a z)⟩
  ·rw[e1] at e
   cases e
 ow:=fun i d e=>by
  rcases h i with⟨e1,n⟩|⟨a,d',e2,e1,w⟩
  ·rw[e1] at e
   obtain⟨a,e2,e3,w⟩:=S.ow i d e;exact⟨a,e2,e3,w.fr f (fun a z=> .inr (hP a z)) (n a e2)⟩
  ·rw[e1] at e
   cases e;obtain⟨d0,q0⟩:=S.dom i a e2;obtain⟨a',e3,e4,_⟩:=S.ow i d0 q0;rw[e2] at e3;cases e3;exact⟨a,e2,e4,w⟩
 dom:=fun i a e=>by
  rcases h i with⟨e1,n⟩|⟨a,d',e2,e1,w⟩
  ·obtain⟨d0,q0⟩:=S.dom i a e
   exact⟨d0,e1.trans q0⟩
  ·exact⟨d',e1⟩
 inj:=S.inj
 old:=S.old
 zin:=fun a h'=>by
  obtain⟨o,q⟩:=S.zin a h';exact⟨o,f a o q fun z=>by
   obtain⟨i,e⟩:=hP a z;exact absurd h' (S.old i a e).1⟩
 frm:=fun b o q n=>by
  have h1:=S.frm b o q n;refine f b o h1 fun z=> ?_;obtain⟨i,e⟩:=hP b z;rcases(S.old i b e).2 with w|w
  ·exact n w
  ·rw[q] at w;cases w
 par:=S.par
 pin:=fun a h'=>by
  obtain⟨o,q⟩:=S.pin a h';by_cases z:P a
  ·obtain⟨i,e⟩:=hP a z
   rcases h i with⟨_,n⟩|⟨a',d',e2,e1,w⟩
   ·exact absurd z (n a e)
   ·rw[e] at e2
    cases e2;obtain⟨o,q,_⟩:=w.soft;exact⟨o,q⟩
  ·exact⟨o,f a o q fun y=>absurd y z⟩
 kep:=fun p hp=>(S.kep p hp).fr f (fun a z=> .inr (hP a z)) fun a z=> .inr (hP a z)
abbrev bF:=List dF->Option (dF×List dF)
def NV(ml:List Nat)(vs:List V):Addr->Prop:=fun a=> ∃i∈ml,vs[i]? =some (.ref a)
def Zp(Z:Addr->Prop)(ml:List Nat)(vs:List V):Addr->Prop:=fun a=>Z a∨NV ml vs a
structure zD3(K:Ap)(ml:List Nat)(Z:Addr->Prop)(H:Hp)(vs:List V)(ds:List dF):Prop where
 len:vs.length=ds.length
 mem: ∀i∈ml,i<ds.length
 va: ∀(i:Nat) (d:dF),i∉ml->ds[i]? =some d-> ∃v,vs[i]? =some v/\bU K (Zp Z ml vs) H (Zp Z ml vs) v d
 ow: ∀(i:Nat) (d:dF),i∈ml->ds[i]? =some d-> ∃a,vs[i]? =some (.ref a)/\P8 K (Zp Z ml vs) H a d/\¬Z a
 inj: ∀(i j:Nat) (a:Addr),i∈ml->j∈ml->vs[i]? =some (.ref a)->vs[j]? =some (.ref a)->i=j
 zin: ∀a,Z a-> ∃o,H a=some o
def spV(K:Ap)(ml:List Nat)(n:Nat)(F:bF):Sp:=fun vs H Q _=> ∃(Z:Addr->Prop) (ds:List dF) (r:dF) (os:List dF),ds.length=n/\zD3 K ml Z H vs ds/\F ds=some (r,os)∧
 ∀v H',Fr (NV ml vs) H H'->(∀(k i:Nat) (a:Addr) (o:dF),ml[k]? =some i->vs[i]? =some (.ref a)->os[k]? =some o->P8 K (Zp Z ml vs) H' a o)->bU K (Zp Z ml vs) H' (Zp Z ml vs) v r->Q v H'
noncomputable def cF(ml:List Nat)(n:Nat)(ds:List dF):Ev:=ds.mapIdx (fun i d=>if i∈ml then Sl.ow d else Sl.va d)++Bb (n - ds.length) Sl.no
noncomputable def VW(ml:List Nat)(δ:Ev):Option (List dF):=ml.mapM fun(i:Nat)=>match(δ[i]? :Option Sl) with
 |some (Sl.ow d)=>some d
 |_=>none
noncomputable def aD(n:Nat)(ml:List Nat)(g:VS):bF:=fun ds=>(g (cF ml n ds)).bind fun o=>match o with
 | .rt d δ=>(VW ml δ).map fun os=>(d,os)
 | .nx δ=>(VW ml δ).map fun os=>(.non,os)
 |_=>none
theorem KD: ∀{ml:List Nat} {δ:Ev} {os:List dF},VW ml δ=some os-> ∀(k i:Nat) (o:dF),ml[k]? =some i->os[k]? =some o->δ[i]? =some (.ow o)
 |[],_,_,h,k,i,o,e1,e2=>by simp at e1
 | j :: ml,δ,os,h,k,i,o,e1,e2 => by
  unfold VW at h;rw[Ra] at h;split at h
  ·rename_i d hd
   cases h2:(ml.mapM fun(i:Nat)=>match(δ[i]? :Option Sl) with
    |some (Sl.ow d)=>some d
    |_=>none:Option (List dF)) with
   |none=>rw[h2] at h;cases h
   |some os2=>
    rw[h2] at h;cases h;cases k with
    |zero=>
     cases e1;cases e2;exact hd
    |succ k=>exact KD (ml:=ml) h2 k i o (by simpa using e1) (by simpa using e2)
  ·cases h
theorem FD{N:List Str}{Z:Addr->Prop}{vs:List V}{ds:List dF}(A:zD3 K ml Z H vs ds)(hn:ds.length<=N.length):
  ∃mu:Nat->Option Addr,(∀i a,mu i=some a↔i∈ml/\vs[i]? =some (.ref a))/\aX K ml ⟨Z,NV ml vs,H,mu,[]⟩ mu H (start N vs) (cF ml N.length ds):=by
 classical
 let mu:Nat->Option Addr:=fun i=>if i∈ml then(match vs[i]? with
  |some (.ref a)=>some a
  |_=>none) else none
 have hmu: ∀i a,mu i=some a↔i∈ml/\vs[i]? =some (.ref a):=fun i a=>by
  show(if i∈ml then(match vs[i]? with
   |some (.ref a)=>some a
   |_=>none) else none)=some a↔_
  by_cases hi:i∈ml
  ·rw[if_pos hi]
   constructor
   ·intro h
    split at h
    ·rename_i b hb
     cases h;exact⟨hi,hb⟩
    ·cases h
   ·rintro ⟨_,h⟩
    rw[h]
  ·rw[if_neg hi]
   exact⟨(fun h=>nomatch h),fun h=>absurd h.1 hi⟩
 have hN: ∀a,Nn ⟨Z,NV ml vs,H,mu,[]⟩ mu a->Zp Z ml vs a:=fun a h=>by
  rcases h with h|⟨i,h⟩
  ·exact .inl h
  ·exact .inr ⟨i,(hmu i a).mp h⟩
 have ln: ∀(i:Nat) (s:Sl),(cF ml N.length ds)[i]? =some s->(∃d,ds[i]? =some d/\s=if i∈ml then .ow d else .va d)∨s= .no:=fun i s h=>by
  unfold cF at h;by_cases hi:i<ds.length
  ·rw [Ai (by simpa using hi),Mq] at h
   cases q:ds[i]? with
   |none=>rw[q] at h;cases h
   |some d=>rw[q] at h;cases h;exact .inl ⟨d,rfl,rfl⟩
  ·rw [Bt (by simpa using hi),Cu] at h
   split at h
   ·cases h;exact .inr rfl
   ·cases h
 have hst: ∀(i:Nat) (v:V),vs[i]? =some v->(start N vs)[i]? =some (some v):=fun i v h=>by
  unfold start;have hi:i<vs.length:=(Ae.mp h).1;rw[Ai (by simpa using hi),Cq,h];rfl
 refine⟨mu,hmu,?_,fun i d q=> ?_,fun i d q=> ?_,fun i a q=> ?_,fun i j a q1 q2=> ?_,fun i a q=> ?_,A.zin,Fr.refl _ _,⟨fun i a q=>((hmu i a).mp q).1,fun i _=>rfl⟩,fun a q=> ?_,fun p hp=>nomatch hp⟩
 ·unfold start cF
  have:=A.len;simp;lia
 ·rcases ln i _ q with⟨e,h1,h2⟩|h
  ·by_cases hi:i∈ml
   ·rw[if_pos hi] at h2;cases h2
   ·rw[if_neg hi] at h2
    cases h2;obtain⟨v,e1,r⟩:=A.va i d hi h1;exact⟨v,hst i v e1,r.mono hN hN⟩
  ·cases h
 ·rcases ln i _ q with⟨e,h1,h2⟩|h
  ·by_cases hi:i∈ml
   ·rw[if_pos hi] at h2
    cases h2;obtain⟨a,e1,w,_⟩:=A.ow i d hi h1;exact⟨a,(hmu i a).mpr ⟨hi,e1⟩,hst i _ e1,w.mono hN⟩
   ·rw[if_neg hi] at h2;cases h2
  ·cases h
 ·obtain⟨hi,e1⟩:=(hmu i a).mp q
  have hl:=A.mem i hi;refine⟨ds[i],?_⟩;unfold cF;rw[Ai (by simpa using hl),Mq];simp[hl,hi]
 ·exact A.inj i j a ((hmu i a).mp q1).1 ((hmu j a).mp q2).1 ((hmu i a).mp q1).2 ((hmu j a).mp q2).2
 ·obtain⟨hi,e1⟩:=(hmu i a).mp q
  refine⟨fun z=> ?_,.inl ⟨i,hi,e1⟩⟩;obtain⟨a',e2,_,n⟩:=A.ow i (ds[i]'(A.mem i hi)) hi (by simp[A.mem i hi]);rw[e1] at e2;cases e2;exact n z
 ·obtain⟨i,hi,e1⟩:=q
  obtain⟨a',e2,w,n⟩:=A.ow i (ds[i]'(A.mem i hi)) hi (by simp[A.mem i hi]);rw[e1] at e2;cases e2;obtain⟨o,q,_⟩:=w.soft;exact⟨o,q⟩
theorem zIV{N ps:List Str}{vs:List V}{Q:VK}{E:XK}(hps:ps.length<=N.length)(h:spV K ml ps.length (aD N.length ml g) vs H Q E):UJ K ml g {nx:=fun _ H'=>Q .non H',rt:=Q} (start N vs) H:=by
 obtain⟨Z,ds,r,os,hn,AV,hF,k⟩:=h;obtain⟨mu,hmu,S0⟩:=FD (N:=N) AV (by rw[hn];exact hps);unfold aD at hF;cases h1:g (cF ml N.length ds) with
 |none=>rw[h1] at hF;cases hF
 |some o=>
  rw[h1] at hF;refine⟨_,mu,_,o,S0,h1,?_⟩;have fin: ∀(δ':Ev) (v:V) (σ':St) (H':Hp) (O':Nat->Option Addr),VW ml δ'=some os->aX K ml ⟨Z,NV ml vs,H,mu,[]⟩ O' H' σ' δ'->bU K (rz ⟨Z,NV ml vs,H,mu,[]⟩) H' (rz ⟨Z,NV ml vs,H,mu,[]⟩) v r->Q v H':=fun δ' v σ' H' O' ho S' hr'=>by
   have hz: ∀a,Zp Z ml vs a->rz ⟨Z,NV ml vs,H,mu,[]⟩ a:=fun a h=>by
    rcases h with h|⟨i,hi,e⟩
    ·exact .inl h
    ·exact .inr ⟨i,(hmu i a).mpr ⟨hi,e⟩⟩
   refine k v H' S'.frm (fun kk i a o e1 e2 e3=> ?_) (hr'.mono hz hz);have hd:=KD ho kk i o e1 e3;obtain⟨a',e4,_,w⟩:=S'.ow i o hd;have hi:i∈ml:=Dc e1;have:=(S'.par.2 i hi).trans ((hmu i a).mpr ⟨hi,e2⟩);rw[this] at e4;cases e4;refine w.mono fun b hb=> ?_;rcases hb with hb|⟨j,hj,e5⟩
   ·exact .inl hb
   ·exact .inr ⟨j,(S'.par.2 j hj).trans ((hmu j b).mpr ⟨hj,e5⟩)⟩
  cases o with
  |rt d δ'=>
   have hF:(VW ml δ').map (fun os=>(d,os))=some (r,os):=hF;cases h2:VW ml δ' with
   |none=>rw[h2] at hF;cases hF
   |some os'=>
    rw[h2] at hF;cases hF;exact fun v σ' H' O' S' hr'=>fin δ' v σ' H' O' h2 S' hr'
  |nx δ'=>
   have hF:(VW ml δ').map (fun os=>(dF.non,os))=some (r,os):=hF;cases h2:VW ml δ' with
   |none=>rw[h2] at hF;cases hF
   |some os'=>
    rw[h2] at hF;cases hF;exact fun σ' H' O' S'=>fin δ' .non σ' H' O' h2 S' .non
  |bk δ'=>cases hF
  |ct δ'=>cases hF
theorem XM.okV{P:Bk}{w:World}{mg:Str->Option Value}{base:Heap}{x qual:Str}{st:Stmt}{f:Addr}{fd:Gk}{N ps:List Str}{k:Nat}(F:XM K x qual st f fd)(S:cQ N ps (cY st))(hps:ps.length<=N.length)
  (cj: ∀(cdv:Value) (A:Cz) (outer:List Env) (s:Af) (H:Hp) (E:XK),XZ k (A.deeper (Lj qual (cY st) s.heap.objs.size f cdv))→
   QP (JQ CX0 P w K mg base N qual (cY st) f cdv A outer s H E).nox (ZJ st) (UJ K ml g)):aP P w K mg base CX0 (k+1) f fd ps (spV K ml ps.length (aD N.length ml g)):=by
 refine F.ok S (fun vs H Q E h=> ?_) (fun cdv A outer s H vs Q E hr h=>⟨_,cj cdv A outer s H E hr,zIV hps h⟩);obtain⟨Z,ds,r,os,hn,AV,_⟩:=h;rw[AV.len,hn]
inductive AV where
 |d (d:dF)|o (j:Nat)
inductive V3(K:Ap)(N:Addr->Prop)(H:Hp)(σ:St):List V->List AV->Prop
 |nil:V3 K N H σ [] []
 |d {v:V} {vs:List V} {d:dF} {as:List AV}:bU K N H N v d->V3 K N H σ vs as->V3 K N H σ (v::vs) (.d d::as)
 |o {v:V} {vs:List V} {j:Nat} {as:List AV}:σ[j]? =some (some v)->V3 K N H σ vs as->V3 K N H σ (v::vs) (.o j::as)
abbrev HK:=Ev->Option (List AV×Ev)
structure ResG(K:Ap)(ml:List Nat)(B:Bs)(O:Nat->Option Addr)(H:Hp)(σ:St)(pu:Bool)(H':Hp)(δ':Ev)(vs:List V)(as:List AV):Prop where
 sta:aX K ml B O H' σ δ'
 frm:Fr (OA O) H H'
 pur:pu=true->bL H H'
 rep:V3 K (Nn B O) H' σ vs as
def TAG(K:Ap)(ml:List Nat)(pu:Bool)(f:HK):TA:=fun σ H Q=> ∃B O δ as δ',aX K ml B O H σ δ/\f δ=some (as,δ')/\ ∀vs H',ResG K ml B O H σ pu H' δ' vs as->Q vs H'
def cG:HK:=fun δ=>some ([],δ)
noncomputable def aE(f:VF)(fs:HK):HK:=fun δ=>(f δ).bind fun p=>(fs p.2).map fun q=>(.d p.1::q.1,q.2)
noncomputable def slot(δ:Ev)(j:Nat):Option dF:=match δ[j]? with
 |some (.va d)=>some d
 |some (.ow d)=>some d
 |_=>none
noncomputable def aO(j:Nat)(fs:HK):HK:=fun δ=>(slot δ j).bind fun _=>(fs δ).map fun q=>(.o j::q.1,q.2)
theorem cZ:PA X [] (TAG K ml true cG):=Z8.imp fun σ H Q q0=>by
 obtain⟨B,O,δ,d,δ',S,q,k⟩:=q0;cases q;exact k [] H ⟨S,Fr.refl _ _,fun _=>bL.refl _,.nil⟩
theorem c7{fs:HK}(ha:PE X a (TV K ml pa true true fa))(hr:PA X es (TAG K ml ps fs))(hs:Aj (a::es) X.env=(false,eval a X.env)::Aj es X.env:=by rfl):PA X (a::es) (TAG K ml (pa && ps) (aE fa fs)):=(b5 ha hr hs).imp fun σ H Q q0=>by
 obtain⟨B,O,δ,as,δ2,S,q,k⟩:=q0;unfold aE at q;cases h1:fa δ with
 |none=>rw[h1] at q;cases q
 |some p=>
  obtain⟨x,δ1⟩:=p;rw[h1] at q;have q:((fs δ1).map fun q=>(AV.d x::q.1,q.2))=some (as,δ2):=q;cases h2:fs δ1 with
  |none=>rw[h2] at q;cases q
  |some p2=>
   rw[h2] at q;cases q;refine⟨B,O,δ,x,δ1,S,h1,fun v1 H1 R1=>⟨B,O,δ1,_,_,R1.sta,h2,fun vs H2 R2=>k _ H2 ⟨R2.sta,R1.frm.trans R2.frm,fun z=> ?_,.d (R1.rep.fr R2.frm (fun a z=> .inr z) fun a z=> .inr z) R2.rep⟩⟩⟩;obtain⟨z1,z2⟩:=(Ad _ _).mp z;exact(R1.pur z1).trans (R2.pur z2)
theorem NL{j:Nat}{d:dF}(h:slot δ j=some d):δ[j]? =some (.va d)∨δ[j]? =some (.ow d):=by
 unfold slot at h;split at h
 ·cases h;exact .inl (by assumption)
 ·cases h;exact .inr (by assumption)
 ·cases h
theorem aX.slot(S:aX K ml B O H σ δ){j:Nat}{d:dF}(h:slot δ j=some d): ∃v,σ[j]? =some (some v):=by
 rcases NL h with h|h
 ·obtain⟨v,e,_⟩:=S.va j d h
  exact⟨v,e⟩
 ·obtain⟨a,_,e,_⟩:=S.ow j d h
  exact⟨_,e⟩
theorem bK{fs:HK}{j:Nat}(ha:PE X a (ME j))(hr:PA X es (TAG K ml ps fs))(hs:Aj (a::es) X.env=(false,eval a X.env)::Aj es X.env:=by rfl):PA X (a::es) (TAG K ml ps (aO j fs)):=(b5 ha hr hs).imp fun σ H Q q0=>by
 obtain⟨B,O,δ,as,δ2,S,q,k⟩:=q0;unfold aO at q;cases h1:slot δ j with
 |none=>rw[h1] at q;cases q
 |some d=>
  rw[h1] at q;have q:((fs δ).map fun q=>(AV.o j::q.1,q.2))=some (as,δ2):=q;cases h2:fs δ with
  |none=>rw[h2] at q;cases q
  |some p2=>
   rw[h2] at q;cases q;obtain⟨v,e⟩:=S.slot h1;exact⟨v,e,B,O,δ,_,_,S,h2,fun vs H2 R2=>k _ H2 ⟨R2.sta,R2.frm,R2.pur,.o e R2.rep⟩⟩
theorem V3.length: ∀{N:Addr->Prop} {vs:List V} {as:List AV},V3 K N H σ vs as->vs.length=as.length
 |_,_,_,.nil=>rfl
 |_,_,_,.d _ t=>congrArg (· +1) (V3.length t)
 |_,_,_,.o _ t=>congrArg (· +1) (V3.length t)
theorem V3.getD: ∀{N:Addr->Prop} {vs:List V} {as:List AV} {i:Nat} {d:dF},V3 K N H σ vs as->as[i]? =some (.d d)-> ∃v,vs[i]? =some v/\bU K N H N v d
 |_,_,_,_,_,.nil,e=>by simp at e
 |_,_,_,0,_,.d h _,e=>by simp at e;subst e;exact⟨_,rfl,h⟩
 |_,_,_,0,_,.o h _,e=>by simp at e
 |_,_,_,i+1,_,.d _ t,e=>by
  obtain⟨u,h1,h2⟩:=V3.getD (i:=i) t (by simpa using e);exact⟨u,by simpa using h1,h2⟩
 |_,_,_,i+1,_,.o _ t,e=>by
  obtain⟨u,h1,h2⟩:=V3.getD (i:=i) t (by simpa using e);exact⟨u,by simpa using h1,h2⟩
theorem V3.getO: ∀{N:Addr->Prop} {vs:List V} {as:List AV} {i j:Nat},V3 K N H σ vs as->as[i]? =some (.o j)-> ∃v,vs[i]? =some v/\σ[j]? =some (some v)
 |_,_,_,_,_,.nil,e=>by simp at e
 |_,_,_,0,_,.d h _,e=>by simp at e
 |_,_,_,0,_,.o h _,e=>by simp at e;subst e;exact⟨_,rfl,h⟩
 |_,_,_,i+1,_,.d _ t,e=>by
  obtain⟨u,h1,h2⟩:=V3.getO (i:=i) t (by simpa using e);exact⟨u,by simpa using h1,h2⟩
 |_,_,_,i+1,_,.o _ t,e=>by
  obtain⟨u,h1,h2⟩:=V3.getO (i:=i) t (by simpa using e);exact⟨u,by simpa using h1,h2⟩
noncomputable def argD(δ:Ev):AV->Option dF
 | .d d=>some d
 | .o j=>slot δ j
noncomputable def XS(δ:Ev):List AV->Option (List dF)
 |[]=>some []
 |a::as=>(argD δ a).bind fun d=>(XS δ as).map fun ds=>d::ds
theorem MN: ∀{as:List AV} {ds:List dF},XS δ as=some ds->as.length=ds.length/\ ∀(i:Nat) (d:dF),ds[i]? =some d-> ∃a,as[i]? =some a/\argD δ a=some d
 |[],ds,h=>by cases h;exact⟨rfl,fun i d e=>by simp at e⟩
 | a :: as,ds,h => by
  unfold XS at h;cases h1:argD δ a with
  |none=>rw[h1] at h;cases h
  |some d=>
   rw[h1] at h;cases h2:XS δ as with
   |none=>simp[h2] at h
   |some ds'=>
    simp only[An,h2] at h;cases h;obtain⟨l,g⟩:=MN h2;refine⟨by simp[l],fun i e he=> ?_⟩;cases i with
    |zero=>cases he;exact⟨a,rfl,h1⟩
    |succ i=>
     obtain⟨b,e1,e2⟩:=g i e (by simpa using he);exact⟨b,by simpa using e1,e2⟩
noncomputable def V6:List AV->List Nat
 |[]=>[]
 | .d _::as=>V6 as
 | .o j::as=>j::V6 as
theorem RU: ∀{as:List AV} {i j:Nat},as[i]? =some (.o j)->j∈V6 as
 |[],_,_,e=>by simp at e
 | .d _::as,0,j,e=>by simp at e
 | .o k::as,0,j,e=>by simp at e;subst e;exact Au
 | .d _::as,i+1,j,e=>RU (as:=as) (i:=i) (by simpa using e)
 | .o k::as,i+1,j,e=>Ao _ (RU (as:=as) (i:=i) (by simpa using e))
theorem F6: ∀{as:List AV} {j:Nat},j∈V6 as-> ∃i:Nat,as[i]? =some (AV.o j)
 |[],_,h=>nomatch h
 | .d _::as,j,h=>by
  obtain⟨i,e⟩:=F6 (as:=as) h;exact⟨i+1,by simpa using e⟩
 | .o k :: as,j,h => by
  rcases Ak.mp h with e|e
  ·exact⟨0,by rw[e];rfl⟩
  ·obtain⟨i,e⟩:=F6 (as:=as) e
   exact⟨i+1,by simpa using e⟩
theorem L0: ∀{as:List AV} {i k j:Nat},(V6 as).Nodup->as[i]? =some (.o j)->as[k]? =some (.o j)->i=k
 |[],_,_,_,_,e,_=>by simp at e
 | .d _::as,0,_,j,_,e,_=>by simp at e
 | .d _::as,_+1,0,j,_,_,e=>by simp at e
 | .d _::as,i+1,k+1,j,n,e1,e2=>congrArg (· +1) (L0 (as:=as) n (by simpa using e1) (by simpa using e2))
 | .o x::as,0,0,j,_,_,_=>rfl
 | .o x::as,0,k+1,j,n,e1,e2=>by
  simp at e1;subst e1;have h:as[k]? =some (.o x):=by simpa using e2
  exact absurd (RU h) (Cv.mp n).1
 | .o x::as,i+1,0,j,n,e1,e2=>by
  simp at e2;subst e2;have h:as[i]? =some (.o x):=by simpa using e1
  exact absurd (RU h) (Cv.mp n).1
 | .o x::as,i+1,k+1,j,n,e1,e2=>congrArg (· +1) (L0 (as:=as) (Cv.mp n).2 (by simpa using e1) (by simpa using e2))
noncomputable def GC(δ:Ev)(as:List AV)(i:Nat):Bool:=match as[i]? with
 |some (.o j)=>match δ[j]? with
  |some (.ow _)=>true
  |_=>false
 |_=>false
noncomputable def XQ(mF:List Nat):List AV->Nat->Bool
 |[],_=>true
 | .d _::as,i=>XQ mF as (i+1)
 | .o _::as,i=>decide (i∈mF) && XQ mF as (i+1)
theorem US{mF:List Nat}: ∀{as:List AV} {k i j:Nat},XQ mF as k=true->as[i]? =some (.o j)->k+i∈mF
 |[],_,_,_,_,e=>by simp at e
 | .d _::as,k,0,j,h,e=>by simp at e
 | .o _::as,k,0,j,h,e=>by
  simp only[XQ,Ad,decide_eq_true_eq] at h;exact h.1
 | .d _::as,k,i+1,j,h,e=>by
  have:=US (as:=as) (k:=k+1) (i:=i) (j:=j) h (by simpa using e);rwa[show k+(i+1)=k+1+i by lia]
 | .o _::as,k,i+1,j,h,e=>by
  simp only[XQ,Ad] at h;have:=US (as:=as) (k:=k+1) (i:=i) (j:=j) h.2 (by simpa using e);rwa[show k+(i+1)=k+1+i by lia]
noncomputable def VN:dF->Bool
 | .lst ds=>VL ds
 | .dct _ ds=>VL ds
 |_=>false
theorem P8.kids{N N':Addr->Prop}{a:Addr}(w:P8 K N H a d)(h:VN d=true):P8 K N' H a d:=by
 cases w with
 |lst q r=>exact .lst q (r.hard h)
 |dct q r=>exact .dct q (r.hard h)
noncomputable def W5(as:List AV):List Nat->List dF->Ev->Ev
 |i::is,o::os,δ=>match as[i]? with
  |some (.o j)=>W5 as is os (δ.set j (.ow o))
  |_=>W5 as is os δ
 |_,_,δ=>δ
theorem TL{as:List AV}: ∀{is:List Nat} {os:List dF} {δ:Ev},(W5 as is os δ).length=δ.length
 |[],_,_=>rfl
 |_::_,[],_=>rfl
 |i::is,o::os,δ=>by
  unfold W5;split
  ·rw[TL,Cc]
  ·rw[TL]
theorem PP{as:List AV}: ∀{is:List Nat} {os:List dF} {δ:Ev} (j:Nat),is.length=os.length->j<δ.length→
  (∃(k i:Nat) (o:dF),is[k]? =some i/\os[k]? =some o/\as[i]? =some (AV.o j)/\(W5 as is os δ)[j]? =some (Sl.ow o))∨((∀i∈is,as[i]? ≠some (AV.o j))/\(W5 as is os δ)[j]? =δ[j]?)
 |[],[],δ,j,_,_=> .inr ⟨(fun i h=>nomatch h),rfl⟩
 | i :: is,o :: os,δ,j,hl,hj => by
  unfold W5;split
  ·rename_i j0 e0
   rcases PP (is:=is) (os:=os) (δ:=δ.set j0 (.ow o)) j (by simpa using hl) (by rw[Cc];exact hj) with⟨k,i',o',h1,h2,h3,h4⟩|⟨h1,h2⟩
   ·exact .inl ⟨k+1,i',o',by simpa using h1,by simpa using h2,h3,h4⟩
   ·by_cases hjj:j=j0
    ·subst hjj
     rw[De hj] at h2;exact .inl ⟨0,i,o,rfl,rfl,e0,h2⟩
    ·rw[Bw (Dk hjj)] at h2
     refine .inr ⟨fun i' hi'=> ?_,h2⟩;rcases Ak.mp hi' with z|z
     ·rw[z,e0]
      intro w;cases w;exact hjj rfl
     ·exact h1 i' z
  ·rename_i hn
   rcases PP (is:=is) (os:=os) (δ:=δ) j (by simpa using hl) hj with⟨k,i',o',h1,h2,h3,h4⟩|⟨h1,h2⟩
   ·exact .inl ⟨k+1,i',o',by simpa using h1,by simpa using h2,h3,h4⟩
   ·refine .inr ⟨fun i' hi' => ?_,h2⟩
    rcases Ak.mp hi' with z|z
    ·rw[z]
     exact fun w=>hn j w
    ·exact h1 i' z
noncomputable def WE(mF:List Nat)(as:List AV)(δ:Ev):Bool:=mF.all (GC δ as) && decide (V6 as).Nodup
noncomputable def XC(mF:List Nat)(as:List AV)(r:dF)(os:List dF):Bool:=(XQ mF as 0 || r.hard) && (XQ mF as 0 || os.all VN) && decide (mF.length=os.length)
noncomputable def cV(n:Nat)(mF:List Nat)(F:bF)(fs:HK):VF:=fun δ=>(fs δ).bind fun p=>(XS p.2 p.1).bind fun ds=>if ds.length=n/\WE mF p.1 p.2=true then(F ds).bind fun q=>if XC mF p.1 q.1 q.2=true then some (q.1,W5 p.1 mF q.2 p.2) else none else none
theorem zAN{n:Nat}{mF:List Nat}{F:bF}{fs:HK}{Q:VK}(h:TV K ml (ps && mF.isEmpty) true true (cV n mF F fs) σ H Q):CO (spV K mF n F) [] E0 (TAG K ml ps fs) σ H Q:=by
 obtain⟨B,O,δ,d,δ2,S,q,k⟩:=h;unfold cV at q;cases h1:fs δ with
 |none=>rw[h1] at q;cases q
 |some p=>
  obtain⟨as,δ1⟩:=p;rw[h1] at q;have q:((XS δ1 as).bind fun ds=>if ds.length=n/\WE mF as δ1=true then(F ds).bind fun q=>if XC mF as q.1 q.2=true then some (q.1,W5 as mF q.2 δ1) else none else none)=some (d,δ2):=q;cases h2:XS δ1 as with
  |none=>rw[h2] at q;cases q
  |some ds=>
   rw[h2] at q;have q:(if ds.length=n/\WE mF as δ1=true then(F ds).bind fun q=>if XC mF as q.1 q.2=true then some (q.1,W5 as mF q.2 δ1) else none else none)=some (d,δ2):=q;split at q
   ·rename_i hc
    cases h3:F ds with
    |none=>rw[h3] at q;cases q
    |some z=>
     obtain⟨r,os⟩:=z;rw[h3] at q;have q:(if XC mF as r os=true then some (r,W5 as mF os δ1) else none)=some (d,δ2):=q;split at q
     ·rename_i hb
      cases q;obtain⟨hn,hc⟩:=hc;simp only[WE,Ad,decide_eq_true_eq,Io] at hc;simp only[XC,Ad,decide_eq_true_eq] at hb;obtain⟨hmu,hnd⟩:=hc;obtain⟨⟨ng,nv⟩,ae⟩:=hb;refine⟨B,O,δ,as,δ1,S,h1,fun vs H1 R=> ?_⟩;show spV K mF n F (vs++[]) H1 Q E0;rw[Dn];obtain⟨hal,hag⟩:=MN h2;have hm: ∀i∈mF,∃j a x,as[i]? =some (.o j)/\δ1[j]? =some (.ow x)/\O j=some a/\vs[i]? =some (.ref a)/\P8 K (Nn B O) H1 a x:=fun i hi=>by
       have:=hmu i hi;unfold GC at this;split at this
       ·rename_i j ej
        split at this
        ·rename_i x ex
         obtain⟨a,e1,e2,w⟩:=R.sta.ow j x ex;obtain⟨v,e3,e4⟩:=R.rep.getO ej;rw[e2] at e4;cases e4;exact⟨j,a,x,ej,ex,e1,e3,w⟩
        ·cases this
       ·cases this
      have hP: ∀a,NV mF vs a-> ∃i j,i∈mF/\as[i]? =some (.o j)/\O j=some a:=fun a q0=>by
       obtain⟨i,hi,e⟩:=q0;obtain⟨j,a',x,e1,_,e2,e3,_⟩:=hm i hi;rw[e] at e3;cases e3;exact⟨i,j,hi,e1,e2⟩
      have hPO: ∀a,NV mF vs a->OA O a:=fun a h=>by
       obtain⟨i,j,_,_,e⟩:=hP a h;exact⟨j,e⟩
      have hZp: ∀a,Zp (fun a=>Nn B O a/\ ∀j∈V6 as,O j≠some a) mF vs a->Nn B O a:=fun a h=>by
       rcases h with h|h
       ·exact h.1
       ·exact .inr (hPO a h)
      refine⟨fun a=>Nn B O a/\ ∀j∈V6 as,O j≠some a,ds,_,os,hn,⟨by rw[<- hal,R.rep.length],fun i hi=> ?_,fun i x hi e=> ?_,fun i x hi e=> ?_,fun i j a hi hj e1 e2=> ?_,fun a h=>R.sta.nin h.1⟩,h3,fun v H2 f2 w2 r2=> ?_⟩
      ·obtain⟨j,a,x,e1,_⟩:=hm i hi
       rw[<- hal];exact(Ae.mp e1).1
      ·obtain⟨a,e1,e2⟩:=hag i x e
       cases a with
       |d y=>
        cases e2;obtain⟨v,e3,r⟩:=R.rep.getD e1;exact⟨v,e3,r.mono hZp hZp⟩
       |o j=>
        obtain⟨v,e3,e4⟩:=R.rep.getO e1;refine⟨v,e3,?_⟩;rcases NL e2 with e5|e5
        ·obtain⟨v',e6,r⟩:=R.sta.va j x e5
         rw[e4] at e6;cases e6;exact r.mono hZp hZp
        ·obtain⟨a,e7,e6,w⟩:=R.sta.ow j x e5
         rw[e4] at e6;cases e6;refine(w.mono hZp).rep fun z=> ?_;rcases z with z|z
         ·exact z.2 j (RU e1) e7
         ·obtain⟨i',j',hi',e8,e9⟩:=hP a z
          have:j=j':=R.sta.inj j j' a e7 e9;subst this;have:=L0 hnd e1 e8;subst this;exact hi hi'
      ·obtain⟨a,e1,e2⟩:=hag i x e
       obtain⟨j,b,y,e3,e4,e5,e6,w⟩:=hm i hi;rw[e3] at e1;cases e1;have e7:slot δ1 j=some y:=by unfold slot;rw[e4]
       have e2:slot δ1 j=some x:=e2;rw[e7] at e2;cases e2;exact⟨b,e6,w.mono hZp,fun z=>z.2 j (RU e3) e5⟩
      ·obtain⟨j1,b1,_,e3,_,e4,e5,_⟩:=hm i hi
       obtain⟨j2,b2,_,e6,_,e7,e8,_⟩:=hm j hj;rw[e1] at e5;cases e5;rw[e2] at e8;cases e8;have:j1=j2:=R.sta.inj j1 j2 a e4 e7;subst this;exact L0 hnd e3 e6
      ·have S2:aX K ml B O H2 σ (W5 as mF os δ1):=by
        refine R.sta.call TL (fun j=> ?_) f2 hPO;by_cases hj:j<δ1.length
        ·rcases PP (as:=as) (is:=mF) (os:=os) (δ:=δ1) j ae hj with⟨kk,i,o,e1,e2,e3,e4⟩|⟨e1,e2⟩
         ·obtain⟨j',a,x,e5,_,e6,e7,_⟩:=hm i (Dc e1)
          rw[e3] at e5;cases e5;have w:=w2 kk i a o e1 e7 e2;refine .inr ⟨a,o,e6,e4,?_⟩;rcases(Fu _ _).mp nv with z|z
          ·refine w.mono fun b hb => ?_
           by_cases hjs: ∃j'∈V6 as,O j'=some b
           ·obtain⟨j',hj',e8⟩:=hjs
            obtain⟨i',e9⟩:=F6 hj';have hi':=US z e9;rw[Fw] at hi';obtain⟨j'',a'',_,e10,_,e11,e12,_⟩:=hm i' hi';rw[e9] at e10;cases e10;rw[e8] at e11;cases e11;exact .inr ⟨i',hi',e12⟩
           ·exact .inl ⟨hb,fun j' hj' e=>hjs ⟨j',hj',e⟩⟩
          ·exact w.kids (Io.mp z o (Dc e2))
         ·refine .inl ⟨e2,fun a ea hPa => ?_⟩
          obtain⟨i,j',hi,e3,e4⟩:=hP a hPa;have:j=j':=R.sta.inj j j' a ea e4;subst this;exact e1 i hi e3
        ·refine .inl ⟨?_,fun a ea => ?_⟩
         ·rw[Br (by rw[TL];lia),Br (by lia)]
         ·obtain⟨x,ex⟩:=R.sta.dom j a ea
          exact absurd (Ae.mp ex).1 hj
       refine k v H2 ⟨S2,R.frm.trans (f2.mono hPO),fun z=> ?_,?_⟩
       ·obtain⟨z1,z2⟩:=(Ad _ _).mp z
        refine(R.pur z1).trans fun b o e=>f2 b o e fun w=> ?_;obtain⟨i,hi,_⟩:=w;rw[Pn.mp z2] at hi;cases hi
       ·rcases(Fu _ _).mp ng with z|z
        ·have hN : ∀ a,Nn B O a -> Zp (fun a => Nn B O a /\ ∀ j ∈ V6 as,O j ≠ some a) mF vs a := fun b hb => by
          by_cases hjs: ∃j'∈V6 as,O j'=some b
          ·obtain⟨j',hj',e8⟩:=hjs
           obtain⟨i',e9⟩:=F6 hj';have hi':=US z e9;rw[Fw] at hi';obtain⟨j'',a'',_,e10,_,e11,e12,_⟩:=hm i' hi';rw[e9] at e10;cases e10;rw[e8] at e11;cases e11;exact .inr ⟨i',hi',e12⟩
          ·exact .inl ⟨hb,fun j' hj' e=>hjs ⟨j',hj',e⟩⟩
         exact r2.mono hN hN
        ·exact r2.hard z
     ·cases q
   ·cases q
theorem zAM{x:Str}{kk j n:Nat}{qs:List Str}{mF:List Nat}{F:bF}{ff:Addr}{p':Pos}{fs:HK}(hK:X.K=K)(D:Def X.prog X.w K X.mg X.base x kk qs (spV K mF n F) ff)(hr:XZ j X.A)(hk:kk<=j)(hg:Gl X x)(ha:PA X (e::es) (TAG K ml ps fs))(hdb:(x==("__debug__":Str))=false:=by decide)
  (he:Aj (e::es) X.env=(false,eval e X.env)::Aj es X.env:=by rfl) (hpl:(Gc pos (Aj es X.env)).any (·.1)=false:=by rfl):
  PE X (.Call (.Name x p') (e::es) [] pos) (TV K ml (ps && mF.isEmpty) true true (cV n mF F fs)):=by
 subst hK;exact(A9 D hr hk hg ha hdb he hpl).imp fun _ _ _ h=>zAN h
end
section
variable{X:Cx}{K:Ap}{ml:List Nat}{e a b c:Expr}{es:List Expr}{pi pt pe pu bt bi ps bs:Bool}{f:VF}{B B':Bs}{O:Nat->Option Addr}{H H0 H1 H':Hp}{σ:St}{δ δ':Ev}{v:V}{d:dF}{p:Addr}{pos:Pos}{ix:List Nat}{nl:Nat}
def cC(ix:List Nat)(δ:Ev):Ev:=ix.map fun i=>(δ[i]?).getD .no
def Q3(nl:Nat):Ev:=Bb nl Sl.no
noncomputable def aQ(n nl:Nat)(gg:VG)(tb:VB)(fe:VF):List dF->List dF->Ev->Option (List dF×Ev)
 |[],acc,δ=>some (acc,δ)
 |d::r,acc,δ=>(gg d (δ++Q3 nl)).bind fun δ1=>(tb δ1).bind fun p=>if p.1=true then(fe p.2).bind fun q=>if acc.length<16777216 then aQ n nl gg tb fe r (acc++[q.1]) (q.2.take n) else none else aQ n nl gg tb fe r acc (p.2.take n)
noncomputable def Z1:List Nat->Ev->Ev->Ev
 |i::is,s::ss,δ=>match s with
  | .ow d=>Z1 is ss (δ.set i (.ow d))
  |_=>Z1 is ss δ
 |_,_,δ=>δ
noncomputable def Z3(ix:List Nat)(nl:Nat)(fi:VI)(gg:VG)(tb:VB)(fe:VF):VF:=fun δ=>(fi δ).bind fun p=>(aQ ix.length nl gg tb fe p.1 [] (cC ix p.2)).map fun q=>(.lst q.1,Z1 ix q.2 p.2)
def V5:VB:=fun δ=>some (true,δ)
theorem YK: ∀{ix:List Nat} {ss δ:Ev},(Z1 ix ss δ).length=δ.length
 |[],_,_=>rfl
 |_::_,[],_=>rfl
 |i::is,s::ss,δ=>by
  cases s<;>simp only[Z1]<;>rw[YK]<;>try rw[Cc]
theorem XY: ∀{ix:List Nat} {ss δ:Ev} (i:Nat),i<δ.length->ix.length=ss.length→
  (∃(j:Nat) (d:dF),ix[j]? =some i/\ss[j]? =some (Sl.ow d)/\(Z1 ix ss δ)[i]? =some (Sl.ow d))∨((∀(j:Nat) (d:dF),ix[j]? =some i->ss[j]? ≠some (Sl.ow d))/\(Z1 ix ss δ)[i]? =δ[i]?)
 |[],ss,δ,i,hi,hl=> .inr ⟨(fun j d h=>by simp at h),rfl⟩
 |k::is,[],δ,i,hi,hl=>by cases hl
 | k :: is,s :: ss,δ,i,hi,hl => by
  have hl2:is.length=ss.length:=by simpa using hl
  cases s with
  |ow d=>
   simp only[Z1];rcases XY (ix:=is) (ss:=ss) (δ:=δ.set k (.ow d)) i (by rw[Cc];exact hi) hl2 with⟨j,d',h1,h2,h3⟩|⟨h1,h2⟩
   ·exact .inl ⟨j+1,d',by simpa using h1,by simpa using h2,h3⟩
   ·by_cases hk:i=k
    ·subst hk
     rw[De hi] at h2;exact .inl ⟨0,d,rfl,rfl,h2⟩
    ·rw[Bw (Dk hk)] at h2
     refine .inr ⟨fun j d' e=> ?_,h2⟩;cases j with
     |zero=>cases e;exact absurd rfl hk
     |succ j=>simpa using h1 j d' (by simpa using e)
  |va d=>
   simp only[Z1];rcases XY (ix:=is) (ss:=ss) (δ:=δ) i hi hl2 with⟨j,d',h1,h2,h3⟩|⟨h1,h2⟩
   ·exact .inl ⟨j+1,d',by simpa using h1,by simpa using h2,h3⟩
   ·refine .inr ⟨fun j d' e => ?_,h2⟩
    cases j with
    |zero=>simp
    |succ j=>simpa using h1 j d' (by simpa using e)
  |no=>
   simp only[Z1];rcases XY (ix:=is) (ss:=ss) (δ:=δ) i hi hl2 with⟨j,d',h1,h2,h3⟩|⟨h1,h2⟩
   ·exact .inl ⟨j+1,d',by simpa using h1,by simpa using h2,h3⟩
   ·refine .inr ⟨fun j d' e => ?_,h2⟩
    cases j with
    |zero=>simp
    |succ j=>simpa using h1 j d' (by simpa using e)
noncomputable def Oc(ix:List Nat)(O:Nat->Option Addr):Nat->Option Addr:=fun j=>(ix[j]?).bind O
noncomputable def Bc(ix:List Nat)(B:Bs)(O:Nat->Option Addr)(H0:Hp)(D:Addr)(kp:List (V×dF)):Bs:=
 ⟨fun a=>(B.Z a∨a=D)∨ ∃i,O i=some a/\i∉ix,OA (Oc ix O),H0,Oc ix O,kp⟩
theorem PC{D:Addr}{kp:List (V×dF)}: ∀a,Nn (Bc ix B O H0 D kp) (Oc ix O) a->Nn B O a∨a=D:=fun a h=>by
 rcases h with((h|h)|⟨i,h,_⟩)|⟨j,h⟩
 ·exact .inl (.inl h)
 ·exact .inr h
 ·exact .inl (.inr ⟨i,h⟩)
 ·unfold Oc at h
  cases q:ix[j]? with
  |none=>rw[q] at h;cases h
  |some i=>rw[q] at h;exact .inl (.inr ⟨i,h⟩)
theorem WN{D:Addr}{kp:List (V×dF)}: ∀a,Nn (B.add D) O a->Nn (Bc ix B O H0 D kp) (Oc ix O) a:=fun a h=>by
 rcases h with h|⟨i,h⟩
 ·exact .inl (.inl h)
 ·by_cases hi:i∈ix
  ·obtain⟨j,hj⟩:=Im.mp hi
   exact .inr ⟨j,by unfold Oc;rw[hj];exact h⟩
  ·exact .inl (.inr ⟨i,h,hi⟩)
theorem aX.withKp{kp:List (V×dF)}(S:aX K ml B O H σ δ)(h: ∀p∈kp,bU K (Nn B O) H (Nn B O) p.1 p.2):aX K ml {B with kp:=kp} O H σ δ:=
 ⟨S.len,S.va,S.ow,S.dom,S.inj,S.old,S.zin,S.frm,S.par,S.pin,h⟩
theorem aX.writeZ{D:Addr}{o:HO}{acc:List V}(S:aX K ml B O H σ δ)(hD:B.Z D)(hl:H D=some (.lst acc))(h0:B.H0 D=none):aX K ml B O (bH H D o) σ δ:=by
 have hf:Fr (fun b=>b=D) H (bH H D o):=fun b u q n=>by
  by_cases hb:b=D
  ·subst hb
   rw[hl] at q;cases q;exact absurd (n rfl) fun z=>z
  ·rw[b7 hb]
   exact q
 have hN: ∀b,b=D->Nn B O b:=fun b z=> .inl (z▸hD);have hin: ∀b,(∃u,H b=some u)-> ∃u,bH H D o b=some u:=fun b q0=>by
  obtain⟨u,q⟩:=q0;by_cases hb:b=D
  ·exact⟨o,by rw[hb];exact cO⟩
  ·exact⟨u,by rw[b7 hb];exact q⟩
 refine⟨S.len,fun i d q=> ?_,fun i d q=> ?_,S.dom,S.inj,S.old,fun b h=>hin b (S.zin b h),fun b u q n=> ?_,S.par,fun b h=>hin b (S.pin b h),fun p hp=>(S.kep p hp).fr hf hN hN⟩
 ·obtain⟨v,e,r⟩:=S.va i d q
  exact⟨v,e,r.fr hf hN hN⟩
 ·obtain⟨a,e,e2,w⟩:=S.ow i d q
  exact⟨a,e,e2,w.fr hf hN fun z=>(S.old i a e).1 (z▸hD)⟩
 ·have hb : b ≠ D := fun z => by rw [z,h0] at q;cases q
  rw[b7 hb];exact S.frm b u q n
theorem MS{j:Nat}{s:Sl}(h:(cC ix δ++Q3 nl)[j]? =some s):(∃i,ix[j]? =some i/\s=(δ[i]?).getD .no)∨s= .no:=by
 unfold cC Q3 at h;by_cases hj:j<ix.length
 ·rw [Ai (by simpa using hj),Cq] at h
  cases q:ix[j]? with
  |none=>rw[q] at h;cases h
  |some i=>rw[q] at h;cases h;exact .inl ⟨i,rfl,rfl⟩
 ·rw [Bt (by simpa using hj),Cu] at h
  split at h
  ·cases h;exact .inr rfl
  ·cases h
theorem JN{i j:Nat}{v:V}(hi:ix[j]? =some i)(h:σ[i]? =some (some v)):(bN ix σ++Bb nl none)[j]? =some (some v):=by
 have hj:j<ix.length:=(Ae.mp hi).1;unfold bN;rw[Ai (by simpa using hj),Cq,hi];show some ((σ[i]?).join)=_;rw[h];rfl
theorem aX.inner{D:Addr}(S:aX K ml B O H0 σ δ)(hD:H0 D=none)(hnd:ix.Nodup){kps:List (V×dF)}(hk: ∀p∈kps,bU K (Nn B O) H0 (Nn B O) p.1 p.2):
  aX K (At ix.length) (Bc ix B O H0 D kps) (Oc ix O) (bH H0 D (.lst [])) (bN ix σ++Bb nl none) (cC ix δ++Q3 nl) where
 len:=by simp[bN,cC,Q3]
 va := fun j d e => by
  rcases MS e with⟨i,hi,q⟩|q
  ·have q:δ[i]? =some (.va d):=by
    cases w:δ[i]? with
    |none=>rw[w] at q;cases q
    |some s=>rw[w] at q;rw[show s= .va d from q.symm]
   obtain⟨v,e1,r⟩:=S.va i d q;exact⟨v,JN hi e1,(r.away hD _ _ PC PC).same (c6 hD)⟩
  ·cases q
 ow := fun j d e => by
  rcases MS e with⟨i,hi,q⟩|q
  ·have q:δ[i]? =some (.ow d):=by
    cases w:δ[i]? with
    |none=>rw[w] at q;cases q
    |some s=>rw[w] at q;rw[show s= .ow d from q.symm]
   obtain⟨a,e1,e2,w⟩:=S.ow i d q;refine⟨a,by unfold Oc;rw[hi];exact e1,JN hi e2,?_⟩;cases w with
   |lst q' r=>exact .lst (c6 hD _ _ q') ((r.away hD _ _ PC).same (c6 hD))
   |dct q' r=>exact .dct (c6 hD _ _ q') ((r.away hD _ _ PC).same (c6 hD))
  ·cases q
 dom:=fun j a e=>by
  unfold Oc at e;cases hi:ix[j]? with
  |none=>rw[hi] at e;cases e
  |some i=>
   rw[hi] at e;obtain⟨d,q⟩:=S.dom i a e;refine⟨d,?_⟩;have hj:j<ix.length:=(Ae.mp hi).1;unfold cC;rw[Ai (by simpa using hj),Cq,hi];show some ((δ[i]?).getD .no)=_;rw[q];rfl
 inj:=fun j k a e1 e2=>by
  unfold Oc at e1 e2;cases hi:ix[j]? with
  |none=>rw[hi] at e1;cases e1
  |some i=>
   cases hk:ix[k]? with
   |none=>rw[hk] at e2;cases e2
   |some i'=>
    rw[hi] at e1;rw[hk] at e2;have:i=i':=S.inj i i' a e1 e2;subst this;obtain⟨l1,q1⟩:=Ae.mp hi;obtain⟨l2,q2⟩:=Ae.mp hk;exact(Ph hnd).mp (q1.trans q2.symm)
 old:=fun j a e=>by
  have e':=e;unfold Oc at e';cases hi:ix[j]? with
  |none=>rw[hi] at e';cases e'
  |some i=>
   rw[hi] at e';refine⟨fun z=> ?_,.inl ⟨j,e⟩⟩;rcases z with(z|z)|⟨i',z,n⟩
   ·exact(S.old i a e').1 z
   ·obtain⟨o,q⟩:=S.nin (.inr ⟨i,e'⟩)
    rw[z,hD] at q;cases q
   ·have:i=i':=S.inj i i' a e' z
    subst this;exact n (Dc hi)
 zin:=fun a h=>by
  rcases h with(h|h)|⟨i,h,_⟩
  ·obtain⟨o,q⟩:=S.zin a h
   exact⟨o,c6 hD _ _ q⟩
  ·exact⟨_,by rw[h];exact cO⟩
  ·obtain⟨o,q⟩:=S.nin (.inr ⟨i,h⟩)
   exact⟨o,c6 hD _ _ q⟩
 frm:=(c6 hD).fr
 par:=⟨fun j a e=>by
  have e:(ix[j]?).bind O=some a:=e;cases hi:ix[j]? with
  |none=>rw[hi] at e;cases e
  |some i=>exact Ci.mpr (Ae.mp hi).1,fun j _=>rfl⟩
 pin:=fun a q0=>by
  obtain⟨j,e⟩:=q0;unfold Oc at e;cases hi:ix[j]? with
  |none=>rw[hi] at e;cases e
  |some i=>
   rw[hi] at e;obtain⟨o,q⟩:=S.nin (.inr ⟨i,e⟩);exact⟨o,c6 hD _ _ q⟩
 kep:=fun p hp=>((hk p hp).away hD _ _ PC PC).same (c6 hD)
theorem aX.turn{O':Nat->Option Addr}{σ':St}{n:Nat}{m:St}(S:aX K (At n) B O' H σ' δ)(hmu: ∀j,n<=j->B.mu j=none)(hm:m.length=n)(hσ:σ'.take n=m)(hn:n<=δ.length):aX K (At n) B B.mu H (m++Bb nl none) (δ.take n++Q3 nl):=by
 have hO: ∀j,j<n->O' j=B.mu j:=fun j hj=>S.par.2 j (Ci.mpr hj);have hle: ∀j a,B.mu j=some a->O' j=some a:=fun j a e=>by rw[hO j (Ci.mp (S.par.1 j a e))];exact e
 have hN: ∀a,Nn B B.mu a->Nn B O' a:=fun a h=>by
  rcases h with h|⟨j,h⟩
  ·exact .inl h
  ·exact .inr ⟨j,hle j a h⟩
 have hg: ∀(j:Nat) (s:Sl),(δ.take n++Q3 nl)[j]? =some s->(j<n/\δ[j]? =some s)∨s= .no:=fun j s h=>by
  have hl:(δ.take n).length=n:=by rw[Bp];lia
  by_cases hj:j<n
  ·rw [Ai (by rw [hl];exact hj),Cb hj] at h
   exact .inl ⟨hj,h⟩
  ·unfold Q3 at h
   rw[Bt (by rw[hl];lia),Cu] at h;split at h
   ·cases h;exact .inr rfl
   ·cases h
 have hs: ∀(j:Nat) (v:V),j<n->σ'[j]? =some (some v)->(m++Bb nl none)[j]? =some (some v):=fun j v hj e=>by
  rw[Ai (by rw[hm];exact hj),<- hσ,Cb hj];exact e
 refine⟨?_,fun j d e=> ?_,fun j d e=> ?_,fun j a e=> ?_,fun j k a e1 e2=>S.inj j k a (hle j a e1) (hle k a e2),fun j a e=>S.old j a (hle j a e),S.zin,S.frm,⟨S.par.1,fun j _=>rfl⟩,S.pin,fun p hp=>(S.kep p hp).mono hN hN⟩
 ·simp[hm,Q3,Bp]
  lia
 ·rcases hg j _ e with⟨hj,e⟩|e
  ·obtain⟨v,e1,r⟩:=S.va j d e
   exact⟨v,hs j v hj e1,r.mono hN hN⟩
  ·cases e
 ·rcases hg j _ e with⟨hj,e⟩|e
  ·obtain⟨a,e1,e2,w⟩:=S.ow j d e
   exact⟨a,(hO j hj)▸e1,hs j _ hj e2,w.mono hN⟩
  ·cases e
 ·have hj:=Ci.mp (S.par.1 j a e)
  obtain⟨d,q⟩:=S.dom j a (hle j a e);refine⟨d,?_⟩;rw[Ai (by rw[Bp];lia),Cb hj];exact q
theorem Z2(ix:List Nat)(σ:St):(bN ix σ).length=ix.length:=by simp[bN]
theorem SE{σ':St}(hl:ix.length<=σ'.length)(h: ∀i∈At ix.length,σ'[i]? =(bN ix σ++Bb nl none)[i]?):σ'.take ix.length=bN ix σ:=by
 refine Kk fun j=> ?_;by_cases hj:j<ix.length
 ·rw[Cb hj,h j (Ci.mpr hj),Ai (by rw[Z2];exact hj)]
 ·rw[Br (by rw[Bp];lia),Br (by rw[Z2];lia)]
theorem HB{fi:VI}{gg:VG}{tb:VB}{fe:VF}(hnd:ix.Nodup){Q:VK}(h:TN K ml (pi && pt && pe) (Z3 ix nl fi gg tb fe) σ H Q):
  HA ix nl (FR K ml pi fi) (DJ K (At ix.length) gg) (TB K (At ix.length) pt tb) (TV K (At ix.length) pe true true fe) σ H Q:=by
 obtain⟨B,O,δ,d,δ2,S,q,k⟩:=h;unfold Z3 at q;cases h1:fi δ with
 |none=>rw[h1] at q;cases q
 |some p=>
  obtain⟨ds,δ1⟩:=p;rw[h1] at q;have q:((aQ ix.length nl gg tb fe ds [] (cC ix δ1)).map fun q=>(dF.lst q.1,Z1 ix q.2 δ1))=some (d,δ2):=q;cases h2:aQ ix.length nl gg tb fe ds [] (cC ix δ1) with
  |none=>rw[h2] at q;cases q
  |some z=>
   obtain⟨res,δf⟩:=z;rw[h2] at q;cases q;refine⟨B,O,δ,ds,δ1,S,h1,fun J kps H0 S0 f0 p0 wk D hD=> ?_⟩;have hDO: ∀j,Oc ix O j≠some D:=fun j e=>by
    unfold Oc at e;cases hi:ix[j]? with
    |none=>rw[hi] at e;cases e
    |some i=>
     rw[hi] at e;obtain⟨o,q⟩:=S0.nin (.inr ⟨i,e⟩);rw[hD] at q;cases q
   have da: ∀kp j,ix.length<=j->(Bc ix B O H0 D kp).mu j=none:=fun kp j hj=>by
    show(ix[j]?).bind O=none;rw[Br hj];rfl
   refine⟨fun i m acc H1=>m=ds.length - i/\i<=ds.length/\ ∃(ah:List dF) (δc:Ev),δc.length=ix.length/\acc.length=ah.length∧
     aX K (At ix.length) (Bc ix B O H0 D (kps++acc.zip ah)) (Oc ix O) H1 (bN ix σ++Bb nl none) (δc++Q3 nl)/\H1 D=some (.lst acc)/\((pt && pe)=true->bL H0 H1)∧
     aQ ix.length nl gg tb fe (ds.drop i) ah δc=some (res,δf),
    ⟨ds.length,rfl,Cr _,[],cC ix δ1,by simp [cC],rfl,by
     rw[Kl,Dn];exact S0.unkeep.inner hD hnd fun p hp=>S0.kep p (Bv _ hp),cO,fun _=>c6 hD,h2⟩,?_⟩
   rintro i m acc H1 ⟨rfl,hi,ah,δc,hlc,au,S1,hD1,bu,hc⟩;have w:=wk (Nn (Bc ix B O H0 D (kps++acc.zip ah)) (Oc ix O)) H1 fun p hp=>S1.kep p (Bv _ hp);by_cases hlt:i<ds.length
   ·obtain ⟨go,yl⟩ := w.1 i ds[i] (by simp [hlt])
    rw[Cn hlt] at hc;simp only[aQ] at hc;cases g1:gg ds[i] (δc++Q3 nl) with
    |none=>rw[g1] at hc;cases hc
    |some δ3=>
     rw[g1] at hc;simp only[An] at hc;cases g2:tb δ3 with
     |none=>rw[g2] at hc;cases hc
     |some z=>
      obtain⟨kk,δ4⟩:=z;rw[g2] at hc;simp only[An] at hc;refine .inr ⟨go,fun af H'=> ∃(ah:List dF) (δc:Ev),δc.length=ix.length/\af.length=ah.length∧
       aX K (At ix.length) (Bc ix B O H0 D (kps++af.zip ah)) (Oc ix O) H' (bN ix σ++Bb nl none) (δc++Q3 nl)/\H' D=some (.lst af)/\((pt && pe)=true->bL H0 H')∧
       aQ ix.length nl gg tb fe (ds.drop (i+1)) ah δc=some (res,δf),fun af H' w'=>⟨ds.length - (i+1),by lia,rfl,hlt,w'⟩,fun x H2 hy=> ?_⟩
      obtain⟨sm,rx⟩:=yl x H2 hy;refine⟨_,_,_,ds[i],δ3,S1.same sm,rx,g1,fun σ3 O3 S3 m3=> ?_⟩;have ln3:ix.length<=σ3.length:=by
       by_cases hz:ix.length=0
       ·lia
       ·have hj : ix.length - 1 < ix.length := by lia
        have:=m3 (ix.length - 1) (Ci.mpr hj);have hs:(bN ix σ++Bb nl none)[ix.length - 1]? ≠none:=by
         rw[Ai (by rw[Z2];exact hj)];simp[bN,hj]
        rw[<- this] at hs;have ll:ix.length - 1<σ3.length:=Ll fun z=>hs (Hf.mpr z);lia
      have hσ3:=SE ln3 m3;refine⟨hσ3,_,_,δ3,kk,δ4,S3,g2,fun H4 R4=> ?_⟩;have hD4:H4 D=some (.lst acc):=R4.frm _ _ (sm _ _ hD1) fun z=>by
       obtain⟨j,e⟩:=z;have:=(R4.sta.old j D e).1;exact absurd (.inl (.inr rfl)) this
      have ln4:ix.length<=δ4.length:=by rw[<- R4.sta.len];exact ln3
      cases kk with
      |false=>
       rw[if_neg Df] at hc;refine QS ⟨ah,δ4.take ix.length,by rw[Bp];lia,au,R4.sta.turn (da _) (Z2 ix σ) hσ3 ln4,hD4,fun z=> ?_,hc⟩;exact((bu z).trans sm).trans (R4.pur ((Ad _ _).mp z).1)
      |true=>
       rw[if_pos rfl] at hc;cases g3:fe δ4 with
       |none=>rw[g3] at hc;cases hc
       |some z=>
        obtain⟨dv,δ5⟩:=z;rw[g3] at hc;simp only[An] at hc;split at hc
        ·rename_i hz
         refine QT ⟨_,_,δ4,dv,δ5,R4.sta,g3,fun v H5 R5=> ?_⟩;have hD5:H5 D=some (.lst acc):=R5.frm _ _ hD4 fun z=>by
          obtain⟨j,e⟩:=z;have:=(R5.sta.old j D e).1;exact absurd (.inl (.inr rfl)) this
         have ln5:ix.length<=δ5.length:=by rw[<- R5.sta.len];exact ln3
         have S6:=R5.sta.turn (nl:=nl) (da _) (Z2 ix σ) hσ3 ln5;have hv:bU K (Nn (Bc ix B O H0 D (kps++acc.zip ah)) (Oc ix O)) H5 (Nn (Bc ix B O H0 D (kps++acc.zip ah)) (Oc ix O)) v dv:=by
          have hN: ∀a,Nn (Bc ix B O H0 D (kps++acc.zip ah)) (Oc ix O) a->av (Bc ix B O H0 D (kps++acc.zip ah)) O3 true a:=fun a h=>by
           rcases h with h|⟨j,h⟩
           ·exact .inl h
           ·refine .inr ⟨j,?_⟩
            have hj:j∈At ix.length:=R5.sta.par.1 j a h;rw[R5.sta.par.2 j hj];exact h
          exact R5.rep.mono hN hN
         have S7:=S6.withKp (kp:=kps++(acc++[v]).zip (ah++[dv])) fun p hp=>by
          rw[Mh au,<- Ay] at hp;rcases Bo.mp hp with z|z
          ·exact S6.kep p z
          ·rw[Ar.mp (show p∈[(v,dv)] from z)]
           exact hv
         refine⟨hD5,by rw[au,Ct];exact hz,ah++[dv],δ5.take ix.length,by rw[Bp];lia,by simp[au],?_,cO,fun z=> ?_,hc⟩
         ·exact S7.writeZ (.inl (.inr rfl)) hD5 hD
         ·intro b o e
          have hb:b≠D:=fun z=>by rw[z,hD] at e;cases e
          rw[b7 hb];obtain⟨z1,z2⟩:=(Ad _ _).mp z;exact(((bu z).trans sm).trans ((R4.pur z1).trans (R5.pur z2))) b o e
        ·cases hc
   ·have e : i = ds.length := by lia
    subst e;rw[Di] at hc;cases hc;refine .inl ⟨w.2,k D H1 ?_⟩;have fP:Fr (OA (Oc ix O)) H0 H1:=S1.frm;have hPO: ∀a,OA (Oc ix O) a->OA O a:=fun a q0=>by
     obtain⟨j,e⟩:=q0;unfold Oc at e;cases hi:ix[j]? with
     |none=>rw[hi] at e;cases e
     |some i=>rw[hi] at e;exact⟨i,e⟩
    have SL:=S0.unkeep.laid (o:= .lst acc) hD;have fL:Fr (OA (Oc ix O)) (bH H0 D (.lst acc)) H1:=fun b o e n=>by
     by_cases hb:b=D
     ·subst hb
      rw[cO] at e;cases e;exact hD1
     ·rw[b7 hb] at e
      exact fP b o e n
    refine⟨SL.call (YK) (fun i=> ?_) fL hPO,f0.trans (fP.mono hPO),fun z=> ?_,.lst hD1 (WQ au fun p hp=>(S1.kep p (Av _ hp)).mono WN WN),S0.unkeep.new hD,S0.fresh hD⟩
    ·by_cases de:i<δ1.length
     ·rcases XY (ix:=ix) (ss:=δf) (δ:=δ1) i de hlc.symm with⟨j,x,e1,e2,e3⟩|⟨e1,e2⟩
      ·have e4:(δf++Q3 nl)[j]? =some (.ow x):=by
        rw[Ai (Ae.mp e2).1];exact e2
       obtain⟨a,e5,_,w⟩:=S1.ow j x e4;refine .inr ⟨a,x,?_,e3,w.mono WN⟩;unfold Oc at e5;rw[e1] at e5;exact e5
      ·refine .inl ⟨e2,fun a ea ⟨j,ej⟩ => ?_⟩
       obtain⟨x,ex⟩:=S1.dom j a ej;unfold Oc at ej;cases hi:ix[j]? with
       |none=>rw[hi] at ej;cases ej
       |some i'=>
        rw[hi] at ej;have:i=i':=S0.inj i i' a ea ej;subst this;have hj:j<δf.length:=by rw[hlc];exact(Ae.mp hi).1
        rw[Ai hj] at ex;exact e1 j x hi ex
     ·refine .inl ⟨?_,fun a ea => ?_⟩
      ·rw[Br (by rw[YK];lia),Br (by lia)]
      ·obtain⟨x,ex⟩:=S0.dom i a ea
       exact absurd (Ae.mp ex).1 de
    ·simp only[Ad] at z
     exact(p0 z.1.1).trans (bu (by simp[z.1.2,z.2]))
theorem zDD{Q:Bool->Hp->Prop}(h:TB K ml true V5 σ H Q):tYes σ H Q:=by
 obtain⟨B,O,δ,k,δ',S,q,w⟩:=h;cases q;exact w H (D0.refl S)
theorem SG{Y:Cx}{t:VB}(h:PT Y c (TB K ml pt t)):PTs Y [c] (TB K ml pt t):=zB0 h
theorem WR{Y:Cx}:PTs Y [] (TB K ml true V5):=fun aa s σ H Q I hw=>zB1 aa s σ H Q I (zDD hw)
theorem CZ{Q:VK}{o:Bool}(h:TX K ml (if o then xO f else xV f) σ H Q):TN K ml pu f σ H Q:=by
 obtain⟨B,O,δ,s,δ',S,q,k⟩:=h;have e: ∃d,f δ=some (d,δ')/\s=if o then .ow d else .va d:=by
  cases o with
  |true=>
   have q:(f δ).map (fun p=>(Sl.ow p.1,p.2))=some (s,δ'):=q;cases h1:f δ with
   |none=>rw[h1] at q;cases q
   |some p=>rw[h1] at q;cases q;exact⟨p.1,rfl,rfl⟩
  |false=>
   have q:(f δ).map (fun p=>(Sl.va p.1,p.2))=some (s,δ'):=q;cases h1:f δ with
   |none=>rw[h1] at q;cases q
   |some p=>rw[h1] at q;cases q;exact⟨p.1,rfl,rfl⟩
 obtain⟨d,h1,hs⟩:=e;refine⟨B,O,δ,d,δ',S,h1,fun p H' R=> ?_⟩;cases o with
 |true=>
  cases hs;have w:=R.own;cases w with
  |lst q1 r=>exact k _ H' _ (R.sta.keepV (U4 r)) (.ol q1 r.length R.nz R.h0) R.frm
  |dct q1 r=>exact k _ H' _ (R.sta.keepV (U4 r)) (.od q1 (by simpa using r.length) R.nz R.h0) R.frm
 |false=>
  cases hs;exact k _ H' _ (R.sta.unadd.keepV (ps:=[(.ref p,d)]) fun z hz=>by
   rw[Ar.mp hz];exact(R.own.mono UD).rep R.nz) .va R.frm
theorem IZ{i:Nat}{x:VX}{te:TE}(hte: ∀σ H Q,TX K ml x σ H Q->te σ H Q)(hm:i∉ml){D:HI}(h:UJ K ml (aG i x) D σ H):CN te (JV i) D σ H:=by
 obtain⟨B,O,δ,o,S,q,k⟩:=h;unfold aG at q;cases h1:x δ with
 |none=>rw[h1] at q;cases q
 |some p=>
  obtain⟨s,δ1⟩:=p;rw[h1] at q;have q:(if i<δ1.length then some (Ou.nx (δ1.set i s)) else none)=some o:=q;split at q
  ·rename_i hl
   cases q;refine hte _ _ _ ⟨B,O,δ,s,δ1,S,h1,fun v H' B' S' h' f'=> ?_⟩;obtain⟨O'',S''⟩:=h'.bind S' hm hl;exact k _ _ _ S''
  ·cases q
end
abbrev cJ(P:Bk)(w:World)(K:Ap)(mg:Str->Option Value)(base:Heap)(x:Str)(k:Nat)(ps:List Str)(mF:List Nat)(F:bF)(f:Addr):Prop:=Def P w K mg base x k ps (spV K mF ps.length F) f
section
variable{X:Cx}{K:Ap}{ml:List Nat}{e a b c:Expr}{es:List Expr}{pa ta ia pb tb ib pc tc ic pu bt bi ps bs:Bool}{fa fb fc f:VF}{B B':Bs}{O:Nat->Option Addr}{H H0 H1 H':Hp}{σ:St}{δ δ':Ev}{v:V}{d:dF}{p:Addr}{pos:Pos}
theorem ZT{x:Str}(hg:Gl X x)(h: ∃u v,X.mg x=some u/\cB v u/\ ∀N H M,bU K N H M v d)(hd:(x==("__debug__":Str))=false:=by decide):PE X (.Name x pos) (TV K ml true true true (fC d)):=by
 obtain⟨u,v,h1,h2,h3⟩:=h;exact FL (zBA hg h1 h2 hd) h3
def zCI(K:Ap):R2:=fun x y H Q=> ∃a b xs ys,x= .ref a/\y= .ref b/\W9 K H a xs/\W9 K H b ys/\xs.length+ys.length<=sizeLine∧
 (xs=[]->Q (.ref b) H)/\(xs≠[]->ys=[]->Q (.ref a) H)/\(xs≠[]->ys≠[]-> ∀p,H p=none->Q (.ref p) (bH H p (.tup (xs++ys))))
theorem zBH:XN X (Gj .Add) (zCI X.K):=by
 intro aa s σ H x y v u Q I rx ry h;obtain⟨a,b,xs,ys,rfl,rfl,ha,hb,hz,q0,q1,q2⟩:=h;cases rx;cases ry;obtain⟨its,r1,p1,_⟩:=I.tuple ha;obtain⟨g9,r2,p2,_⟩:=I.tuple hb;by_cases hx:xs=[]
 ·subst hx
  have e0:its=[]:=r1.nil_iff.mpr rfl;subst e0;obtain⟨⟨cls,dd,data,sl⟩,ho,hc,n,hd⟩:=id p1;obtain⟨⟨lv,dd2,data2,sl2⟩,ho2,hc2,n2,hd2⟩:=id p2;simp only at hc hd hc2 hd2;subst hc hd hc2 hd2;exact Ma ⟨_,ho,rfl⟩ ⟨_,ho2,rfl⟩ Lk Nq Hz Hr (Hk _ _)
   (tuple_addW0 a b _ g9.toArray n n2 dd dd2 sl sl2 (by simp)) ⟨ho,ho2,⟨.ref b,H,I,rfl,q0 rfl⟩⟩
 ·refine HT.zC2 p1 p2 (fun z => hx (r1.nil_iff.mp z)) (fun z => ⟨.ref a,H,I,rfl,q1 hx (r2.nil_iff.mp z)⟩) (fun z => ?_) (by rw [<- r1.length,<- r2.length];exact hz)
  refine⟨.ref s.heap.objs.size,_,I.laid (t':=s.toks) (o:= .tup (xs++ys)) (fun b ob q=>Ac _ q) (Ag _) ?_,rfl,q2 hx (fun w=>z (r2.nil_iff.mpr w)) _ (I.hok.fresh (Ag _))⟩;exact⟨by rw[Cd];exact hz,_,r1.append r2,Kh _ _⟩
def zCH(K:Ap):R2:=fun x y H Q=> ∃l b xs zs,x= .ref l/\y= .ref b/\X9 K H l xs/\X9 K H b zs/\xs.length+zs.length<=sizeLine/\ ∀p,H p=none->Q (.ref p) (bH H p (.lst (xs++zs)))
theorem zBG:XN X (Gj .Add) (zCH X.K):=by
 intro aa s σ H x y v u Q I rx ry h;obtain⟨l,b,xs,zs,rfl,rfl,hH,hB,hz,q⟩:=h;cases rx;cases ry;obtain⟨its,r,p1,_⟩:=I.list hH;obtain⟨g9,r2,p2,_⟩:=I.list hB;obtain⟨⟨cls,dd,data,sl⟩,n,ho,hc,_,hd⟩:=id p1;obtain⟨⟨lv,dd2,data2,sl2⟩,n2,ho2,hc2,_,hd2⟩:=id p2;simp only at hc hd hc2 hd2;subst hc hd hc2 hd2;have ea:its.toArray++g9.toArray=(its++g9).toArray:=by simp
 have hl:=r.length;have hl2:=r2.length;refine Ma ⟨_,ho,rfl⟩ ⟨_,ho2,rfl⟩ noFill_list_add seq_list_add PySem.F.slot_list_add PySem.F.entry_list_add (PySem.F.args_list_add_2 _ _) (list_addW l b its.toArray g9.toArray n n2 dd dd2 sl sl2 (by rw[As,As,<- hl,<- hl2];exact hz)) ⟨ho,ho2,?_⟩;rw[ea];exact⟨.ref _,_,I.lnew (t':=s.toks) (r.append r2) (by rw[Cd];lia),rfl,q _ I.fresh⟩
def zCG(K:Ap):R2:=fun x y H Q=>((II (fun i j=> .int (i+j)) x y H Q∨zCI K x y H Q)∨zCH K x y H Q)∨ ∃i j,x= .str i/\y= .str j/\i.length+j.length<=sizeLine/\Q (.str (i++j)) H
theorem XI(h:X.K=K):XN X (Gj .Add) (zCG K):=by subst h;exact((zES.or zBH).or zBG).or IC
noncomputable def ZR:dF->dF->Option dF
 | .int i,.int j=>some (.int (i+j))
 | .tup ds,.tup es=>if ds.length+es.length<=16777216 then some (.tup (ds++es)) else none
 | .lst ds,.lst es=>if ds.length+es.length<=16777216 then some (.lst (ds++es)) else none
 | .str x,.str y=>if x.length+y.length<=16777216 then some (.str (x++y)) else none
 |_,_=>none
theorem bU.tupE{N M:Addr->Prop}{ds:List dF}(h:bU K N H M v (.tup ds)): ∃a xs,v= .ref a/\W9 K H a xs/\cR K N H xs ds:=by
 cases h with
 |tup q r=>exact⟨_,_,rfl,q,r⟩
theorem bU.lstE{N M:Addr->Prop}{ds:List dF}(h:bU K N H M v (.lst ds)): ∃a xs,v= .ref a/\X9 K H a xs/\cR K N H xs ds:=by
 cases h with
 |lst q n r=>exact⟨_,_,rfl,X9.of q,r⟩
 |fzl q r=>exact⟨_,_,rfl,q.sq,r⟩
theorem YT:OpC K (zCG K) ZR:=by
 intro H N M M' x y d e c Q hx hy h k;cases d with
 |int i=>
  cases e with
  |int j=>
   cases h;cases hx;cases hy;exact .inl (.inl (.inl ⟨_,_,rfl,rfl,k _ _ (bL.refl _) fun _ _=> .int _⟩))
  |_=>cases h
 |str i=>
  cases e with
  |str j=>
   simp only[ZR] at h;split at h
   ·cases h
    cases hx;cases hy;exact .inr ⟨_,_,rfl,rfl,by rw[Ct];assumption,k _ _ (bL.refl _) fun _ _=> .str _⟩
   ·cases h
  |_=>cases h
 |tup ds=>
  cases e with
  |tup es=>
   simp only[ZR] at h;split at h
   ·rename_i hz
    cases h;obtain⟨a,xs,rfl,q1,r1⟩:=hx.tupE;obtain⟨b,ys,rfl,q2,r2⟩:=hy.tupE;refine .inl (.inl (.inr ⟨a,b,xs,ys,rfl,rfl,q1,q2,by rw[r1.length,r2.length,Ct];exact hz,fun z=> ?_,fun z1 z2=> ?_,fun z1 z2 p hp=> ?_⟩))
    ·subst z
     have:ds=[]:=Ga.mp r1.length.symm;subst this;exact k _ _ (bL.refl _) fun M hM=> .tup q2 r2
    ·subst z2
     have:es=[]:=Ga.mp r2.length.symm;subst this;rw[Dn] at k;exact k _ _ (bL.refl _) fun M hM=> .tup q1 r1
    ·exact k _ _ (c6 hp) fun M hM=> .tup (W9.of cO) ((r1.append r2).same (c6 hp))
   ·cases h
  |_=>cases h
 |lst ds=>
  cases e with
  |lst es=>
   simp only[ZR] at h;split at h
   ·rename_i hz
    cases h;obtain⟨a,xs,rfl,q1,r1⟩:=hx.lstE;obtain⟨b,ys,rfl,q2,r2⟩:=hy.lstE;exact .inl (.inr ⟨a,b,xs,ys,rfl,rfl,q1,q2,by rw[r1.length,r2.length,Ct];exact hz,fun p hp=>k _ _ (c6 hp) fun M hM=> .lst cO (fun z=>by
     obtain⟨o,q⟩:=hM _ z;rw[hp] at q;cases q) ((r1.append r2).same (c6 hp))⟩)
   ·cases h
  |_=>cases h
 |_=>cases h
def BZ:Ap->R2:=fun _=>rI DQ fun i j=> .int (i*j)
theorem L1(h:X.K=K):XN X (Gj .Mult) (BZ K):=zEP
noncomputable abbrev PH:=oMul
theorem QC:OpC K (BZ K) PH:=by
 intro H N M M' x y d e c Q hx hy h k;exact zH1 H N N M M' x y d e c Q hx hy h fun v hv=>k v H (bL.refl _) fun M _=>hv _ _ _
noncomputable def XE:dF->Option a0
 | .int i=>some (.inl i)
 | .str x=>some (.inr x)
 |_=>none
theorem bU.key{N M:Addr->Prop}{k:a0}(h:bU K N H M v d)(e:XE d=some k):v=kV k:=by
 cases h<;>first
  |(cases e;rfl)
  |cases e
noncomputable def bQ(ks:List a0)(ds:List dF)(k:a0):Option dF:=match ks,ds with
 |k'::ks,d::ds=>if k'=k then some d else bQ ks ds k
 |_,_=>none
theorem S8{N:Addr->Prop}{k:a0}: ∀{kvs:List (a0×V)} {ds:List dF},cR K N H (kvs.map Eh) ds→
  (∃v d,UO kvs k=some v/\bQ (kvs.map Dh) ds k=some d/\bU K N H N v d)∨(UO kvs k=none/\bQ (kvs.map Dh) ds k=none)
 |[],_,.nil=> .inr ⟨rfl,rfl⟩
 | (k',v) :: kvs,_,.cons h t => by
  by_cases hk:k'=k
  ·refine .inl ⟨v,_,TU (p:=(k',v)) hk,?_,h⟩
   simp[bQ,hk]
  ·rcases S8 (k:=k) t with⟨v',d',h1,h2,h3⟩|⟨h1,h2⟩
   ·exact .inl ⟨v',d',(V0 (p:=(k',v)) hk).trans h1,by simpa[bQ,hk] using h2,h3⟩
   ·exact .inr ⟨(V0 (p:=(k',v)) hk).trans h1,by simpa[bQ,hk] using h2⟩
theorem zIC(hu:X.A.units+1<cLine):DT X (fun x y H Q=> ∃a v,x= .ref a/\RB H a y (some v)/\Q v H):=by
 intro value slice aa s σ H x y v u Q I rx ry h hs;obtain⟨a,w,rfl,g,q⟩:=h;cases rx;exact Rv (JR I g) PySem.F.slot_dict_getitem.lookup (EA hu I g ry fun w' s3 I3 rw'=>⟨w,H,I3,rw',q⟩) hs
def rIxA(K:Ap):R2:=fun x y H Q=>(rIx K x y H Q∨ ∃a v,x= .ref a/\RB H a y (some v)/\Q v H)∨ ∃a k D v,x= .ref a/\y= .str k/\KTab K a D/\Fl k D=some v/\Q v H
theorem kIxA(h:X.K=K)(hu:X.A.units+1<cLine):DT X (rIxA K):=by subst h;exact(zG1.or (zIC hu)).or zBV
noncomputable def cI:dF->dF->Option dF
 | .tup ds,.int i=>V4 ds i
 | .lst ds,.int i=>V4 ds i
 | .dct ks ds,e=>(XE e).bind (bQ ks ds)
 | .str z,.int i=>if z.length<=16777216 then(V4 z.cps.toList i).map fun c=> .str ⟨#[c]⟩ else none
 |_,_=>none
theorem RL{N:Addr->Prop}{k:Str}: ∀{D:List (Str×V)} {ds:List dF},cR K N H (D.map Eh) ds→
  (∃v d,Fl k D=some v/\bQ (D.map fun p=> .inr p.1) ds (.inr k)=some d/\bU K N H N v d)∨(Fl k D=none/\bQ (D.map fun p=> .inr p.1) ds (.inr k)=none)
 |[],_,.nil=> .inr ⟨rfl,rfl⟩
 | (k',v) :: D,_,.cons h t => by
  by_cases hk:k'=k
  ·subst hk
   exact .inl ⟨v,_,by simp[Fl],by simp[bQ],h⟩
  ·have hk2 : ¬ k = k' := fun z => hk z.symm
   rcases RL (k:=k) t with⟨v',d',h1,h2,h3⟩|⟨h1,h2⟩
   ·exact .inl ⟨v',d',by simpa[Fl,hk,hk2] using h1,by simpa[bQ,hk] using h2,h3⟩
   ·exact .inr ⟨by simpa[Fl,hk,hk2] using h1,by simpa[bQ,hk] using h2⟩
theorem J3{i:Int}: ∀{D:List (Str×V)} {ds:List dF},bQ (D.map fun p=> .inr p.1) ds (.inl i)=none
 |[],_=>by simp[bQ]
 |_::_,[]=>by simp[bQ]
 |p::D,d::ds=>by simpa[bQ] using J3 (D:=D) (ds:=ds)
theorem zIF:OpI K (rIxA K) cI:=by
 intro H N N' M M' x y d e c Q hx hy h k;have seq: ∀ds i,YZ d=some ds->e= .int i->V4 ds i=some c->rIxA K x y H Q:=fun ds i h1 h2 h3=>by
  subst h2;cases hy;obtain⟨a,xs,rfl,sq,r⟩:=hx.seq h1;obtain⟨v,hv,rv⟩:=zC7 r h3;rcases sq with sq|sq
  ·exact .inl (.inl (.inl ⟨a,xs,i,v,rfl,rfl,sq,hv,k v rv⟩))
  ·exact .inl (.inl (.inr (.inl ⟨a,xs,i,v,rfl,rfl,sq,hv,k v rv⟩)))
 cases d with
 |tup ds=>
  cases e with
  |int i=>exact seq ds i rfl rfl h
  |_=>cases h
 |lst ds=>
  cases e with
  |int i=>exact seq ds i rfl rfl h
  |_=>cases h
 |str z=>
  cases e with
  |int i=>
   simp only[cI] at h;split at h
   ·cases hc:V4 z.cps.toList i with
    |none=>rw[hc] at h;cases h
    |some ch=>
     rw[hc] at h;cases h;cases hx;cases hy;exact .inl (.inl (.inr (.inr ⟨z,i,ch,rfl,rfl,by rw[Ct];assumption,hc,k _ (.str _)⟩)))
   ·cases h
  |_=>cases h
 |dct ks ds=>
  simp only[cI] at h;cases hk:XE e with
  |none=>rw[hk] at h;cases h
  |some kk=>
   rw[hk] at h;have h:bQ ks ds kk=some c:=h;have ey:=hy.key hk;subst ey;cases hx with
   |dct q n r=>
    rcases S8 (k:=kk) r with⟨v,d',h1,h2,h3⟩|⟨h1,h2⟩
    ·rw[h] at h2
     cases h2;exact .inl (.inr ⟨_,v,rfl,h1▸RB.k q,k v h3⟩)
    ·rw[h] at h2;cases h2
   |ktb T r=>
    cases kk with
    |inl i=>rw[J3] at h;cases h
    |inr x=>
     rcases RL (k:=x) r with⟨v,d',h1,h2,h3⟩|⟨h1,h2⟩
     ·rw[h] at h2
      cases h2;exact .inr ⟨_,x,_,v,rfl,rfl,T,h1,k v h3⟩
     ·rw[h] at h2;cases h2
 |_=>cases h
noncomputable def X7(δ:Ev)(i:Nat):Option (List a0×List dF):=match δ[i]? with
 |some (.ow (.dct ks ds))=>some (ks,ds)
 |_=>none
theorem UZ{i:Nat}{ks:List a0}{ds:List dF}(h:X7 δ i=some (ks,ds)):δ[i]? =some (.ow (.dct ks ds)):=by
 unfold X7 at h;split at h
 ·cases h;assumption
 ·cases h
noncomputable def LW(i:Nat)(fk fx:VF):VF:=fun δ=>(X7 δ i).bind fun _=>(fk δ).bind fun p=>(fx p.2).bind fun q=>(XE p.1).bind fun k=>(X7 q.2 i).map fun z=>((bQ z.1 z.2 k).getD q.1,q.2)
theorem C3{i:Nat}{fk fx:VF}{am ag:Pos}(hu:X.A.units+1<cLine)(ho:PE X a (ME i))(hk:PE X b (TV K ml pa ta ia fk))(hx:PE X c (TV K ml pb true true fx))(m:M2 X a "get" am b c ag):
  PE X (.Call (.Attribute a "get" am) [b,c] [] ag) (TV K ml (pa && pb) true true (LW i fk fx)):=(BC hu ho hk hx m).imp fun σ H Q ⟨B,O,δ,d,δ3,S,q,k⟩=>by
 unfold LW at q;cases h0:X7 δ i with
 |none=>rw[h0] at q;cases q
 |some z0=>
  obtain⟨ks0,ds0⟩:=z0;rw[h0] at q;cases h1:fk δ with
  |none=>simp[h1] at q
  |some p1=>
   obtain⟨y,δ1⟩:=p1;simp only[An,h1] at q;cases h2:fx δ1 with
   |none=>simp[h2] at q
   |some p2=>
    obtain⟨z,δ2⟩:=p2;simp only[An,h2] at q;cases h3:XE y with
    |none=>simp[h3] at q
    |some kk=>
     simp only[An,h3] at q;cases h4:X7 δ2 i with
     |none=>simp[h4] at q
     |some zz=>
      obtain⟨ks,ds⟩:=zz;simp only[h4] at q;cases q;obtain⟨l,e1,e2,w⟩:=S.ow i _ (UZ h0);refine⟨.ref l,e2,l,rfl,?_,B,O,δ,y,δ1,S,h1,fun v1 H1 R1=>⟨B,O,δ1,z,_,R1.sta,h2,fun v2 H2 R2=> ?_⟩⟩
      ·generalize hw:dF.dct ks0 ds0=dd at w
       cases w with
       |lst _ _=>cases hw
       |dct q _=>exact .inl ⟨_,.inl q⟩
      ·have ey:=R1.rep.key h3
       subst ey;obtain⟨l',e3,_,w2⟩:=R2.sta.ow i _ (UZ h4);rw[e1] at e3;cases e3;have fin: ∀o,bU K (Nn B O) H2 (Nn B O) (o:V) ((bQ ks ds kk).getD z)->Q o H2:=fun o ho=>k o H2 ⟨R2.sta,R1.frm.trans R2.frm,fun z=>by
        obtain⟨z1,z2⟩:=(Ad _ _).mp z;exact(R1.pur z1).trans (R2.pur z2),ho⟩
       generalize hw:dF.dct ks ds=dd at w2;cases w2 with
       |lst _ _=>cases hw
       |dct q r=>
        cases hw;refine⟨_,RB.k q,fin _ ?_⟩;rcases S8 (k:=kk) r with⟨v,d',g1,g2,g3⟩|⟨g1,g2⟩
        ·rw[g1,g2];exact g3
        ·rw[g1,g2];exact R2.rep
noncomputable def YY:List a0->List dF->a0->dF->List a0×List dF
 |k'::ks,d::ds,k,v=>if k'=k then(k'::ks,v::ds) else let r:=YY ks ds k v;(k'::r.1,d::r.2)
 |_,_,k,v=>([k],[v])
noncomputable def KP(i:Nat)(fk fv:VF):VS:=fun δ=>(fv δ).bind fun p=>(X7 p.2 i).bind fun _=>(fk p.2).bind fun q=>(XE q.1).bind fun k=>(X7 q.2 i).bind fun z=>if z.1.length<16777216/\z.1.Nodup then some (.nx (q.2.set i (.ow (let r:=YY z.1 z.2 k p.1;.dct r.1 r.2)))) else none
theorem NE{N:Addr->Prop}{k:a0}{v:V}(h:bU K N H N v d): ∀{kvs:List (a0×V)} {ds:List dF},(kvs.map Dh).Nodup->cR K N H (kvs.map Eh) ds→
  (X8 kvs k v).map Dh=(YY (kvs.map Dh) ds k d).1/\cR K N H ((X8 kvs k v).map Eh) (YY (kvs.map Dh) ds k d).2
 |[],_,_,.nil=>⟨rfl,.cons h .nil⟩
 | (k',u) :: kvs,_,nd,.cons hu t => by
  obtain⟨n1,n2⟩:=Cv.mp nd;by_cases hk:k'=k
  ·subst hk
   have e:X8 ((k',u)::kvs) k' v=(k',v)::kvs:=by
    unfold X8;rw[if_pos (by simp)];simp only[Az,if_true];congr 1;refine(Ex fun p hp=> ?_).trans (List.map_id _);have:p.1≠k':=fun z=>n1 (Be.mpr ⟨p,hp,z⟩);simp[this]
   rw[e];exact⟨by simp[YY],by simpa[YY] using cR.cons h t⟩
  ·obtain⟨h1,h2⟩:=NE (k:=k) h n2 t
   have e:X8 ((k',u)::kvs) k v=(k',u)::X8 kvs k v:=by
    unfold X8;simp only[Ha,hk,decide_false,Rw];split
    ·simp[hk]
    ·rfl
   rw[e];exact⟨by simpa[YY,hk] using h1,by simpa[YY,hk] using cR.cons hu h2⟩
theorem L7{N:Addr->Prop}{l:Addr}{o:HO}{xs:List V}{ds:List dF}{kvs:List (a0×V)}(ho:H l=some (.dK kvs))(hN:N l)(h:cR K N H xs ds):cR K N (bH H l o) xs ds:=
 h.fr (P:=fun b=>b=l) (fun b u q n=>by
  by_cases hb:b=l
  ·subst hb
   rw[ho] at q;cases q;exact absurd (n rfl) fun z=>z
  ·rw[b7 hb]
   exact q) fun a z=>z▸hN
theorem HE{i:Nat}{fk fv:VF}{cb:Pos}(hu:X.A.units+1<cLine)(ho:PE X a (ME i))(hk:PE X b (TV K ml pa ta ia fk))(hv:PE X c (TV K ml pb true true fv))(hs:Gp c (some (.Subscript a b cb)) pos.line X.env=pure false):
  PS X (.Assign [.Subscript a b cb] c pos) (UJ K ml (KP i fk fv)):=(zB4 hu ho hk hv hs).imp fun D σ H ⟨B,O,δ,o,S,q,k⟩=>by
 unfold KP at q;cases h1:fv δ with
 |none=>rw[h1] at q;cases q
 |some p1=>
  obtain⟨z,δ1⟩:=p1;rw[h1] at q;have q:((X7 δ1 i).bind fun _=>(fk δ1).bind fun q=>(XE q.1).bind fun k=>(X7 q.2 i).bind fun z_1=>if z_1.1.length<16777216/\z_1.1.Nodup then some (Ou.nx (q.2.set i (.ow (let r:=YY z_1.1 z_1.2 k z;.dct r.1 r.2)))) else none)=some o:=q;cases h0:X7 δ1 i with
  |none=>rw[h0] at q;cases q
  |some z0=>
  obtain⟨ks0,ds0⟩:=z0;rw[h0] at q;cases h2:fk δ1 with
  |none=>simp[h2] at q
  |some p2=>
   obtain⟨y,δ2⟩:=p2;simp only[An,h2] at q;cases h3:XE y with
   |none=>simp[h3] at q
   |some kk=>
    simp only[An,h3] at q;cases h4:X7 δ2 i with
    |none=>simp[h4] at q
    |some zz=>
     obtain⟨ks,ds⟩:=zz;simp only[h4,An] at q;split at q
     ·rename_i hz
      cases q;refine⟨B,O,δ,z,δ1,S,h1,fun v1 H1 R1=> ?_⟩;obtain⟨l,e1,e2,_⟩:=R1.sta.ow i _ (UZ h0);refine⟨.ref l,e2,B,O,δ1,y,δ2,R1.sta,h2,fun v2 H2 R2=> ?_⟩;have ey:=R2.rep.key h3;subst ey;obtain⟨l',e3,_,w2⟩:=R2.sta.ow i _ (UZ h4);rw[e1] at e3;cases e3;generalize hw:dF.dct ks ds=dd at w2;cases w2 with
      |lst _ _=>cases hw
      |dct qd r=>
       cases hw;have rv:=R1.rep.fr R2.frm (fun a z=> .inr z) fun a z=> .inr z;obtain⟨g1,g2⟩:=NE (k:=kk) rv hz.2 r;refine⟨l,_,rfl,DPut.k qd (by rw[Ct];simpa using hz.1),k σ _ O (R2.sta.wrote e1 (fun z=>z) ?_)⟩;have w:P8 K (Nn B O) (bH H2 l (.dK (X8 _ kk v1))) l (.dct ((X8 _ kk v1).map Dh) _):= .dct cO (L7 qd (.inr ⟨i,e1⟩) g2);rw[g1] at w;exact w
     ·cases q
end
section
variable{X:Cx}{K:Ap}{ml:List Nat}{e a b c:Expr}{es:List Expr}{pa ta ia pb tb ib pc tc ic pu bt bi ps bs:Bool}{fa fb fc f:VF}{B B':Bs}{O:Nat->Option Addr}{H H0 H1 H':Hp}{σ:St}{δ δ':Ev}{v:V}{d:dF}{p:Addr}{pos:Pos}
def zGN(i j k:Nat)(ta:TA):TS:=fun D σ H=>ta σ H fun vs H1=> ∃v w u,vs=[v,w,u]/\D.nx (((σ.set i (some v)).set j (some w)).set k (some u)) H1
theorem zB3{i j k:Nat}{x y z:Str}{a b c:Expr}{ta:TA}{px py pz pt:Pos}{kt k2 pt2}(hc:X.calm=true)(hN:X.N.Nodup)(hi:X.N[i]? =some x)(hj:X.N[j]? =some y)(hk:X.N[k]? =some z)(hij:i≠j)(hik:i≠k)(hjk:j≠k)
  (hx:X.env.scope.names.lookup x=some .local) (hy:X.env.scope.names.lookup y=some .local) (hz:X.env.scope.names.lookup z=some .local) (ha:PA X [a,b,c] ta)
  (hw:Fy [.Tuple [.Name x px,.Name y py,.Name z pz] kt pt] (.Tuple [a,b,c] k2 pt2) X.env=pure (some [x,y,z]))
  (hs:Fx [.Tuple [.Name x px,.Name y py,.Name z pz] kt pt] (.Tuple [a,b,c] k2 pt2) pos.line X.env=pure false:=by rfl):
  PS X (.Assign [.Tuple [.Name x px,.Name y py,.Name z pz] kt pt] (.Tuple [a,b,c] k2 pt2) pos) (zGN i j k ta):=by
 intro aa s σ H D I h;rw[exec_Assign_arm];refine Aa (Ee ?_);rw[hs];refine Aa (Ah ?_);rw[if_neg (by decide)];refine Aa (Tuple_ (ZX (ha _ aa s σ H _ I h) fun us s1 ⟨vs,H1,I1,r1,q1⟩=> ?_));obtain⟨v,w,u,e1,q1⟩:=q1;subst e1;obtain⟨u1,u2,u3,rfl,rv,rw',ru⟩: ∃u1 u2 u3,us=[u1,u2,u3]/\cB v u1/\cB w u2/\cB u u3:=by
  cases r1 with
  |cons p q=>
   cases q with
   |cons p' q'=>
    cases q' with
    |cons p'' q''=>
     cases q'';exact⟨_,_,_,rfl,p,p',p''⟩
 refine Co ?_ (by show 3<=sizeLine;decide);have I2:cT X aa σ H1 {s1 with heap:=s1.heap.push {cls:= .type "tuple",data:= .seq [u1,u2,u3].toArray}}:=I1.kept (t':=s1.toks) fun b o e=>Ac _ e;rw[hw];refine Aa (Ah ?_);show wpAny (model X.prog X.w) X.A (do rule "assign.swapped-stores";let items<- Jf (.ref s1.heap.objs.size) 3 none;assignInOrder [fun v=>Iu X.env z v,fun v=>Iu X.env y v,fun v=>Iu X.env x v] items.reverse;pure Flow.next) _ _ _;refine Aa (Ge (Aa (Oi (items:= #[u1,u2,u3]) (I.ok.hd hc) (Kh s1.heap _) fun h' hx'=> ?_)));have I3:=I2.kept (h':=h') (t':=s1.toks) fun b o e=>hx' b o (Bd (Am e)) e;show wpAny _ _ (assignInOrder [fun v=>Iu X.env z v,fun v=>Iu X.env y v,fun v=>Iu X.env x v] [u3,u2,u1]>>=fun _=>pure Flow.next) _ _ _;refine Aa (Ed (Ij (Y0 I3 hN hk (.inl hz) ru (fun s2 I4=> ?_) (.inr hz))));refine Ed (Ij (Y0 I4 hN hj (.inl hy) rw' (fun s3 I5=> ?_) (.inr hy)));refine Ed (Ij (Y0 I5 hN hi (.inl hx) rv (fun s4 I6=>Ib (Ah ?_)) (.inr hx)));rw[El _ _ (Dk hij),El _ _ (Dk hik),El _ _ (Dk hjk)] at I6;exact⟨_,H1,I6,q1⟩
noncomputable def PV(i j k:Nat)(x y z:VX):VS:=fun δ=>(x δ).bind fun p=>(y p.2).bind fun q=>(z q.2).bind fun r=>if i<r.2.length/\j<r.2.length/\k<r.2.length then some (.nx (((r.2.set k r.1).set j q.1).set i p.1)) else none
theorem NI{i j k:Nat}{x y z:VX}{o:Ou}(h:PV i j k x y z δ=some o): ∃s1 δ1 s2 δ2 s3 δ3,x δ=some (s1,δ1)/\y δ1=some (s2,δ2)/\z δ2=some (s3,δ3)/\(i<δ3.length/\j<δ3.length/\k<δ3.length)/\o= .nx (((δ3.set k s3).set j s2).set i s1):=by
 unfold PV at h;cases h1:x δ with
 |none=>rw[h1] at h;cases h
 |some p=>
  rw[h1] at h;cases h2:y p.2 with
  |none=>simp[h2] at h
  |some q=>
   simp only[An,h2] at h;cases h3:z q.2 with
   |none=>simp[h3] at h
   |some r=>
    simp only[An,h3] at h;split at h
    ·cases h
     exact⟨p.1,p.2,q.1,q.2,r.1,r.2,rfl,h2,h3,by assumption,rfl⟩
    ·cases h
theorem zAK{i j k:Nat}{x y z:Str}{fx fy fz:VX}{px py pz pt:Pos}{kt k2 pt2}(hc:X.calm=true)(hN:X.N.Nodup)(hi:X.N[i]? =some x)(hj:X.N[j]? =some y)(hk:X.N[k]? =some z)(hij:i≠j)(hik:i≠k)(hjk:j≠k)
  (hx:X.env.scope.names.lookup x=some .local) (hy:X.env.scope.names.lookup y=some .local) (hz:X.env.scope.names.lookup z=some .local) (ha:PE X a (TX K ml fx)) (hb:PE X b (TX K ml fy)) (hcc:PE X c (TX K ml fz))
  (hw:Fy [.Tuple [.Name x px,.Name y py,.Name z pz] kt pt] (.Tuple [a,b,c] k2 pt2) X.env=pure (some [x,y,z])) (hmi:i∉ml:=by decide) (hmj:j∉ml:=by decide) (hmk:k∉ml:=by decide)
  (hs:Fx [.Tuple [.Name x px,.Name y py,.Name z pz] kt pt] (.Tuple [a,b,c] k2 pt2) pos.line X.env=pure false:=by rfl)
  (he:Aj (a::[b,c]) X.env=(false,eval a X.env)::Aj [b,c] X.env:=by rfl) (he2:Aj (b::[c]) X.env=(false,eval b X.env)::Aj [c] X.env:=by rfl) (he3:Aj (c::[]) X.env=(false,eval c X.env)::Aj [] X.env:=by rfl):
  PS X (.Assign [.Tuple [.Name x px,.Name y py,.Name z pz] kt pt] (.Tuple [a,b,c] k2 pt2) pos) (UJ K ml (PV i j k fx fy fz)):=(zB3 hc hN hi hj hk hij hik hjk hx hy hz (b5 ha (b5 hb (b5 hcc Z8 he3) he2) he) hw hs).imp fun D σ H ⟨B,O,δ,o,S,q,k⟩=>by
 obtain⟨s1,δ1,s2,δ2,s3,δ3,h1,h2,h3,hl,rfl⟩:=NI q;refine⟨B,O,δ,s1,δ1,S,h1,fun v H1 B1 S1 w1 f1=>⟨B1,O,δ1,s2,δ2,S1,h2,fun v2 H2 B2 S2 w2 f2=>⟨B2,O,δ2,s3,δ3,S2,h3,fun v3 H3 B3 S3 w3 f3=>⟨v,v2,v3,rfl,?_⟩⟩⟩⟩;obtain⟨O4,S4⟩:=w3.bind S3 hmk hl.2.2;obtain⟨O5,S5⟩:=(w2.fr f3).bind S4 hmj (by rw[Cc];exact hl.2.1);obtain⟨O6,S6⟩:=((w1.fr f2).fr f3).bind S5 hmi (by rw[Cc,Cc];exact hl.1);rw[El _ _ (Dk hij),El _ _ (Dk hik),El _ _ (Dk hjk)] at S6;exact k _ _ _ S6
theorem zAI{i j k:Nat}{x y z:Str}{fx fy fz:VX}{px py pz pt:Pos}{kt k2 pt2}(hK:X.K=K)(hc:X.calm=true)(hN:X.N.Nodup)(hi:X.N[i]? =some x)(hj:X.N[j]? =some y)(hk:X.N[k]? =some z)(hij:i≠j)(hik:i≠k)(hjk:j≠k)
  (hx:DU X.env.scope x) (hy:DU X.env.scope y) (hz:DU X.env.scope z) (ha:PE X a (TX K ml fx)) (hb:PE X b (TX K ml fy)) (hcc:PE X c (TX K ml fz))
  (hmi:i∉ml:=by decide) (hmj:j∉ml:=by decide) (hmk:k∉ml:=by decide)
  (hs:Fx [.Tuple [.Name x px,.Name y py,.Name z pz] kt pt] (.Tuple [a,b,c] k2 pt2) pos.line X.env=pure false:=by rfl)
  (hw:Fy [.Tuple [.Name x px,.Name y py,.Name z pz] kt pt] (.Tuple [a,b,c] k2 pt2) X.env=pure none:=by rfl)
  (hn:(assignEach [.Name x px,.Name y py,.Name z pz] X.env).length=3:=by rfl) (hst:(assignEach [.Name x px,.Name y py,.Name z pz] X.env).findIdx? (·.1)=none:=by rfl)
  (g1:(assignEach [.Name x px,.Name y py,.Name z pz] X.env).map (·.2)=Fn (.Name x px) X.env::(assignEach [.Name y py,.Name z pz] X.env).map (·.2):=by rfl)
  (g2:(assignEach [.Name y py,.Name z pz] X.env).map (·.2)=Fn (.Name y py) X.env::(assignEach [.Name z pz] X.env).map (·.2):=by rfl)
  (g3:(assignEach [.Name z pz] X.env).map (·.2)=Fn (.Name z pz) X.env::(assignEach [] X.env).map (·.2):=by rfl)
  (fx':X.fn x=true∨X.env.scope.names.lookup x=some .local:=by first|exact .inl rfl|exact .inr rfl|assumption) (fy':X.fn y=true∨X.env.scope.names.lookup y=some .local:=by first|exact .inl rfl|exact .inr rfl|assumption) (fz':X.fn z=true∨X.env.scope.names.lookup z=some .local:=by first|exact .inl rfl|exact .inr rfl|assumption)
  (h1:(assignEach [.Tuple [.Name x px,.Name y py,.Name z pz] kt pt] X.env).map (·.2)=[Fn (.Tuple [.Name x px,.Name y py,.Name z pz] kt pt) X.env]:=by rfl)
  (he:Aj (a::[b,c]) X.env=(false,eval a X.env)::Aj [b,c] X.env:=by rfl) (he2:Aj (b::[c]) X.env=(false,eval b X.env)::Aj [c] X.env:=by rfl) (he3:Aj (c::[]) X.env=(false,eval c X.env)::Aj [] X.env:=by rfl):
  PS X (.Assign [.Tuple [.Name x px,.Name y py,.Name z pz] kt pt] (.Tuple [a,b,c] k2 pt2) pos) (UJ K ml (PV i j k fx fy fz)):=
 (IH (BH (b5 ha (b5 hb (b5 hcc Z8 he3) he2) he)) (zCW (K := K) hK hc (TJ (QO hN hi hx fx') (TJ (QO hN hj hy fy') (TJ (QO hN hk hz fz') GQ g3) g2) g1) hn hst) hs hw h1).imp fun D σ H q0 => by
  obtain⟨B,O,δ,o,S,q,k⟩:=q0;obtain⟨s1,δ1,s2,δ2,s3,δ3,h1,h2,h3,hl,rfl⟩:=NI q;refine⟨B,O,δ,s1,δ1,S,h1,fun v H1 B1 S1 w1 f1=>⟨B1,O,δ1,s2,δ2,S1,h2,fun v2 H2 B2 S2 w2 f2=>⟨B2,O,δ2,s3,δ3,S2,h3,fun v3 H3 B3 S3 w3 f3=>⟨(by show 3<=sizeLine;decide),fun p hp=>⟨p,_,rfl,W9.of cO,rfl,v,_,rfl,v2,_,rfl,v3,_,rfl,rfl,?_⟩⟩⟩⟩⟩;have f4:Fr (OA O) H3 (bH H3 p (.tup [v,v2,v3])):=(c6 hp).fr;obtain⟨O4,S4⟩:=(w3.fr f4).bind (S3.same (c6 hp)) hmk hl.2.2;obtain⟨O5,S5⟩:=((w2.fr f3).fr f4).bind S4 hmj (by rw[Cc];exact hl.2.1);obtain⟨O6,S6⟩:=(((w1.fr f2).fr f3).fr f4).bind S5 hmi (by rw[Cc,Cc];exact hl.1);rw[El _ _ (Dk hij),El _ _ (Dk hik),El _ _ (Dk hjk)] at S6;exact k _ _ _ S6
end
section
variable{prog:Bk}{w:World}{A:Cz}{E:Value->Af->Prop}{s:Af}
theorem UL{it t:Addr}{i:Nat}{items:Array Value}{x:Value}{Q:Value->Af->Prop}(hit:s.heap.IsTupleIter it t i)(ht:s.heap.IsTuple t items)(hx:items[i]? =some x)
  (hQ: ∀h',h'.IsTupleIter it t (i+1)->Fd it s.heap h'->Q x {s with heap:=h'}):wpAny (model prog w) A (By (.ref it)) Q E s:=by
 obtain⟨oi,g1,c1,d1⟩:=id hit;obtain⟨ot,g2,_,nt,d2⟩:=ht;unfold By;refine Aa (Dj (name:=Bi "__next__") hit.typeIs Fc (Ds Fc hit.typeIs Jk ?_ (Ix _)));show wpAny _ _ (field (Bn it) 0>>=_) _ _ s;refine Aa (Du g1 d1 (x:= .ref t) rfl ?_);show wpAny _ _ (if(Bn t== .none)=true then _ else _) _ _ s;rw[if_neg (show¬(Bn t==Value.none)=true from Df)];show wpAny _ _ (field (Bn it) 1>>=_) _ _ s;refine Aa (Du g1 d1 (x:= .int i 0) rfl ?_);show wpAny _ _ (seqItems? (Bn t)>>=_) _ _ s;refine Aa (Es g2 d2 ?_);simp only[hx,Gz];refine Aa (wpAny_setField g1 d1 (by simp) (Ah ⟨x,rfl,Ah (hQ _ ⟨_,Heap.get?_update_self _ g1 (Obj.isFreed_of_fields (Nw d1 _)),(Obj.cls_mapFields ..).trans c1,?_⟩ (Nf ..))⟩));rw[Nw d1];simp[rawInt]
theorem S9{it t:Addr}{i:Nat}{items:Array Value}{Q:Value->Af->Prop}(hh:A.handled=none)(hit:s.heap.IsTupleIter it t i)(ht:s.heap.IsTuple t items)(hx:items[i]? =none)
  (hE: ∀h' e,Jj it s.heap h'->(∃o,h'.get? e=some o/\o.cls= .type "StopIteration")->E (.ref e) {s with heap:=h'}):wpAny (model prog w) A (By (.ref it)) Q E s:=by
 obtain⟨oi,g1,c1,d1⟩:=id hit;obtain⟨ot,g2,_,nt,d2⟩:=ht;unfold By;refine Aa (Dj (name:=Bi "__next__") hit.typeIs Fc (Ds Fc hit.typeIs Jk ?_ (Ix _)));show wpAny _ _ (field (Bn it) 0>>=_) _ _ s;refine Aa (Du g1 d1 (x:= .ref t) rfl ?_);show wpAny _ _ (if(Bn t== .none)=true then _ else _) _ _ s;rw[if_neg (show¬(Bn t==Value.none)=true from Df)];show wpAny _ _ (field (Bn it) 1>>=_) _ _ s;refine Aa (Du g1 d1 (x:= .int i 0) rfl ?_);show wpAny _ _ (seqItems? (Bn t)>>=_) _ _ s;refine Aa (Es g2 d2 ?_);simp only[hx,Gz];refine Aa (Ge (Aa (wpAny_setField g1 d1 (by simp) ?_)));show wpAny _ _ (newExc (Kg "StopIteration") []>>=_) _ _ _;refine Aa ?_;unfold newExc newTuple;refine Aa (Co ?_ (by size_fits));refine Aa (m:=firstArgMember _ _) (Hi (a:=Value.none) (by first|rfl|(unfold firstArgMember;rfl)) (Co ?_ (by size_fits)));unfold raiseNew;refine Aa (wpAny_handled ?_);first|rw[hh]|rw[show A.in1.handled=none from hh]
 refine Aa (Ah (wpAny_throw (hE _ _ (((Nf ..).extBut.push _).push _) ⟨_,Aq _ rfl,rfl⟩)))
end
theorem EC{prog:Bk}{w:World}{A:Cz}(hh:A.handled=none)(it t:Addr)(hne:t≠it)(items:Array Value):
  Draws prog w A it [it,t] items.size (fun i v=>items[i]? =some v) (fun i h=>h.IsTupleIter it t i/\h.IsTuple t items) where
 live:=fun _ _ st=>let ⟨o,ho,_⟩:=st.1;⟨o,ho⟩
 frame:=fun _ _ _ st hk=>⟨st.1.at fun o e=>hk it (by simp) o e,by obtain⟨o,ho,r⟩:=st.2;exact⟨o,hk t (by simp) o ho,r⟩⟩
 item:=fun i s Q E hi st hQ=>UL st.1 st.2 (x:=items[i]) (by simp[hi]) fun h' a b=>hQ _ h' s.toks (by simp[hi]) ⟨a,st.2.extBut b.extBut hne⟩ b
 done:=fun s Q E st hE=>S9 hh st.1 st.2 (by simp) hE
section
variable{X:Cx}{aa:List (Addr×Obj)}{σ:St}{H:Hp}{s:Af}{h':Heap}
theorem cT.turnedL{t':Nat}{fp:List Addr}(I:cT X aa σ H s)(k: ∀b o,b∉fp->s.heap.get? b=some o->h'.get? b=some o)(there: ∀b∈fp,∃o,h'.get? b=some o)(hf: ∀b∈fp,RE X aa H b):cT X aa σ H {s with heap:=h',toks:=t'}:=by
 have nit: ∀b u,H b=some u->b∉fp:=fun b u e z=>by rw[(hf b z).1] at e;cases e
 have hL:X.env.locals∉fp:=fun z=>(hf _ z).2.1 rfl;refine I.step (g':=s.gens) (d':=s.drawn) (ch:=fp) (fun b hb=> ?_) (fun b o _ _ hc e _=>k b o hc e) (fun b o _ _ hc e _=>⟨o.slots,k b o hc e⟩) (fun _ _ _ _ n=>n)
  (fun b o hc e=>⟨o,k b o hc e⟩) (fun _ _ e=>e) (fun _ _ _ e=>e) (fun b ps e=>⟨#[],by rw[e];simp⟩) (fun m hm=> ?_) (fun b u e=> ?_) I.bare
 ·obtain⟨_,f1,f2,f3,f4,f5⟩:=hf b hb
  exact⟨f3,f1,f4,f5⟩
 ·obtain⟨o,es,ep,ho,r⟩:=hm
  exact⟨o,es,ep,k _ o hL ho,r⟩
 ·refine (I.hok b u e).stay (fun c v hc q => k c v ?_ q) (fun _ q => q) fun _ _ q => q
  rcases hc with z|z
  ·rw[z];exact nit b u e
  ·exact nit c _ z
end
section
variable{X:Cx}{aa:List (Addr×Obj)}{σ:St}{H:Hp}{s:Af}{h':Heap}
theorem cT.turnedL'{t':Nat}{fp:List Addr}(I:cT X aa σ H s)(k: ∀b o,b∉fp->s.heap.get? b=some o->h'.get? b=some o)(hf: ∀b∈fp,RE X aa H b):cT X aa σ H {s with heap:=h',toks:=t'}:=by
 have nit: ∀b u,H b=some u->b∉fp:=fun b u e z=>by rw[(hf b z).1] at e;cases e
 have hL:X.env.locals∉fp:=fun z=>(hf _ z).2.1 rfl;refine I.step (g':=s.gens) (d':=s.drawn) (ch:=fp) (fun b hb=> ?_) (fun b o _ _ hc e _=>k b o hc e) (fun b o _ _ hc e _=>⟨o.slots,k b o hc e⟩) (fun _ _ _ _ n=>n)
  (fun b o hc e=>⟨o,k b o hc e⟩) (fun _ _ e=>e) (fun _ _ _ e=>e) (fun b ps e=>⟨#[],by rw[e];simp⟩) (fun m hm=> ?_) (fun b u e=> ?_) I.bare
 ·obtain⟨_,f1,f2,f3,f4,f5⟩:=hf b hb
  exact⟨f3,f1,f4,f5⟩
 ·obtain⟨o,es,ep,ho,r⟩:=hm
  exact⟨o,es,ep,k _ o hL ho,r⟩
 ·refine (I.hok b u e).stay (fun c v hc q => k c v ?_ q) (fun _ q => q) fun _ _ q => q
  rcases hc with z|z
  ·rw[z];exact nit b u e
  ·exact nit c _ z
end
def MM(K:Ap)(tup:Bool)(H:Hp)(a:Addr)(xs:List V):Prop:=if tup=true then W9 K H a xs else X9 K H a xs
def SI(tup:Bool)(h:Heap)(a:Addr)(items:Array Value):Prop:=if tup=true then h.IsTuple a items else h.IsList a items
def V2(tup:Bool)(h:Heap)(it a:Addr)(i:Nat):Prop:=if tup=true then h.IsTupleIter it a i else h.IsListIter it a i
theorem zA7{prog:Bk}{w:World}{A:Cz}(hh:A.handled=none)(tup:Bool)(it t:Addr)(hne:t≠it)(items:Array Value):
  Draws prog w A it [it,t] items.size (fun i v=>items[i]? =some v) (fun i h=>V2 tup h it t i/\SI tup h t items):=by
 cases tup with
 |true=>exact EC hh it t hne items
 |false=>exact Draws.list hh it t hne items
theorem SI.lt{tup:Bool}{h:Heap}{a:Addr}{items:Array Value}(s:SI tup h a items):a<h.objs.size:=by
 cases tup with
 |true=>obtain⟨o,e,_⟩:=s;exact Am e
 |false=>obtain⟨o,e,_⟩:=s;exact Am e
theorem cT.srcA{X:Cx}{aa:List (Addr×Obj)}{σ:St}{H:Hp}{s:Af}{a:Addr}{xs:List V}{tup:Bool}(I:cT X aa σ H s)(h:MM X.K tup H a xs): ∃its:List Value,b6 xs its/\SI tup s.heap a its.toArray/\xs.length<=sizeLine:=by
 cases tup with
 |true=>
  obtain⟨its,r,p,z⟩:=I.tuple h;exact⟨its,r,p,z⟩
 |false=>
  obtain⟨its,r,p,z⟩:=I.list h;exact⟨its,r,p.isList,z⟩
theorem cT.sq_inj{X:Cx}{aa:List (Addr×Obj)}{σ:St}{H:Hp}{s:Af}{a:Addr}{xs ys:List V}{tup:Bool}(I:cT X aa σ H s)(h:MM X.K tup H a xs)(h':MM X.K tup H a ys):xs=ys:=by
 cases tup with
 |true=>exact I.tuple_inj h h'
 |false=>exact I.list_inj h h'
theorem V2.at{tup:Bool}{h h':Heap}{it a:Addr}{i:Nat}(st:V2 tup h it a i)(k: ∀o,h.get? it=some o->h'.get? it=some o):V2 tup h' it a i:=by
 cases tup with
 |true=>exact Heap.IsTupleIter.at st k
 |false=>exact Heap.IsListIter.at st k
theorem V2.obj{tup:Bool}{h:Heap}{it a:Addr}{i:Nat}(st:V2 tup h it a i): ∃o,h.get? it=some o/\ ∀v,o.data≠ .cell v:=by
 cases tup with
 |true=>
  obtain⟨o,e,c,d⟩:=st;exact⟨o,e,fun v z=>by rw[d] at z;cases z⟩
 |false=>
  obtain⟨o,e,c,d⟩:=st;exact⟨o,e,fun v z=>by rw[d] at z;cases z⟩
def Ite(K:Ap)(tup:Bool)(a:Addr):It:=
 ⟨fun i H=> ∃xs x,MM K tup H a xs/\xs[i]? =some x,fun i H v H'=> ∃p x,(∀xs,MM K tup H a xs->xs[i]? =some x)/\H p=none/\H'=bH H p (.tup [.int i,x])/\v= .ref p,fun i H=> ∃xs,MM K tup H a xs/\xs.length=i⟩
theorem FG{P:Bk}{w:World}{K:Ap}{es:List Expr}{k:Nat}{pos:Pos}(tup:Bool)(a e it:Addr)(hei:e≠it)(hae:a≠e)(hai:a≠it):
  LG P w K (.Tuple es k pos) (Ite K tup a) [e,it] e (fun i h=>(∃old,IsEnum h e it i old)/\V2 tup h it a i) where
 mem:=by simp
 obj:=fun i h st b hb=>by
  obtain⟨⟨old,he⟩,hi⟩:=st;rcases Ak.mp hb with z|z
  ·subst z
   exact⟨_,he,fun v z=>by cases z⟩
  ·have:=Ar.mp z
   subst this;exact hi.obj
 keep:=fun i h h' st kk=>by
  obtain⟨⟨old,he⟩,hi⟩:=st;exact⟨⟨old,kk e (by simp) _ he⟩,hi.at fun o q=>kk it (by simp) o q⟩
 item:=by
  intro X hP hw hK hc i aa s σ H E I hf st hg;subst hP hw hK;obtain⟨⟨old,he⟩,hi⟩:=st;obtain⟨xs,x,hq,hx⟩:=hg;obtain⟨its,rv,src,hz⟩:=I.srcA hq;have hlt:i<its.toArray.size:=by
   have:=(Ae.mp hx).1;have:=rv.length;simp only[As];lia
  have hh:X.A.in1.handled=none:=I.ok.hd hc;refine wpAny_pyNext_enum_itemD (zA7 hh tup it a hai its.toArray) he ⟨hi,src⟩ hlt hei (by simp[hei,Dk hae]) fun u h1 tk hu ho st1 ht hsz hk=>⟨_,rfl,?_⟩;refine wpAny_letOwnedTupleGo_enum (s:={s with heap:=h1,toks:=tk+1}) ho fun h2 he2 sb2=> ?_;have sb2:Fd e h1 h2:=sb2;obtain⟨u',hu',ru⟩:=rv.get hx;have hu:its.toArray[i]? =some u:=hu;rw[List.getElem?_toArray,hu'] at hu;have hu:=Ce hu;subst hu;have kk: ∀b o,b∉[e,it]->s.heap.get? b=some o->h2.get? b=some o:=fun b o hb q=>by
   have h1b:b≠e:=fun z=>hb (by simp[z]);have h2b:b≠it:=fun z=>hb (by simp[z]);exact(sb2.2 b h1b).trans (hk b o h1b h2b q)
  have dq:h2.get? s.heap.objs.size=some {cls:= .type "tuple",data:= .seq #[.int i tk,u']}:=(sb2.2 _ (Gq (Am he))).trans ht;have az:H s.heap.objs.size=none:=I.hok.fresh (Ag _);have db: ∀b∈[e,it],b<s.heap.objs.size:=fun b hb=>by
   rcases Ak.mp hb with z|z
   ·rw[z];exact Am he
   ·rw[Ar.mp z]
    obtain⟨o,q,_⟩:=hi.obj;exact Am q
  have I0:cT X aa σ (bH H s.heap.objs.size (.tup [.int i,x])) {s with heap:=s.heap.push {cls:= .type "tuple",data:= .seq #[.int i tk,u']},toks:=tk}:=
   I.laid (fun b o q=>Ac _ q) (Ag _) ⟨by show 2<=sizeLine;decide,[.int i tk,u'],.cons ⟨tk,rfl⟩ (.cons ru .nil),Kh _ _⟩
  have I1:cT X aa σ (bH H s.heap.objs.size (.tup [.int i,x])) {s with heap:=h2,toks:=tk+1}:=by
   refine cT.turnedL (s:={s with heap:=s.heap.push {cls:= .type "tuple",data:= .seq #[.int i tk,u']},toks:=tk}) (h':=h2) (t':=tk+1) (fp:=[e,it]) I0 (fun b o hb q=> ?_) (fun b hb=> ?_) fun b hb=>⟨by rw[b7 (Bd (db b hb))];exact(hf b hb).1,(hf b hb).2⟩
   ·by_cases hbn:b=s.heap.objs.size
    ·subst hbn
     have q:(s.heap.push {cls:= .type "tuple",data:= .seq #[.int i tk,u']}).get? s.heap.objs.size=some o:=q;rw[Aq _ rfl] at q;cases q;exact dq
    ·exact kk b o hb ((Ie _ _ _ hbn).symm.trans q)
   ·rcases Ak.mp hb with z|z
    ·rw[z];exact⟨_,he2⟩
    ·rw[Ar.mp z]
     obtain⟨o,q,_⟩:=st1.1.obj;exact⟨o,(sb2.2 it (Dk hei)).trans q⟩
  refine⟨.ref s.heap.objs.size,bH H s.heap.objs.size (.tup [.int i,x]),?_,rfl,⟨_,x,fun ys hy=>by rw[I.sq_inj hy hq];exact hx,az,rfl,rfl⟩,⟨⟨_,by simpa using he2⟩,st1.1.at fun o q=>(sb2.2 it (Dk hei)).trans q⟩,fun b hb=> ?_⟩
  ·exact I1
  ·rw[b7 (Bd (db b hb))]
   exact(hf b hb).1
 done:=by
  intro X hP hw hK hc i aa s σ H E I hf st hg;subst hP hw hK;obtain⟨⟨old,he⟩,hi⟩:=st;obtain⟨xs,hq,hx⟩:=hg;obtain⟨its,rv,src,hz⟩:=I.srcA hq;have hh:X.A.in1.handled=none:=I.ok.hd hc;have hn:its.toArray.size=i:=by rw[As,<- rv.length];exact hx
  refine wpAny_pyNext_enum_endD (zA7 hh tup it a hai its.toArray) he ⟨by rw[hn];exact hi,src⟩ fun h1 xb=>⟨rfl,?_⟩;obtain⟨f0,f1,f2,f3,f4,f5⟩:=hf it (by simp);exact I.turned (t':=s.toks) (fun b o hb q=>xb b o hb q) f0 f1 f3 f4 f5
 self:=fun _ i _ _ _ st h=>Oq st.1.choose_spec h
theorem EE(a:Addr)(items:Array Value)(n:Nat)(dd:Option Addr)(sl:Array (Option Value)):
  Meets (La.«enumerate.__new__» ⟨[.type "enumerate",.ref a],[]⟩) (fun _ R s=>s.heap.get? a=some {cls:= .type "tuple",dict:=dd,data:= .seq items n,slots:=sl}∧
   R (.ok (.ret (.ref (s.heap.push {cls:= .type "tuple_iterator",data:= .fields #[.ref a,.int 0 0]}).objs.size)))
    {s with heap:=(s.heap.push {cls:= .type "tuple_iterator",data:= .fields #[.ref a,.int 0 0]}).push {cls:= .type "enumerate",data:= .fields #[.none,.bool false,.ref s.heap.objs.size,rawInt 0,.none,.none]}}):=by
 refine .of_wp fun prog w A R s h=> ?_;obtain⟨hp,g,d,tk,os⟩:=s;obtain⟨ha,h⟩:=h;have hs:=sub_enumerate;have hT:Heap.IsTuple (Qn ⟨hp,g,d,tk,os⟩) a items:=⟨_,ha,rfl,n,rfl⟩;wp_walk using Hl ha
 refine wpAny_stack_any fun st=>Ah ?_;split
 ·rename_i c _ _ _ _ _
  cases (c==Kg "enumerate")<;>(wp_walk using Hl ha,Ho hT;exact⟨_,rfl,h⟩)
 ·wp_walk using Hl ha,Ho hT
  exact⟨_,rfl,h⟩
theorem HP{prog:Bk}{w:World}{A:Cz}{E:Value->Af->Prop}{s:Af}{a:Addr}{items:Array Value}{tup:Bool}{Q:Value->Af->Prop}(hs:SI tup s.heap a items)
  (h: ∀h',IsEnum h' (s.heap.objs.size+1) s.heap.objs.size 0 .none->V2 tup h' s.heap.objs.size a 0->(∀b o,s.heap.get? b=some o->h'.get? b=some o)->Q (.ref (s.heap.objs.size+1)) {s with heap:=h'}):
  wpAny (model prog w) A (call (.type "enumerate") [.ref a]) Q E s:=by
 cases tup with
 |false=>exact call_enumerate_list hs fun h' a1 a2 _ a4=>h h' a1 a2 a4
 |true=>
  obtain⟨⟨cc,dd,dt,sl⟩,g1,hc,n,hd⟩:=hs;replace hc:cc= .type "tuple":=hc
  replace hd:dt= .seq items n:=hd
  subst hc hd;have hz:(s.heap.push {cls:= .type "tuple_iterator",data:= .fields #[.ref a,.int 0 0]}).objs.size=s.heap.objs.size+1:=Cy ..;refine callType_new F.called_enumerate (by decide) (F.typeCall_enumerate_1 _) (F.newCall_enumerate_1 _) (fun obj=>F.args_object_init_2 obj _) F.entry_enumerate_new (EE a items n dd sl) ⟨g1,?_⟩;show _/\_;rw[hz];have he:=Aq (s.heap.push {cls:= .type "tuple_iterator",data:= .fields #[.ref a,.int 0 0]}) (o:={cls:= .type "enumerate",data:= .fields #[.none,.bool false,.ref s.heap.objs.size,rawInt 0,.none,.none]}) rfl;rw[hz] at he;exact⟨⟨_,he,rfl⟩,h _ he ⟨_,Ac _ (Aq _ rfl),rfl,rfl⟩ fun b o x=>Ac _ (Ac _ x)⟩
theorem LI:Bh "enumerate"=some (.type "enumerate"):=by decide+kernel
theorem zG7:Bh "zip"=some (.type "zip"):=by decide+kernel
section
variable{X:Cx}{K:Ap}{ml:List Nat}{l:Expr}{pu:Bool}{f:VF}{p pos d9:Pos}{es:List Expr}{tk:Nat}{δ:Ev}
def iEnu(K:Ap)(tl:TE):TI:=fun σ H R=>tl σ H fun x H1=> ∃a tup,x= .ref a/\(∃xs,MM K tup H1 a xs)/\R (Ite K tup a) H1
theorem zB8{tl:TE}(hg:Gl X "enumerate") (hm:X.mg "enumerate"=none) (hl:PE X l tl) (he:Aj (l::[]) X.env=(false,eval l X.env)::Aj [] X.env:=by rfl):
  PI X (.Tuple es tk d9) (.Call (.Name "enumerate" p) [l] [] pos) (iEnu X.K tl):=by
 intro aa s σ H R I h;refine Gm (WM I hg hm LI ?_ (by decide) (by decide));refine Cp (ZX (b5 hl Z8 he pos aa s σ H (fun vs H1=>match vs with
  |[x]=> ∃a tup,x= .ref a/\(∃xs,MM X.K tup H1 a xs)/\R (Ite X.K tup a) H1
  |_=>False) I h) fun us s1 ⟨vs,H1,I1,r1,q1⟩=> ?_) he (by rfl)
 match vs,r1,q1 with
 |[x],r1,q1=>
  obtain⟨a,tup,rfl,⟨xs,hq⟩,hR⟩:=q1;obtain⟨u,rfl,ru⟩:=WB r1;cases ru;obtain⟨its,rv,src,_⟩:=I1.srcA hq;refine HP src fun h' he' hi' kp=> ?_;have I2:cT X aa σ H1 {s1 with heap:=h'}:=I1.kept (t':=s1.toks) kp;have hn: ∀b,s1.heap.objs.size<=b->H1 b=none:=fun b hb=>I1.hok.fresh hb;refine Oq he' ⟨s1.heap.objs.size+1,[s1.heap.objs.size+1,s1.heap.objs.size],_,Ite X.K tup a,H1,rfl,I2,FG tup a (s1.heap.objs.size+1) s1.heap.objs.size (Nat.succ_ne_self _) (fun z=> ?_) (fun z=> ?_),⟨⟨_,he'⟩,hi'⟩,fun b hb=> ?_,hR⟩
  ·have:=src.lt
   rw[z] at this;exact absurd this (Nat.not_lt_of_le (Ew _))
  ·have:=src.lt
   rw[z] at this;exact absurd this (Ca _)
  ·have hb':s1.heap.objs.size<=b:=by
    rcases Ak.mp hb with z|z
    ·rw[z];exact Ew _
    ·rw[Ar.mp z];exact Ag _
   exact I1.fpOk hb' (hn b hb')
theorem zFQ(h:X.K=K){tl:TE}(hg:Gl X "enumerate") (hm:X.mg "enumerate"=none) (hl:PE X l tl) (he:Aj (l::[]) X.env=(false,eval l X.env)::Aj [] X.env:=by rfl):
  PI X (.Tuple es tk d9) (.Call (.Name "enumerate" p) [l] [] pos) (iEnu K tl):=by subst h;exact zB8 hg hm hl he
noncomputable def YU:Nat->List dF->List dF
 |_,[]=>[]
 |i,d::ds=> .tup [.int i,d]::YU (i+1) ds
noncomputable def OV(f:VF):VI:=fun δ=>(f δ).bind fun p=>(YZ p.1).map fun ds=>(YU 0 ds,p.2)
theorem OL: ∀{ds:List dF} {n i:Nat} {d:dF},(YU n ds)[i]? =some d-> ∃x,ds[i]? =some x/\d= .tup [.int (n+i:Nat),x]
 |[],_,_,_,h=>by simp[YU] at h
 |x::ds,n,0,d,h=>by simp[YU] at h;exact⟨x,rfl,h.symm⟩
 |x::ds,n,i+1,d,h=>by
  have h:(YU (n+1) ds)[i]? =some d:=by simpa[YU] using h
  obtain⟨y,h1,h2⟩:=OL h;exact⟨y,by simpa using h1,by rw[h2,show n+1+i=n+(i+1) by lia]⟩
theorem OM: ∀(ds:List dF) (n:Nat),(YU n ds).length=ds.length
 |[],_=>rfl
 |_::ds,n=>congrArg (· +1) (OM ds (n+1))
theorem NT{a:Addr}{tup:Bool}{ds:List dF}:D2 K (Ite K tup a) [(.ref a,if tup=true then .tup ds else .lst ds)] (YU 0 ds):=by
 intro N H h;have r:=h _ (Ar.mpr rfl);have fin: ∀xs,MM K tup H a xs->cR K N H xs ds->(∀(i:Nat) (d:dF),(YU 0 ds)[i]? =some d->(Ite K tup a).go i H/\ ∀x H',(Ite K tup a).yld i H x H'->bL H H'/\bU K N H' N x d)/\(Ite K tup a).stop (YU 0 ds).length H:=fun xs sq r=>by
  refine⟨fun i d e=> ?_,xs,sq,by rw[r.length,OM]⟩;obtain⟨z,e1,rfl⟩:=OL e;obtain⟨x,e2,r1⟩:=r.get e1;refine⟨⟨xs,x,sq,e2⟩,fun y H' hy=> ?_⟩;obtain⟨p,x',e3,hp,rfl,rfl⟩:=hy;have:=e3 xs sq;rw[e2] at this;cases this;refine⟨c6 hp,.tup (W9.of cO) (.cons ?_ (.cons (r1.same (c6 hp)) .nil))⟩;rw[Fw];exact .int _
 cases tup with
 |true=>
  have r:bU K N H N (.ref a) (.tup ds):=r;cases r with
  |tup sq r=>exact fin _ sq r
 |false=>
  have r:bU K N H N (.ref a) (.lst ds):=r;cases r with
  |lst q n r=>exact fin _ (X9.of q) r
  |fzl q r=>exact fin _ q.sq r
theorem MH(hK:X.K=K)(hg:Gl X "enumerate") (hm:X.mg "enumerate"=none) (h:PE X l (TV K ml pu true true f)) (he:Aj (l::[]) X.env=(false,eval l X.env)::Aj [] X.env:=by rfl):
  PI X (.Tuple es tk d9) (.Call (.Name "enumerate" p) [l] [] pos) (FR K ml pu (OV f)):=(zFQ (K:=K) hK hg hm h he).imp fun σ H R ⟨B,O,δ,ds,δ',S,q,k⟩=>by
 unfold OV at q;cases h1:f δ with
 |none=>rw[h1] at q;cases q
 |some p=>
  obtain⟨x,δ1⟩:=p;rw[h1] at q;refine⟨B,O,δ,x,δ1,S,h1,fun v H1 R1=> ?_⟩;cases x with
  |lst ds'=>
   cases q;obtain⟨a,xs,rfl,sq,r⟩:=R1.rep.lstE;exact⟨a,false,rfl,⟨xs,sq⟩,k _ [(.ref a,.lst ds')] H1 (R1.sta.keepV fun p hp=>by rw[Ar.mp hp];exact R1.rep) R1.frm R1.pur (NT (tup:=false))⟩
  |tup ds'=>
   cases q;obtain⟨a,xs,rfl,sq,r⟩:=R1.rep.tupE;exact⟨a,true,rfl,⟨xs,sq⟩,k _ [(.ref a,.tup ds')] H1 (R1.sta.keepV fun p hp=>by rw[Ar.mp hp];exact R1.rep) R1.frm R1.pur (NT (tup:=true))⟩
  |_=>cases q
end
section
variable{prog:Bk}{w:World}{A:Cz}{E:Value->Af->Prop}{s:Af}
theorem V2.ext{tup:Bool}{h h':Heap}{it a b:Addr}{i:Nat}(x:V2 tup h it a i)(hs:Jj b h h')(hne:it≠b):V2 tup h' it a i:=x.at fun o e=>hs _ _ hne e
theorem SI.ext{tup:Bool}{h h':Heap}{a b:Addr}{xs:Array Value}(x:SI tup h a xs)(hs:Jj b h h')(hne:a≠b):SI tup h' a xs:=by
 cases tup with
 |true=>obtain⟨o,e,r⟩:=x;exact⟨o,hs _ _ hne e,r⟩
 |false=>obtain⟨o,e,r⟩:=x;exact⟨o,hs _ _ hne e,r⟩
theorem UC{tup:Bool}{it a:Addr}{i:Nat}{xs:Array Value}{x:Value}{Q:Value->Af->Prop}(hi:V2 tup s.heap it a i)(hs:SI tup s.heap a xs)(hx:xs[i]? =some x)
  (hQ: ∀h',V2 tup h' it a (i+1)->Fd it s.heap h'->Q x {s with heap:=h'}):wpAny (model prog w) A (By (.ref it)) Q E s:=by
 cases tup with
 |true=>exact UL hi hs hx hQ
 |false=>exact wpAny_nextOf_list_item hi hs hx hQ
theorem M9{tup:Bool}{it a:Addr}{i:Nat}{xs:Array Value}{Q:Value->Af->Prop}(hh:A.handled=none)(hi:V2 tup s.heap it a i)(hs:SI tup s.heap a xs)(hx:xs[i]? =none)
  (hE: ∀h' e,Jj it s.heap h'->(∃o,h'.get? e=some o/\o.cls= .type "StopIteration")->E (.ref e) {s with heap:=h'}):wpAny (model prog w) A (By (.ref it)) Q E s:=by
 cases tup with
 |true=>exact S9 hh hi hs hx hE
 |false=>exact wpAny_nextOf_list_end hh hi hs hx hE
structure ZSt(t1 t2:Bool)(h:Heap)(z p q i1 i2 a b:Addr)(k:Nat)(f0:Value):Prop where
 zip:IsZip h z p q f0
 its:IsPair h p (.ref i1) (.ref i2)
 res: ∃u v,IsPair h q u v
 one:V2 t1 h i1 a k
 two:V2 t2 h i2 b k
theorem FP{t1 t2:Bool}{z p q i1 i2 a b:Addr}{k:Nat}{xs ys:Array Value}{x y:Value}{Q:Value->Af->Prop}(D:Mp z p q i1 i2 a b)(S:ZSt t1 t2 s.heap z p q i1 i2 a b k .none)
  (s1:SI t1 s.heap a xs) (s2:SI t2 s.heap b ys) (hx:xs[k]? =some x) (hy:ys[k]? =some y)
  (hQ: ∀h',ZSt t1 t2 h' z p q i1 i2 a b (k+1) (rawInt s.heap.objs.size)->IsPair h' s.heap.objs.size x y->h'.objs.size=s.heap.objs.size+1→
   (∀c o,c≠z->c≠q->c≠i1->c≠i2->s.heap.get? c=some o->h'.get? c=some o)->Q (.ref s.heap.objs.size) {s with heap:=h'}):
  wpAny (model prog w) A (La.«zip.__next__» ⟨[.ref z],[]⟩) (fun fin s'=> ∃v,fin= .done (.ret v)/\Q v s') E s:=by
 obtain⟨gz,gi,⟨u,v,gr⟩,g1,g2⟩:=S;show wpAny _ _ (field (Bn z) 2>>=_) _ _ _;refine Aa (Du gz rfl (x:= .bool false) rfl ?_);show wpAny _ _ (field (Bn z) 3>>=_) _ _ _;refine Aa (Du gz rfl (x:= .ref p) rfl (Aa (Es gi rfl ?_)));show wpAny _ _ (Dv (Bn z)>>=_) _ _ _;refine Aa ?_
 (unfold Dv)
 refine Aa (Du gz rfl (x:= .none) rfl (Ah ?_));simp only[if_true];refine Aa (Ge (Aa (Du gz rfl (x:= .ref q) rfl (Aa (Fg gz (by simp) fun ha za ba=>Aa ?_)))));have za:IsZip ha z p q .ellipsis:=za;simp only[Qo,Po,Mz,Ji];refine Aa (Aa (Lb ?_));show wpAny _ _ (By (Bn i1)>>=_) _ _ _;refine Aa (UC (g1.ext ba.extBut D.i1z) (s1.ext ba.extBut D.l1z) hx fun hb n1 bb=>Ah ?_);have rb:IsPair hb q u v:=bb.extBut _ _ D.TOi1 (ba.extBut _ _ D.TOz gr);refine Aa (Es rb rfl (Aa (Iq rb fun hc rc bc=>Aa (Qp (Ah ?_)))));have rc:IsPair hc q x v:=rc;refine Aa (Aa (Lb ?_));show wpAny _ _ (By (Bn i2)>>=_) _ _ _;refine Aa (UC (((g2.ext ba.extBut D.i2z).ext bb.extBut D.i12.symm).ext bc.extBut D.TOi2.symm) (((s2.ext ba.extBut D.l2z).ext bb.extBut D.l2i1).ext bc.extBut D.l2TO) hy fun hd n2 bd=>Ah ?_);have rd:IsPair hd q x v:=bd.extBut _ _ D.TOi2 rc;refine Aa (Es rd rfl (Aa (Iq rd fun he re be=>Aa (Qp (Ah (Ah ?_))))));have re:IsPair he q x y:=re;refine Aa (Es re rfl (Aa (wpAny_newTuple ?_)));have size:he.objs.size=s.heap.objs.size:=by rw[be.1,bd.1,bc.1,bb.1,ba.1]
 have ze:IsZip he z p q .ellipsis:=be.extBut _ _ D.TOz.symm (bd.extBut _ _ D.i2z.symm (bc.extBut _ _ D.TOz.symm (bb.extBut _ _ D.i1z.symm za)));have ke: ∀c o,c≠z->c≠q->c≠i1->c≠i2->s.heap.get? c=some o->he.get? c=some o:=fun c o c1 c2 c3 c4 g=>be.extBut _ _ c2 (bd.extBut _ _ c4 (bc.extBut _ _ c2 (bb.extBut _ _ c3 (ba.extBut _ _ c1 g))));have e1:V2 t1 he i1 a (k+1):=((n1.ext bc.extBut D.TOi1.symm).ext bd.extBut D.i12).ext be.extBut D.TOi1.symm;have e2:V2 t2 he i2 b (k+1):=n2.ext be.extBut D.TOi2.symm;have ie:IsPair he p (.ref i1) (.ref i2):=ke _ _ D.TIz D.TITO D.TIi1 D.TIi2 gi;have zlt:z<he.objs.size:=Am ze;show wpAny _ _ (Hg (Bn z) (.ref he.objs.size)>>=_) _ _ _;refine Aa ?_
 (unfold Hg)
 have zf:IsZip (he.push {cls:= .type "tuple",data:= .seq #[x,y]}) z p q .ellipsis:=Ac _ ze;refine Aa (Fg zf (by simp) fun hg zg bg=> ?_);have zg:IsZip hg z p q (rawInt he.objs.size):=zg;refine Fg zg (by simp) fun hk zk bk=> ?_;have zk:IsZip hk z p q (rawInt he.objs.size):=zk;have up: ∀c o,c≠z->he.get? c=some o->hk.get? c=some o:=fun c o c1 g=>bk.extBut _ _ c1 (bg.extBut _ _ c1 (Ac _ g));have tk:IsPair hk he.objs.size x y:=bk.extBut _ _ (Gq zlt) (bg.extBut _ _ (Gq zlt) (Aq _ rfl));have szk:hk.objs.size=he.objs.size+1:=by rw[bk.1,bg.1,Cy]
 rw[size] at zk tk szk;refine Ah ⟨_,rfl,?_⟩;show Q (.ref he.objs.size) _;rw[size];exact hQ hk ⟨zk,up _ _ D.TIz ie,⟨x,y,up _ _ D.TOz re⟩,e1.at fun o g=>up _ o D.i1z g,e2.at fun o g=>up _ o D.i2z g⟩ tk szk fun c o c1 c2 c3 c4 g=>up c o c1 (ke c o c1 c2 c3 c4 g)
theorem DG{t1 t2:Bool}{z p q i1 i2 a b:Addr}{k:Nat}{xs ys:Array Value}{Q:Fin->Af->Prop}(hh:A.handled=none)(D:Mp z p q i1 i2 a b)(S:ZSt t1 t2 s.heap z p q i1 i2 a b k .none)
  (s1:SI t1 s.heap a xs) (s2:SI t2 s.heap b ys) (gd:xs[k]? =none∨ys[k]? =none)
  (hE: ∀h' e,(∀c o,c≠z->c≠q->c≠i1->c≠i2->s.heap.get? c=some o->h'.get? c=some o)->(∃o,h'.get? e=some o/\o.cls= .type "StopIteration")->E (.ref e) {s with heap:=h'}):
  wpAny (model prog w) A (La.«zip.__next__» ⟨[.ref z],[]⟩) Q E s:=by
 obtain⟨gz,gi,⟨u,v,gr⟩,g1,g2⟩:=S;show wpAny _ _ (field (Bn z) 2>>=_) _ _ _;refine Aa (Du gz rfl (x:= .bool false) rfl ?_);show wpAny _ _ (field (Bn z) 3>>=_) _ _ _;refine Aa (Du gz rfl (x:= .ref p) rfl (Aa (Es gi rfl ?_)));show wpAny _ _ (Dv (Bn z)>>=_) _ _ _;refine Aa ?_
 (unfold Dv)
 refine Aa (Du gz rfl (x:= .none) rfl (Ah ?_));simp only[if_true];refine Aa (Ge (Aa (Du gz rfl (x:= .ref q) rfl (Aa (Fg gz (by simp) fun ha za ba=>Aa ?_)))));have za:IsZip ha z p q .ellipsis:=za;simp only[Qo,Po,Mz,Ji];refine Aa (Aa (Lb ?_));show wpAny _ _ (By (Bn i1)>>=_) _ _ _;cases hx:xs[k]? with
 |none=>
  refine Aa (M9 hh (g1.ext ba.extBut D.i1z) (s1.ext ba.extBut D.l1z) hx fun hb e bb ⟨oe,ge,ce⟩=> ?_);have zb:IsZip hb z p q .ellipsis:=bb _ _ D.i1z.symm za;have ne:e≠z:=fun w=>by subst w;rw[zb] at ge;cases ge;simp at ce
  exact Fg zb (by simp) fun hc _ bc=>hE hc e (fun c o c1 _ c3 _ g=>bc.extBut _ _ c1 (bb _ _ c3 (ba.extBut _ _ c1 g))) ⟨oe,bc.extBut _ _ ne ge,ce⟩
 |some x=>
  have hy:ys[k]? =none:=gd.resolve_left fun w=>by rw[hx] at w;cases w
  refine Aa (UC (g1.ext ba.extBut D.i1z) (s1.ext ba.extBut D.l1z) hx fun hb n1 bb=>Ah ?_);have rb:IsPair hb q u v:=bb.extBut _ _ D.TOi1 (ba.extBut _ _ D.TOz gr);refine Aa (Es rb rfl (Aa (Iq rb fun hc rc bc=>Aa (Qp (Ah (Aa (Aa (Lb ?_))))))));show wpAny _ _ (By (Bn i2)>>=_) _ _ _;refine Aa (M9 hh (((g2.ext ba.extBut D.i2z).ext bb.extBut D.i12.symm).ext bc.extBut D.TOi2.symm) (((s2.ext ba.extBut D.l2z).ext bb.extBut D.l2i1).ext bc.extBut D.l2TO) hy fun hd e bd ⟨oe,ge,ce⟩=> ?_);have zd:IsZip hd z p q .ellipsis:=bd _ _ D.i2z.symm (bc.extBut _ _ D.TOz.symm (bb.extBut _ _ D.i1z.symm za));have ne:e≠z:=fun w=>by subst w;rw[zd] at ge;cases ge;simp at ce
  exact Fg zd (by simp) fun hf _ bf=>hE hf e (fun c o c1 c2 c3 c4 g=>bf.extBut _ _ c1 (bd _ _ c4 (bc.extBut _ _ c2 (bb.extBut _ _ c3 (ba.extBut _ _ c1 g))))) ⟨oe,bf.extBut _ _ ne ge,ce⟩
theorem HX{t1 t2:Bool}{z p q i1 i2 a b:Addr}{k:Nat}{xs ys:Array Value}{x y:Value}{Q:Option Value->Af->Prop}(D:Mp z p q i1 i2 a b)(S:ZSt t1 t2 s.heap z p q i1 i2 a b k .none)
  (s1:SI t1 s.heap a xs) (s2:SI t2 s.heap b ys) (hx:xs[k]? =some x) (hy:ys[k]? =some y)
  (hQ: ∀h',ZSt t1 t2 h' z p q i1 i2 a b (k+1) (rawInt s.heap.objs.size)->IsPair h' s.heap.objs.size x y->h'.objs.size=s.heap.objs.size+1→
   (∀c o,c≠z->c≠q->c≠i1->c≠i2->s.heap.get? c=some o->h'.get? c=some o)->Q (some (.ref s.heap.objs.size)) {s with heap:=h'}):wpAny (model prog w) A (pyNext (.ref z)) Q E s:=by
 have ty:s.TypeIs (.ref z) "zip":=⟨_,S.zip,rfl⟩
 (unfold pyNext)
 exact Aa (Nx (Dj (name:=Bi "__next__") ty Jl (Ds Jl ty Pp (FP D S s1 s2 hx hy fun h' a1 a2 a3 a4=>Ah (hQ h' a1 a2 a3 a4)) (Ot _))))
theorem EV{t1 t2:Bool}{z p q i1 i2 a b:Addr}{k:Nat}{xs ys:Array Value}{Q:Option Value->Af->Prop}(hh:A.handled=none)(D:Mp z p q i1 i2 a b)(S:ZSt t1 t2 s.heap z p q i1 i2 a b k .none)
  (s1:SI t1 s.heap a xs) (s2:SI t2 s.heap b ys) (gd:xs[k]? =none∨ys[k]? =none)
  (hQ: ∀h',(∀c o,c≠z->c≠q->c≠i1->c≠i2->s.heap.get? c=some o->h'.get? c=some o)->Q none {s with heap:=h'}):wpAny (model prog w) A (pyNext (.ref z)) Q E s:=by
 have ty:s.TypeIs (.ref z) "zip":=⟨_,S.zip,rfl⟩
 (unfold pyNext)
 refine Aa (Nx (Dj (name:=Bi "__next__") ty Jl (Ds Jl ty Pp (DG hh D S s1 s2 gd fun h' e kk ⟨o,ge,ce⟩=> ?_) (Ot _))));exact Aa (wpAny_isInstance (T:= "StopIteration") (b:=true) ⟨o,ge,ce⟩ isSubtype_stop (Ah (hQ _ kk)))
end
noncomputable def zID(tup:Bool):String:=if tup=true then "tuple_iterator" else "list_iterator"
noncomputable abbrev zO(tup:Bool)(a:Addr):Obj:={cls:= .type (zID tup),data:= .fields #[.ref a,.int 0 0]}
theorem zCX{prog:Bk}{w:World}{A:Cz}{E:Value->Af->Prop}{s:Af}{tup:Bool}{a:Addr}{xs:Array Value}{Q:Value->Af->Prop}(h:SI tup s.heap a xs)(hQ:Q (.ref s.heap.objs.size) {s with heap:=s.heap.push (zO tup a)}):
  wpAny (model prog w) A (Qg (.ref a)) Q E s:=by
 cases tup with
 |true=>exact Ho h hQ
 |false=>exact Fp h hQ
theorem SI.push{tup:Bool}{h:Heap}{a:Addr}{xs:Array Value}(x:SI tup h a xs)(o:Obj):SI tup (h.push o) a xs:=by
 cases tup with
 |true=>obtain⟨o,e,r⟩:=x;exact⟨o,Ac _ e,r⟩
 |false=>obtain⟨o,e,r⟩:=x;exact⟨o,Ac _ e,r⟩
theorem DH(t1 t2:Bool)(a b:Addr)(xs ys:Array Value):
  Meets (La.«zip.__new__» ⟨[.type "zip",.ref a,.ref b],[]⟩) (fun _ R s=>SI t1 s.heap a xs/\SI t2 s.heap b ys/\ ∀h1 h2 h3 h4 h5,h1=s.heap.push (zO t1 a)->h2=h1.push (zO t2 b)->h3=h2.push {cls:= .type "tuple",data:= .seq #[.ref s.heap.objs.size,.ref h1.objs.size]}→
   h4=h3.push {cls:= .type "tuple",data:= .seq #[.none,.none]}->h5=h4.push {cls:= .type "zip",data:= .fields #[.none,.bool false,.bool false,.ref h2.objs.size,.ref h3.objs.size]}->R (.ok (.ret (.ref h4.objs.size))) {s with heap:=h5}):=by
 refine .of_wp fun prog w A R s h=> ?_;obtain⟨hp,g,d,tk,os⟩:=s;obtain⟨g1,g2,h⟩:=h;have hs:=sub_zip;have k1:SI t1 (Qn ⟨hp,g,d,tk,os⟩) a xs:=g1;have k2:SI t2 (Qn ⟨hp.push (zO t1 a),g,d,tk,os⟩) b ys:=SI.push g2 _;wp_walk using zCX k1,zCX k2
 exact⟨_,rfl,h _ _ _ _ _ rfl rfl rfl rfl rfl⟩
theorem D8{prog:Bk}{w:World}{A:Cz}{E:Value->Af->Prop}{s:Af}{t1 t2:Bool}{a b:Addr}{xs ys:Array Value}{Q:Value->Af->Prop}(g1:SI t1 s.heap a xs)(g2:SI t2 s.heap b ys)
  (h: ∀h',ZSt t1 t2 h' (s.heap.objs.size+4) (s.heap.objs.size+2) (s.heap.objs.size+3) s.heap.objs.size (s.heap.objs.size+1) a b 0 .none->(∀c o,s.heap.get? c=some o->h'.get? c=some o)->Q (.ref (s.heap.objs.size+4)) {s with heap:=h'}):
  wpAny (model prog w) A (call (.type "zip") [.ref a,.ref b]) Q E s:=by
 refine callType_new F.called_zip (by decide) (F.typeCall_zip_2 _ _) (F.newCall_zip_2 _ _) (fun obj=>F.args_object_init_3 obj _ _) F.entry_zip_new (DH t1 t2 a b xs ys) ⟨g1,g2,?_⟩;rintro h1 h2 h3 h4 h5 e1 e2 e3 e4 e5;have z1:h1.objs.size=s.heap.objs.size+1:=by rw[e1,Cy]
 have z2:h2.objs.size=s.heap.objs.size+2:=by rw[e2,Cy,z1]
 have z3:h3.objs.size=s.heap.objs.size+3:=by rw[e3,Cy,z2]
 have z4:h4.objs.size=s.heap.objs.size+4:=by rw[e4,Cy,z3]
 have u4: ∀c o,h4.get? c=some o->h5.get? c=some o:=fun c o q=>by rw[e5];exact Ac _ q
 have u3: ∀c o,h3.get? c=some o->h5.get? c=some o:=fun c o q=>u4 c o (by rw[e4];exact Ac _ q);have u2: ∀c o,h2.get? c=some o->h5.get? c=some o:=fun c o q=>u3 c o (by rw[e3];exact Ac _ q);have u1: ∀c o,h1.get? c=some o->h5.get? c=some o:=fun c o q=>u2 c o (by rw[e2];exact Ac _ q);have u0: ∀c o,s.heap.get? c=some o->h5.get? c=some o:=fun c o q=>u1 c o (by rw[e1];exact Ac _ q);have o5:h5.get? h4.objs.size=some {cls:= .type "zip",data:= .fields #[.none,.bool false,.bool false,.ref h2.objs.size,.ref h3.objs.size]}:=by rw[e5];exact Aq _ rfl
 have o4:h5.get? h3.objs.size=some {cls:= .type "tuple",data:= .seq #[.none,.none]}:=u4 _ _ (by rw[e4];exact Aq _ rfl);have o3:h5.get? h2.objs.size=some {cls:= .type "tuple",data:= .seq #[.ref s.heap.objs.size,.ref h1.objs.size]}:=u3 _ _ (by rw[e3];exact Aq _ rfl);have o2:h5.get? h1.objs.size=some (zO t2 b):=u2 _ _ (by rw[e2];exact Aq _ rfl);have o1:h5.get? s.heap.objs.size=some (zO t1 a):=u1 _ _ (by rw[e1];exact Aq _ rfl);show _/\_;rw[z2,z3,z4] at o5;rw[z3] at o4;rw[z1,z2] at o3;rw[z1] at o2;rw[z4];refine⟨⟨_,o5,rfl⟩,h _ ⟨o5,o3,⟨_,_,o4⟩,?_,?_⟩ u0⟩
 ·cases t1 with
  |true=>exact⟨_,o1,rfl,rfl⟩
  |false=>exact⟨_,o1,rfl,rfl⟩
 ·cases t2 with
  |true=>exact⟨_,o2,rfl,rfl⟩
  |false=>exact⟨_,o2,rfl,rfl⟩
theorem zD4(n a b:Nat)(ha:a<n)(hb:b<n):Mp (n+4) (n+2) (n+3) n (n+1) a b:=by
 have f: ∀x y:Nat,x<y∨y<x->x≠y:=fun x y h=>by lia
 exact⟨f _ _ (by lia),f _ _ (by lia),f _ _ (by lia),f _ _ (by lia),f _ _ (by lia),f _ _ (by lia),f _ _ (by lia),f _ _ (by lia),f _ _ (by lia),f _ _ (by lia),f _ _ (by lia),f _ _ (by lia),f _ _ (by lia),f _ _ (by lia),f _ _ (by lia),f _ _ (by lia),f _ _ (by lia),f _ _ (by lia)⟩
noncomputable def Itz(K:Ap)(t1 t2:Bool)(a b:Addr):It:=
  ⟨fun i H => ∃ xs ys x y,MM K t1 H a xs /\ MM K t2 H b ys /\ xs[i]? = some x /\ ys[i]? = some y,
   fun i H v H'=> ∃p x y,(∀xs,MM K t1 H a xs->xs[i]? =some x)/\(∀ys,MM K t2 H b ys->ys[i]? =some y)/\H p=none/\H'=bH H p (.tup [x,y])/\v= .ref p,
   fun i H=> ∃xs ys,MM K t1 H a xs/\MM K t2 H b ys/\(xs.length<=i∨ys.length<=i)⟩
theorem CV{P:Bk}{w:World}{K:Ap}{es:List Expr}{k:Nat}{pos:Pos}(t1 t2:Bool)(z p q i1 i2 a b:Addr)(D:Mp z p q i1 i2 a b):
  LG P w K (.Tuple es k pos) (Itz K t1 t2 a b) [z,p,q,i1,i2] z (fun i h=>ZSt t1 t2 h z p q i1 i2 a b i .none) where
 mem:=by simp
 obj:=fun i h st c hc=>by
  simp only[Ak,Ba,or_false] at hc;rcases hc with rfl|rfl|rfl|rfl|rfl
  ·exact⟨_,st.zip,fun v e=>by cases e⟩
  ·exact⟨_,st.its,fun v e=>by cases e⟩
  ·obtain⟨u,v,g⟩:=st.res
   exact⟨_,g,fun v e=>by cases e⟩
  ·exact st.one.obj
  ·exact st.two.obj
 keep:=fun i h h' st kk=>by
  obtain⟨u,v,g⟩:=st.res;exact⟨kk z (by simp) _ st.zip,kk p (by simp) _ st.its,⟨u,v,kk q (by simp) _ g⟩,st.one.at fun o e=>kk i1 (by simp) o e,st.two.at fun o e=>kk i2 (by simp) o e⟩
 item:=by
  intro X hP hw hK hc i aa s σ H E I hf st hg;subst hP hw hK;obtain⟨xs,ys,x,y,hq1,hq2,hx,hy⟩:=hg;obtain⟨us,r1,g1,_⟩:=I.srcA hq1;obtain⟨vs,r2,g2,_⟩:=I.srcA hq2;obtain⟨u,hu,ru⟩:=r1.get hx;obtain⟨v,hv,rv⟩:=r2.get hy;refine HX D st g1 g2 (by simpa using hu) (by simpa using hv) fun h1 st1 hp hsz hk=>⟨_,rfl,?_⟩;refine wpAny_letOwnedTupleGo_zip (s:={s with heap:=h1}) st1.zip fun h2 z2 sb=> ?_;have sb:Fd z h1 h2:=sb;have lt: ∀c∈[z,p,q,i1,i2],c<s.heap.objs.size:=fun c hc=>by
   simp only[Ak,Ba,or_false] at hc;rcases hc with rfl|rfl|rfl|rfl|rfl
   ·exact Am st.zip
   ·exact Am st.its
   ·obtain⟨u,v,g⟩:=st.res
    exact Am g
   ·obtain⟨o,e,_⟩:=st.one.obj
    exact Am e
   ·obtain⟨o,e,_⟩:=st.two.obj
    exact Am e
  have up: ∀c o,c≠z->h1.get? c=some o->h2.get? c=some o:=fun c o hcz e=>(sb.2 c hcz).trans e;have st2:ZSt t1 t2 h2 z p q i1 i2 a b (i+1) .none:=by
   obtain⟨u',v',g⟩:=st1.res;exact⟨z2,up _ _ D.TIz st1.its,⟨u',v',up _ _ D.TOz g⟩,st1.one.at fun o e=>up _ o D.i1z e,st1.two.at fun o e=>up _ o D.i2z e⟩
  have dq:h2.get? s.heap.objs.size=some {cls:= .type "tuple",data:= .seq #[u,v]}:=up _ _ (Gq (lt z (by simp))) hp;have az:H s.heap.objs.size=none:=I.hok.fresh (Ag _);have I0:cT X aa σ (bH H s.heap.objs.size (.tup [x,y])) {s with heap:=s.heap.push {cls:= .type "tuple",data:= .seq #[u,v]},toks:=s.toks}:=
   I.laid (fun c o e=>Ac _ e) (Ag _) ⟨by show 2<=sizeLine;decide,[u,v],.cons ru (.cons rv .nil),Kh _ _⟩
  have I1:cT X aa σ (bH H s.heap.objs.size (.tup [x,y])) {s with heap:=h2,toks:=s.toks}:=by
   refine cT.turnedL (s:={s with heap:=s.heap.push {cls:= .type "tuple",data:= .seq #[u,v]},toks:=s.toks}) (h':=h2) (t':=s.toks) (fp:=[z,p,q,i1,i2]) I0 (fun c o hc e=> ?_) (fun c hc=> ?_) fun c hc=>⟨by rw[b7 (Bd (lt c hc))];exact(hf c hc).1,(hf c hc).2⟩
   ·by_cases hcn:c=s.heap.objs.size
    ·subst hcn
     have e:(s.heap.push {cls:= .type "tuple",data:= .seq #[u,v]}).get? s.heap.objs.size=some o:=e;rw[Aq _ rfl] at e;cases e;exact dq
    ·have e':=(Ie _ _ _ hcn).symm.trans e
     exact up c o (fun w=>hc (by simp[w])) (hk c o (fun w=>hc (by simp[w])) (fun w=>hc (by simp[w])) (fun w=>hc (by simp[w])) (fun w=>hc (by simp[w])) e')
   ·simp only[Ak,Ba,or_false] at hc
    rcases hc with rfl|rfl|rfl|rfl|rfl
    ·exact⟨_,st2.zip⟩
    ·exact⟨_,st2.its⟩
    ·obtain⟨u,v,g⟩:=st2.res
     exact⟨_,g⟩
    ·obtain⟨o,e,_⟩:=st2.one.obj
     exact⟨o,e⟩
    ·obtain⟨o,e,_⟩:=st2.two.obj
     exact⟨o,e⟩
  exact⟨.ref s.heap.objs.size,_,I1,rfl,⟨_,x,y,fun zs hz=>by rw[I.sq_inj hz hq1];exact hx,fun zs hz=>by rw[I.sq_inj hz hq2];exact hy,az,rfl,rfl⟩,st2,fun c hc=>by
   rw[b7 (Bd (lt c hc))];exact(hf c hc).1⟩
 done:=by
  intro X hP hw hK hc i aa s σ H E I hf st hg;subst hP hw hK;obtain⟨xs,ys,hq1,hq2,gd⟩:=hg;obtain⟨us,r1,g1,_⟩:=I.srcA hq1;obtain⟨vs,r2,g2,_⟩:=I.srcA hq2;have l1:=r1.length;have l2:=r2.length;have he:us.toArray[i]? =none∨vs.toArray[i]? =none:=by
   rcases gd with z|z
   ·exact .inl (by simp;lia)
   ·exact .inr (by simp;lia)
  refine EV (I.ok.hd hc) D st g1 g2 he fun h1 hk=>⟨rfl,?_⟩;have fq: ∀c∈[z,q,i1,i2],c∈[z,p,q,i1,i2]:=fun c hc=>by
   simp only[Ak,Ba,or_false] at hc⊢;rcases hc with w|w|w|w<;>simp[w]
  have I':=cT.turnedL' (s:=s) (h':=h1) (t':=s.toks) (fp:=[z,q,i1,i2]) I (fun c o hc e=>hk c o (fun w=>hc (by simp[w])) (fun w=>hc (by simp[w])) (fun w=>hc (by simp[w])) (fun w=>hc (by simp[w])) e) fun c hc=>hf c (fq c hc);exact I'
 self:=fun _ i _ _ _ st h=>wpAny_pyIter_zip st.zip h
section
variable{X:Cx}{K:Ap}{ml:List Nat}{l m:Expr}{pa ta ia pb tb ib:Bool}{f g:VF}{p pos d9:Pos}{es:List Expr}{tk:Nat}{δ:Ev}
def iZp(K:Ap)(tl tm:TE):TI:=fun σ H R=>tl σ H fun x H1=>tm σ H1 fun y H2=> ∃a b t1 t2,x= .ref a/\y= .ref b/\(∃xs,MM K t1 H2 a xs)/\(∃ys,MM K t2 H2 b ys)/\R (Itz K t1 t2 a b) H2
theorem zEB{tl tm:TE}(hg:Gl X "zip") (hm:X.mg "zip"=none) (hl:PE X l tl) (hr:PE X m tm) (he:Aj (l::[m]) X.env=(false,eval l X.env)::Aj [m] X.env:=by rfl) (he2:Aj (m::[]) X.env=(false,eval m X.env)::Aj [] X.env:=by rfl)
  (hpl:(Gc pos (Aj [m] X.env)).any (·.1)=false:=by rfl):PI X (.Tuple es tk d9) (.Call (.Name "zip" p) [l,m] [] pos) (iZp X.K tl tm):=by
 intro aa s σ H R I h;refine Gm (WM I hg hm zG7 ?_ (by decide) (by decide));refine Cp (ZX (b5 hl (b5 hr Z8 he2) he pos aa s σ H (fun vs H1=>match vs with
  |[x,y]=> ∃a b t1 t2,x= .ref a/\y= .ref b/\(∃xs,MM X.K t1 H1 a xs)/\(∃ys,MM X.K t2 H1 b ys)/\R (Itz X.K t1 t2 a b) H1
  |_=>False) I h) fun us s1 ⟨vs,H1,I1,r1,q1⟩=> ?_) he hpl
 match vs,r1,q1 with
 |[x,y],r1,q1=>
  obtain⟨a,b,t1,t2,rfl,rfl,⟨xs,hq1⟩,⟨ys,hq2⟩,hR⟩:=q1;obtain⟨u,v,rfl,ru,rv⟩:=HD r1;cases ru;cases rv;obtain⟨us,w1,g1,_⟩:=I1.srcA hq1;obtain⟨vs,w2,g2,_⟩:=I1.srcA hq2;refine D8 g1 g2 fun h' st kp=> ?_;have I2:cT X aa σ H1 {s1 with heap:=h'}:=I1.kept (t':=s1.toks) kp;have ha:=g1.lt;have hb:=g2.lt;have D:Mp (s1.heap.objs.size+4) (s1.heap.objs.size+2) (s1.heap.objs.size+3) s1.heap.objs.size (s1.heap.objs.size+1) a b:=by exact zD4 _ a b ha hb
  refine wpAny_pyIter_zip st.zip ⟨s1.heap.objs.size+4,[s1.heap.objs.size+4,s1.heap.objs.size+2,s1.heap.objs.size+3,s1.heap.objs.size,s1.heap.objs.size+1],_,Itz X.K t1 t2 a b,H1,rfl,I2,CV t1 t2 _ _ _ _ _ a b D,st,fun c hc=> ?_,hR⟩;have hc':s1.heap.objs.size<=c:=by
   simp only[Ak,Ba,or_false] at hc;rcases hc with w|w|w|w|w<;>rw[w]<;>first|exact Nat.le_add_right _ _|exact Ag _
  exact I1.fpOk hc' (I1.hok.fresh hc')
theorem zI8(h:X.K=K){tl tm:TE}(hg:Gl X "zip") (hm:X.mg "zip"=none) (hl:PE X l tl) (hr:PE X m tm) (he:Aj (l::[m]) X.env=(false,eval l X.env)::Aj [m] X.env:=by rfl) (he2:Aj (m::[]) X.env=(false,eval m X.env)::Aj [] X.env:=by rfl)
  (hpl:(Gc pos (Aj [m] X.env)).any (·.1)=false:=by rfl):PI X (.Tuple es tk d9) (.Call (.Name "zip" p) [l,m] [] pos) (iZp K tl tm):=by subst h;exact zEB hg hm hl hr he he2 hpl
noncomputable def UP:List dF->List dF->List dF
 |d::ds,e::es=> .tup [d,e]::UP ds es
 |_,_=>[]
noncomputable def AD(f g:VF):VI:=fun δ=>(f δ).bind fun p=>(g p.2).bind fun q=>(YZ p.1).bind fun ds=>(YZ q.1).map fun es=>(UP ds es,q.2)
theorem K9: ∀{ds es:List dF} {i:Nat} {d:dF},(UP ds es)[i]? =some d-> ∃x y,ds[i]? =some x/\es[i]? =some y/\d= .tup [x,y]
 |[],_,_,_,h=>by simp[UP] at h
 |_::_,[],_,_,h=>by simp[UP] at h
 |x::ds,y::es,0,d,h=>by simp[UP] at h;exact⟨x,y,rfl,rfl,h.symm⟩
 |x::ds,y::es,i+1,d,h=>by
  obtain⟨x',y',h1,h2,h3⟩:=K9 (ds:=ds) (es:=es) (i:=i) (d:=d) (by simpa[UP] using h);exact⟨x',y',by simpa using h1,by simpa using h2,h3⟩
theorem LA: ∀{ds es:List dF},ds.length<=(UP ds es).length∨es.length<=(UP ds es).length
 |[],_=> .inl (Cr _)
 |_::_,[]=> .inr (Cr _)
 |x::ds,y::es=>by
  rcases LA (ds:=ds) (es:=es) with h|h
  ·exact .inl (Pq h)
  ·exact .inr (Pq h)
def zIE:dF->Bool
 | .tup _=>true
 |_=>false
theorem bU.sqA{N M:Addr->Prop}{H:Hp}{v:V}{d:dF}{ds:List dF}(h:bU K N H M v d)(e:YZ d=some ds): ∃a tup xs,v= .ref a/\MM K tup H a xs/\cR K N H xs ds/\tup=zIE d:=by
  cases d<;>first
    | (cases e
       obtain⟨a,xs,h1,h2,h3⟩:=h.tupE;exact⟨a,true,xs,h1,h2,h3,rfl⟩)
    | (cases e
       obtain⟨a,xs,h1,h2,h3⟩:=h.lstE;exact⟨a,false,xs,h1,h2,h3,rfl⟩)
    |cases e
theorem C6(hK:X.K=K)(hg:Gl X "zip") (hm:X.mg "zip"=none) (h:PE X l (TV K ml pa true true f)) (h':PE X m (TV K ml pb true true g)) (he:Aj (l::[m]) X.env=(false,eval l X.env)::Aj [m] X.env:=by rfl) (he2:Aj (m::[]) X.env=(false,eval m X.env)::Aj [] X.env:=by rfl)
  (hpl:(Gc pos (Aj [m] X.env)).any (·.1)=false:=by rfl):PI X (.Tuple es tk d9) (.Call (.Name "zip" p) [l,m] [] pos) (FR K ml (pa && pb) (AD f g)):=(zI8 (K:=K) hK hg hm h h' he he2 hpl).imp fun σ H R ⟨B,O,δ,ds,δ2,S,q,k⟩=>by
 unfold AD at q;cases h1:f δ with
 |none=>rw[h1] at q;cases q
 |some p1=>
  obtain⟨x,δ1⟩:=p1;rw[h1] at q;cases h2:g δ1 with
  |none=>simp[h2] at q
  |some p2=>
   obtain⟨y,δ3⟩:=p2;simp only[An,h2] at q;cases h3:YZ x with
   |none=>rw[h3] at q;cases q
   |some xs=>
    rw[h3] at q;have q:(YZ y).map (fun es=>(UP xs es,δ3))=some (ds,δ2):=q;cases h4:YZ y with
    |none=>rw[h4] at q;cases q
    |some ys=>
     rw[h4] at q;cases q;refine⟨B,O,δ,x,δ1,S,h1,fun v1 H1 R1=>⟨B,O,δ1,y,_,R1.sta,h2,fun v2 H2 R2=> ?_⟩⟩;have r1:=R1.rep.fr R2.frm (fun a z=> .inr z) fun a z=> .inr z;obtain⟨a,t1,us,e1,q1,w1,et1⟩:=r1.sqA h3;obtain⟨b,t2,vs,e2,q2,w2,et2⟩:=R2.rep.sqA h4;refine⟨a,b,t1,t2,e1,e2,⟨us,q1⟩,⟨vs,q2⟩,k _ [(v1,x),(v2,y)] H2 (R2.sta.keepV fun z hz=> ?_) (R1.frm.trans R2.frm) (fun z=> ?_) ?_⟩
     ·simp only[Ak,Ba,or_false] at hz
      rcases hz with rfl|rfl
      ·exact r1
      ·exact R2.rep
     ·obtain⟨z1,z2⟩:=(Ad _ _).mp z
      exact(R1.pur z1).trans (R2.pur z2)
     ·intro N H h
      obtain⟨a',t1',us',f1,f2,f3,f4⟩:=(h (v1,x) (by simp)).sqA h3;obtain⟨b',t2',vs',g1,g2,g3,g4⟩:=(h (v2,y) (by simp)).sqA h4;have f1:v1= .ref a':=f1;have g1:v2= .ref b':=g1;rw[e1] at f1;rw[e2] at g1;cases f1;cases g1;have:t1'=t1:=f4.trans et1.symm;subst this;have:t2'=t2:=g4.trans et2.symm;subst this;refine⟨fun i d e=> ?_,us',vs',f2,g2,?_⟩
      ·obtain⟨dx,dy,hx,hy,rfl⟩:=K9 e
       obtain⟨ux,ex,rx⟩:=f3.get hx;obtain⟨uy,ey,ry⟩:=g3.get hy;refine⟨⟨us',vs',ux,uy,f2,g2,ex,ey⟩,fun z H' hz=> ?_⟩;obtain⟨pp,x',y',c1,c2,hp,rfl,rfl⟩:=hz;have d1:=c1 us' f2;have d2:=c2 vs' g2;rw[ex] at d1;rw[ey] at d2;cases d1;cases d2;exact⟨c6 hp,.tup (W9.of cO) (.cons (rx.same (c6 hp)) (.cons (ry.same (c6 hp)) .nil))⟩
      ·rcases LA (ds:=xs) (es:=ys) with w|w
       ·exact .inl (by rw[f3.length];exact w)
       ·exact .inr (by rw[g3.length];exact w)
end
end L2
namespace L2
open PySem PySem.Spec PyProof.Rows PySem.W
section
variable{prog:Bk}{w:World}{A:Cz}{E:Value->Af->Prop}{s:Af}
theorem IV{t:Addr}{items:Array Value}{Q:List Value->Af->Prop}(hh:A.handled=none)(ht:IsTup s.heap t items)(h1:1<=items.size)(hz:items.size<=16777216)
  (hQ: ∀(x:Value) (hb:Heap) (tk:Nat),items[0]? =some x->(∀b o,s.heap.get? b=some o->hb.get? b=some o)->Q [x,.ref hb.objs.size] {s with heap:=hb.push {cls:= .type "list",data:= .seq (items.toList.drop 1).toArray},toks:=tk}):
  wpAny (model prog w) A (Jf (.ref t) 2 (some 1)) Q E s:=by
 have hne:t≠s.heap.objs.size:=by obtain⟨o,e,_⟩:=ht;exact Bd (Am e)
 (unfold Jf)
 refine Aa ?_
 (unfold notIterableAtAll)
 refine Aa (Mf ht.typeIs slot_tuple_iter.lookup (Ah ?_));simp only[Ef,if_false];refine Aa (Ck (iter_tuple ht (Aa (Ck (draw_tuple hne 1 0 _ _ ⟨_,Aq _ rfl,rfl,rfl⟩ (ht.push _) (by lia) fun ha ia ba=> ?_)))));have ta:IsTup ha t items:=(ht.push _).extBut ba.extBut hne;have ia:ha.IsTupleIter s.heap.objs.size t 1:=ia;obtain⟨oi,gi,_⟩:=id ia;obtain⟨ot,gt,_⟩:=id ta;have hsz:ha.objs.size=s.heap.objs.size+1:=by rw[ba.1,Cy]
 have mq:((items.toList.drop 0).take 1).length=1:=by simp;lia
 rw[if_neg (show¬((items.toList.drop 0).take 1).length<1 by rw[mq];exact Ca _)];refine Aa (Ck (kun_collect (s:={s with heap:=ha}) (T:= "tuple_iterator") (.inr (.inr (.inr rfl))) (Walks.tuple (A:=A.in1) hh s.heap.objs.size t hne items) (fun j u st=>st.1.typeIs) (k:=1) h1 ⟨ia,ta⟩ (Am gi) (Am gt) (fun hb tk kb=> ?_) (by rw[Ct];exact hz)));have o8:(items.toList.drop 1).length=items.size - 1:=by simp
 show wpAny _ _ (if(items.toList.drop 1).length<2 - 1 - 1 then _ else _) _ _ _;rw[if_neg (Qq _)];show wpAny _ _ (Rx ((items.toList.drop 1).take ((items.toList.drop 1).length - (2 - 1 - 1)))>>=fun d=>pure ((items.toList.drop 0).take 1++[d]++(items.toList.drop 1).drop ((items.toList.drop 1).length - (2 - 1 - 1)))) _ _ _;have e1:(items.toList.drop 1).take ((items.toList.drop 1).length - (2 - 1 - 1))=items.toList.drop 1:=Cf (Ag _);have e2:(items.toList.drop 1).drop ((items.toList.drop 1).length - (2 - 1 - 1))=[]:=Di;rw[e1,e2];refine Aa (Co (Ah ?_) (by show _<=sizeLine;rw[Ct];simp;lia));obtain⟨x,hx⟩: ∃x,items[0]? =some x:=⟨items[0],by simp[show 0<items.size by lia]⟩;have e3:(items.toList.drop 0).take 1=[x]:=by
  rw[My];have:items.toList[0]? =some x:=by simpa using hx
  cases hl:items.toList with
  |nil=>rw[hl] at this;cases this
  |cons y r=>rw[hl] at this;cases this;rfl
 rw[e3];have keep: ∀b o,s.heap.get? b=some o->hb.get? b=some o:=fun b o e=>kb b o (Bd (Am e)) (ba.extBut b o (Bd (Am e)) (Ac _ e));exact hQ x hb tk hx keep
end
section
variable{X:Cx}{K:Ap}{ml:List Nat}{e a b c:Expr}{es:List Expr}{pa ta ia pb tb ib pc tc ic pu bt bi ps bs:Bool}{fa fb fc f:VF}{B B':Bs}{O:Nat->Option Addr}{H H0 H1 H':Hp}{σ:St}{δ δ':Ev}{v:V}{d:dF}{p:Addr}{pos:Pos}
def zIL(K:Ap)(i j:Nat):TG:=fun v σ H Q=> ∃a x xs,v= .ref a/\W9 K H a (x::xs)/\ ∀p,H p=none->Q ((σ.set i (some x)).set j (some (.ref p))) (bH H p (.lst xs))
theorem zB9{i j:Nat}{x y:Str}{px py ps tp:Pos}{k:Nat}(hc:X.calm=true)(hN:X.N.Nodup)(hi:X.N[i]? =some x)(hj:X.N[j]? =some y)(hx:DU X.env.scope x)(hy:DU X.env.scope y)
  (fx:X.fn x=true∨X.env.scope.names.lookup x=some .local) (fy:X.fn y=true∨X.env.scope.names.lookup y=some .local)
  (hl:(assignEach [.Name x px,.Starred (.Name y py) ps] X.env).map (·.2)=[Fn (.Name x px) X.env,Fn (.Name y py) X.env]) (hn:(assignEach [.Name x px,.Starred (.Name y py) ps] X.env).length=2) (hst:(assignEach [.Name x px,.Starred (.Name y py) ps] X.env).findIdx? (·.1)=some 1):
  PG X (.Tuple [.Name x px,.Starred (.Name y py) ps] k tp) (zIL X.K i j):=by
 intro aa s σ H v u Q I r hw;obtain⟨a,z,zs,e1,hq,q⟩:=hw;subst e1;cases r;obtain⟨its,rv,ht,hz⟩:=I.tuple hq;rw[assign_Tuple];refine Aa (Ee ?_)
 (unfold unpack)
 rw[hn,hst];have ae:=rv.length;rw[Bm] at ae;have hz':its.length<=16777216:=by rw[<- Ct,<- ae];exact hz
 refine Aa (Ck (IV (I.ok.hd hc) ht (by rw[As];lia) (by rw[As];exact hz') fun u hb tk hu kp=> ?_));rw[hl];cases rv with
 | @cons _ w _ ws rz rzs=>
  have hu:some w=some u:=by simpa using hu
  cases hu;have I1:cT X aa σ H {s with heap:=hb,toks:=tk}:=I.kept kp;have I2:=cT.lnew (s:={s with heap:=hb,toks:=tk}) (t':=tk) I1 rzs (by rw[Ct];simp only[Bm] at hz' ae;have:=rzs.length;lia);refine Ed (Gx (Y0 I2 hN hi hx rz (fun s3 I3=> ?_) fx));refine Ed (Gx (Y0 I3 hN hj hy (v:= .ref hb.objs.size) rfl (fun s4 I4=>Ib ⟨_,_,I4,q _ (I1.hok.fresh (Ag _))⟩) fy))
noncomputable def NJ(i j:Nat)(f:VF):VS:=fun δ=>(f δ).bind fun p=>match p.1 with
 | .tup (d::ds)=>some (.nx ((p.2.set i (.va d)).set j (.va (.lst ds))))
 |_=>none
theorem HH{i j:Nat}{x y:Str}{px py sp tp:Pos}{k:Nat}(hK:X.K=K)(hc:X.calm=true)(hN:X.N.Nodup)(hi:X.N[i]? =some x)(hj:X.N[j]? =some y)(hij:i≠j)(hx:DU X.env.scope x)(hy:DU X.env.scope y)(he:PE X e (TV K ml pu true true f))
  (hmi:i∉ml:=by decide) (hmj:j∉ml:=by decide)
  (fx:X.fn x=true∨X.env.scope.names.lookup x=some .local:=by first|exact .inl rfl|exact .inr rfl|assumption) (fy:X.fn y=true∨X.env.scope.names.lookup y=some .local:=by first|exact .inl rfl|exact .inr rfl|assumption)
  (hl:(assignEach [.Name x px,.Starred (.Name y py) sp] X.env).map (·.2)=[Fn (.Name x px) X.env,Fn (.Name y py) X.env]:=by rfl) (hn:(assignEach [.Name x px,.Starred (.Name y py) sp] X.env).length=2:=by rfl) (hst:(assignEach [.Name x px,.Starred (.Name y py) sp] X.env).findIdx? (·.1)=some 1:=by rfl)
  (hs:Fx [.Tuple [.Name x px,.Starred (.Name y py) sp] k tp] e pos.line X.env=pure false:=by rfl) (hw:Fy [.Tuple [.Name x px,.Starred (.Name y py) sp] k tp] e X.env=pure none:=by rfl)
  (h1:(assignEach [.Tuple [.Name x px,.Starred (.Name y py) sp] k tp] X.env).map (·.2)=[Fn (.Tuple [.Name x px,.Starred (.Name y py) sp] k tp) X.env]:=by rfl):
  PS X (.Assign [.Tuple [.Name x px,.Starred (.Name y py) sp] k tp] e pos) (UJ K ml (NJ i j f)):=by
 subst hK;refine(IH he (zB9 hc hN hi hj hx hy fx fy hl hn hst) hs hw h1).imp fun D σ H ⟨B,O,δ,o,S,q,k⟩=> ?_;unfold NJ at q;cases h1:f δ with
 |none=>rw[h1] at q;cases q
 |some p1=>
  obtain⟨z,δ1⟩:=p1;rw[h1] at q;refine⟨B,O,δ,z,δ1,S,h1,fun v H1 R=> ?_⟩;cases z with
  |tup ds=>
   cases ds with
   |nil=>cases q
   |cons d ds=>
    cases q;obtain⟨a,xs,rfl,sq,r⟩:=R.rep.tupE;cases r with
    | @cons v0 vs _ _ r1 r2=>
     refine⟨a,v0,vs,rfl,sq,fun p hp=> ?_⟩;have S1:=(R.sta.same (c6 (o:= .lst vs) hp)).setVa hmi (r1.same (c6 (o:= .lst vs) hp));have N1: ∀c,Nn B (fun j=>if j=i then none else O j) c->Nn B O c:=Q2 (o:=none);refine k _ _ _ (S1.setVa hmj (.lst cO (fun z=>R.sta.new hp (N1 _ z)) ((r2.same (c6 hp)).mono N1)))
  |_=>cases q
end
end L2
namespace L2
open PySem PySem.Spec PyProof.Rows
section
variable{X:Cx}{K:Ap}{ml:List Nat}{e a b c:Expr}{es:List Expr}{pa ta ia pb tb ib pc tc ic pu bt bi ps bs:Bool}{fa fb fc f:VF}{B B':Bs}{O:Nat->Option Addr}{H H0 H1 H':Hp}{σ:St}{δ δ':Ev}{v:V}{d:dF}{p:Addr}{pos:Pos}
def rInD(K:Ap)(neg:Bool):R2:=fun x y H Q=> ∃d e ds,Dp K H x d/\Dp K H y e/\(e= .list ds∨e= .tuple ds)/\Em d=true/\Em e=true/\Q (.bl (if neg then !ds.any (fun z=>Jb z d) else ds.any fun z=>Jb z d)) H
theorem TQ{d:Mx}(h:Em d=true):d.canLay0=true/\d.depth<=64:=by
 unfold Em at h;simp only[Ad,decide_eq_true_eq] at h;exact h
theorem A5(neg:Bool)(hu:X.A.units+64<cLine):XN X (Dg (if neg then .NotIn else .In)) (rInD X.K neg):=by
 intro aa s σ H x y v u Q I rx ry h;obtain⟨d,e,ds,hd,he,hk,sd,se,q⟩:=h;obtain⟨as,h1⟩:=I.reads hd rx;obtain⟨bs,h2⟩:=I.reads he ry;obtain⟨c1,d1⟩:=TQ sd;obtain⟨c2,d2⟩:=TQ se;have fin: ∀k,(k=if neg then !ds.any (fun z=>Jb z d) else ds.any fun z=>Jb z d)->EP X aa σ Q (.bool k) s:=fun k hk=>by subst hk;exact⟨.bl _,H,I,rfl,q⟩
 rcases hk with rfl|rfl
 ·have hc : Ig ds = true := by simpa [Gf] using c2
  have ny:Ey ds<=63:=by simp only[Il] at d2;lia
  have hm:X.A.units+1+min (Ey ds) d.depth<cLine:=by have:=Mi (Ey ds) d.depth;lia
  cases neg with
  |false=>exact SeqAt.in_list_reads h2 h1 hc c1 hm (fin _ rfl)
  |true=>exact SeqAt.notIn_list_reads h2 h1 hc c1 hm (fin _ rfl)
 ·have hc : Ig ds = true := by simpa [Gf] using c2
  have ny:Ey ds<=63:=by simp only[Il] at d2;lia
  have hm:X.A.units+1+min (Ey ds) d.depth<cLine:=by have:=Mi (Ey ds) d.depth;lia
  cases neg with
  |false=>exact SeqAt.in_tuple_reads h2 h1 hc c1 hm (fin _ rfl)
  |true=>exact SeqAt.notIn_tuple_reads h2 h1 hc c1 hm (fin _ rfl)
theorem W2(h:X.K=K)(hu:X.A.units+64<cLine):XN X (Dg .In) (rInD K false):=by subst h;exact A5 false hu
theorem QI(h:X.K=K)(hu:X.A.units+64<cLine):XN X (Dg .NotIn) (rInD K true):=by subst h;exact A5 true hu
def QZ(d:dF)(ds:List dF):Bool:=(DO ds).any fun z=>Jb z d.pd
noncomputable def bI(neg:Bool)(d e:dF):Option dF:=(YZ e).bind fun ds=>if(NB d && NB e)=true then some (.bl (if neg then !QZ d ds else QZ d ds)) else none
theorem ZY{neg:Bool}:QW K (rInD K neg) (bI neg):=by
 intro H N N' M M' x y d e c Q hx hy h k;unfold bI at h;cases hs:YZ e with
 |none=>rw[hs] at h;cases h
 |some ds=>
  rw[hs] at h;have h:(if(NB d && NB e)=true then some (dF.bl (if neg then !QZ d ds else QZ d ds)) else none)=some c:=h;split at h
  ·rename_i hh
   cases h;simp only[NB,Ad] at hh;refine⟨d.pd,e.pd,DO ds,hx.dp hh.1.1,hy.dp hh.2.1,?_,hh.1.2,hh.2.2,k _ fun _ _ _=> .bl _⟩;cases e<;>first
    |(cases hs;exact .inr rfl)
    |(cases hs;exact .inl rfl)
    |cases hs
  ·cases h
def zGQ(K:Ap)(td ty:TE):TE:=fun σ H Q=>td σ H fun x H1=> ∃a,x= .ref a/\((IsD H1 a/\ty σ H1 fun y H2=> ∃o,RB H2 a y o/\Q (o.getD .non) H2)∨ ∃D,KTab K a D/\ty σ H1 fun y H2=> ∃k,y= .str k/\Q ((Fl k D).getD .non) H2)
theorem BE{am ag:Pos}{td ty:TE}(hu:X.A.units+1<cLine)(ho:PE X a td)(he:PE X e ty)(m:M1 X a "get" am e ag):PE X (.Call (.Attribute a "get" am) [e] [] ag) (zGQ X.K td ty):=by
 intro aa s σ H Q I h;refine Om m.base m.few m.line Ky Dy Md (ZX (ho aa s σ H _ I h) fun u s1 ⟨x,H1,I1,rx,l,ex,q1⟩=> ?_);subst ex;obtain rfl:u=Bn l:=rx;rcases q1 with⟨hd,q1⟩|⟨D,T,q1⟩
 ·obtain⟨t1,t2,_⟩:=AH I1 hd
  refine⟨t1,t2,?_⟩;rw[m.trees];refine Gh rfl (Hc (Fe (ZX (he aa s1 σ H1 _ I1 q1) fun iv s2 ⟨y,H2,I2,ry,ov,g,q2⟩=>Gy ?_)));exact zG5 hu I2 g ry fun w' s3 I3 rw'=>⟨_,H2,I3,rw',q2⟩
 ·obtain⟨mx,o,o9,ep,hk,hex,cy,_⟩:=id T
  refine⟨⟨o,I1.kIn _ _ hk,hex.1⟩,fun b q=> ?_,?_⟩
  ·cases q
   exact⟨o,I1.kIn _ _ hk,hex.2.1⟩
  rw[m.trees];refine Gh rfl (Hc (Fe (ZX (he aa s1 σ H1 _ I1 q1) fun iv s2 ⟨y,H2,I2,ry,k,ey,q2⟩=>Gy ?_)));subst ey;obtain⟨t,rfl⟩:=ry;have hT:s2.TypeIs (.ref l) "dict":=⟨o,I2.kIn _ _ hk,hex.1⟩;refine Ds Dy hT Fa ?_ (Hu _ _);show wpAny _ _ (dictGet l (.str k t)>>=_) _ _ s2;refine Aa (J0 I2.kIn T (fun d' v' ha hv=>Ah ⟨v',rfl,?_⟩) fun hn=> ?_)
  ·rw[ha] at q2
   exact⟨d',H2,I2.tok _,hv,q2⟩
  ·rw[hn] at q2
   show wpAny _ _ (Ng l (.str k t)>>=_) _ _ _;unfold Ng;rw[if_neg (by rw[mx];exact Df)];exact Aa (Ah (Ah ⟨.none,rfl,.non,H2,I2.tok _,rfl,q2⟩))
noncomputable def zCR:dF->dF->Option dF
 | .dct ks ds,.str x=>some ((bQ ks ds (.inr x)).getD .non)
 |_,_=>none
theorem zAL{am ag:Pos}(hK:X.K=K)(hu:X.A.units+1<cLine)(ha:PE X a (TV K ml pa ta ia fa))(hb:PE X b (TV K ml pb tb ib fb))(m:M1 X a "get" am b ag) (hs:(pb || (ta && ia))=true:=by rfl):
  PE X (.Call (.Attribute a "get" am) [b] [] ag) (TV K ml (pa && pb) ia ia (f2 zCR fa fb)):=by
 subst hK;refine(BE hu ha hb m).imp fun σ H Q ⟨B,O,δ,d,δ2,S,q,k⟩=> ?_;obtain⟨x,δ1,y,h1,h2,h3⟩:=RO q;refine⟨B,O,δ,x,δ1,S,h1,fun v1 H1 R1=> ?_⟩;have fin: ∀v2 H2 (R2:Res X.K ml B O H1 σ pb tb ib H2 δ2 v2 y) o,bU X.K (av B O ia) H2 (av B O ia) o d->Q o H2:=fun v2 H2 R2 o ho=>k o H2 ⟨R2.sta,R1.frm.trans R2.frm,fun z=>by
  obtain⟨z1,z2⟩:=(Ad _ _).mp z;exact(R1.pur z1).trans (R2.pur z2),ho.mono (fun _ z=>z) zD1⟩
 cases x with
 |dct ks ds=>
  cases y with
  |str z=>
   cases h3;generalize hx:dF.dct ks ds=dd at R1;have r1:=R1.rep;cases r1 with
   | @dct _ l kvs ds' qd n r=>
    cases hx;refine⟨l,rfl,.inl ⟨.inl ⟨_,.inl qd⟩,B,O,δ1,_,δ2,R1.sta,h2,fun v2 H2 R2=> ?_⟩⟩;have r2:=R2.rep;cases r2;have h4:H2 l=some (.dK kvs)/\cR X.K (av B O ia) H2 (kvs.map Eh) ds:=by
     cases pb with
     |true=>exact⟨R2.pur rfl _ _ qd,r.same (R2.pur rfl)⟩
     |false=>
      have hs:(ta && ia)=true:=by simpa using hs
      obtain⟨z1,z2⟩:=(Ad _ _).mp hs;subst z1 z2;exact⟨R2.frm _ _ qd fun w=>absurd (.inr w) n,r.fr R2.frm fun a z=> .inr z⟩
    refine⟨_,RB.k (k:= .inr z) h4.1,fin _ _ R2 _ ?_⟩;rcases S8 (k:= .inr z) h4.2 with⟨v,d',g1,g2,g3⟩|⟨g1,g2⟩
    ·rw[g1,g2];exact g3
    ·rw[g1,g2];exact .non
   | @ktb _ l D ds' T r=>
    cases hx;refine⟨l,rfl,.inr ⟨D,T,B,O,δ1,_,δ2,R1.sta,h2,fun v2 H2 R2=> ?_⟩⟩;have r2:=R2.rep;cases r2;refine⟨z,rfl,fin _ _ R2 _ ?_⟩;have r':cR X.K (av B O ia) H2 (D.map Eh) ds:=by
     cases pb with
     |true=>exact r.same (R2.pur rfl)
     |false=>
      have hs:(ta && ia)=true:=by simpa using hs
      obtain⟨z1,z2⟩:=(Ad _ _).mp hs;subst z1 z2;exact r.fr R2.frm fun a z=> .inr z
    rcases RL (k:=z) r' with⟨v,d',g1,g2,g3⟩|⟨g1,g2⟩
    ·rw[g1,g2];exact g3
    ·rw[g1,g2];exact .non
   |_=>cases hx
  |_=>cases h3
 |_=>cases h3
end
theorem zGE:Bh "all"=some (.builtin "all"):=by decide+kernel
theorem zGD:Bh "any"=some (.builtin "any"):=by decide+kernel
theorem zC3:Bh "dict"=some (.type "dict"):=by decide+kernel
section
variable{X:Cx}{K:Ap}{ml:List Nat}{e a b c:Expr}{es:List Expr}{pa ta ia pb tb ib pc tc ic pu bt bi ps bs:Bool}{fa fb fc f:VF}{B B':Bs}{O:Nat->Option Addr}{H H0 H1 H':Hp}{σ:St}{δ δ':Ev}{v:V}{d:dF}{p:Addr}{pos:Pos}
theorem zC4{ks:List Bool}{us:List Value}(r:b6 (ks.map V.bl) us){i:Nat}{u:Value}(h:us[i]? =some u): ∃k,ks[i]? =some k/\u= .bool k:=by
 have hl:=r.length;rw[Bz] at hl;have hi:i<us.length:=(Ae.mp h).1;have e:(ks.map V.bl)[i]? =some (.bl ks[i]):=by simp[hl▸hi]
 obtain⟨w,h1,h2⟩:=r.get e;rw[h] at h1;cases h1;exact⟨ks[i],by simp[hl▸hi],h2⟩
theorem E4{ks:List Bool}:(At ks.length).all (fun i=>(ks[i]?).getD true)=ks.all id:=by
 induction ks with
 |nil=>rfl
 |cons k ks ih=>
  rw[Bm,Fb,Ry,Sh,Ry,<- ih];rfl
theorem E5{ks:List Bool}:(At ks.length).any (fun i=>(ks[i]?).getD true)=ks.any id:=by
 induction ks with
 |nil=>rfl
 |cons k ks ih=>
  rw[Bm,Fb,Ha,Si,Ha,<- ih];rfl
def PR(K:Ap)(g:List Bool->Bool):RC:=fun xs H Q=> ∃p ks,xs=[.ref p]/\X9 K H p (ks.map V.bl)/\Q (.bl (g ks)) H
theorem K1{prog:Bk}{w:World}{A:Cz}{ks:List Bool}{us:List Value}(r:b6 (ks.map V.bl) us):TruthOf prog w A (fun i v=>us.toArray[i]? =some v) fun i=>(ks[i]?).getD true:=by
 intro i v s Q E hP hQ;obtain⟨k,h1,rfl⟩:=zC4 r (by simpa using hP);have hQ:Q ((ks[i]?).getD true) s:=hQ;rw[h1] at hQ;exact Dx hQ
theorem D3(hc:X.calm=true):aY X (.builtin "all") (PR X.K fun ks=>ks.all id):=by
 intro aa s σ H xs us Q I r h;obtain⟨l,ks,rfl,hq,q⟩:=h;obtain⟨u,rfl,rx⟩:=WB r;cases rx;obtain⟨its,rv,pl,hz⟩:=I.list hq;have hl:=pl.isList;have hne:l≠s.heap.objs.size:=by obtain⟨o,g,_⟩:=hl;exact Bd (Am g)
 have ae:=rv.length;rw[Bz] at ae;refine call_all_walk (Fp hl ⟨_,_,_,_,_,_,_,rfl,Rs (show X.A.in1.handled=none from I.ok.hd hc) s.heap.objs.size l hne its.toArray,⟨⟨_,Aq _ rfl,rfl,rfl⟩,?_⟩,K1 rv,fun h' tk hk=> ?_⟩)
 ·obtain⟨o,g,r⟩:=hl
  exact⟨o,Ac _ g,r⟩
 ·rw[As,<- ae,E4]
  exact⟨.bl _,H,I.kept (t':=tk) fun b o g=>hk b o (by simp;exact Bd (Am g)) (Ac _ g),rfl,q⟩
theorem D4(hc:X.calm=true):aY X (.builtin "any") (PR X.K fun ks=>ks.any id):=by
 intro aa s σ H xs us Q I r h;obtain⟨l,ks,rfl,hq,q⟩:=h;obtain⟨u,rfl,rx⟩:=WB r;cases rx;obtain⟨its,rv,pl,hz⟩:=I.list hq;have hl:=pl.isList;have hne:l≠s.heap.objs.size:=by obtain⟨o,g,_⟩:=hl;exact Bd (Am g)
 have ae:=rv.length;rw[Bz] at ae;refine call_any_walk (Fp hl ⟨_,_,_,_,_,_,_,rfl,Rs (show X.A.in1.handled=none from I.ok.hd hc) s.heap.objs.size l hne its.toArray,⟨⟨_,Aq _ rfl,rfl,rfl⟩,?_⟩,K1 rv,fun h' tk hk=> ?_⟩)
 ·obtain⟨o,g,r⟩:=hl
  exact⟨o,Ac _ g,r⟩
 ·rw[As,<- ae,E5]
  exact⟨.bl _,H,I.kept (t':=tk) fun b o g=>hk b o (by simp;exact Bd (Am g)) (Ac _ g),rfl,q⟩
theorem kAll(h:X.K=K)(hc:X.calm=true):aY X (.builtin "all") (PR K fun ks=>ks.all id):=by subst h;exact D3 hc
theorem kAny(h:X.K=K)(hc:X.calm=true):aY X (.builtin "any") (PR K fun ks=>ks.any id):=by subst h;exact D4 hc
noncomputable def SN:List dF->Option (List Bool)
 |[]=>some []
 | .bl k::ds=>(SN ds).map fun ks=>k::ks
 |_=>none
theorem FU{N:Addr->Prop}: ∀{xs:List V} {ds:List dF} {ks:List Bool},cR K N H xs ds->SN ds=some ks->xs=ks.map V.bl
 |_,_,_,.nil,h=>by cases h;rfl
 | _,_,_,@cR.cons _ _ _ v vs d ds h t,e => by
  cases d with
  |bl k=>
   cases h;have e:(SN ds).map (fun ks=>k::ks)=some _:=e;cases h2:SN ds with
   |none=>rw[h2] at e;cases e
   |some ks'=>
    rw[h2] at e;cases e;rw[FU t h2,Az]
  |_=>cases e
noncomputable def GF(g:List Bool->Bool):dF->Option dF
 | .lst ds=>(SN ds).map fun ks=> .bl (g ks)
 |_=>none
noncomputable abbrev oAll:=GF fun ks=>ks.all id
noncomputable abbrev oAny:=GF fun ks=>ks.any id
theorem CB{g:List Bool->Bool}:DS K (PR K g) (GF g):=by
 intro H N M x d c Q hx h k;cases d with
 |lst ds=>
  have h:(SN ds).map (fun ks=>dF.bl (g ks))=some c:=h;cases h1:SN ds with
  |none=>rw[h1] at h;cases h
  |some ks=>
   rw[h1] at h;cases h;obtain⟨a,xs,rfl,sq,r⟩:=hx.lstE;have:=FU r h1;subst this;exact⟨a,ks,rfl,sq,k _ fun _ _ _=> .bl _⟩
 |_=>cases h
theorem zH8:DS K (PR K fun ks=>ks.all id) oAll:=CB
theorem zH7:DS K (PR K fun ks=>ks.any id) oAny:=CB
noncomputable def YQ:List dF->Option (List Int)
 |[]=>some []
 | .int i::ds=>(YQ ds).map fun ns=>i::ns
 |_=>none
theorem SY{N:Addr->Prop}: ∀{xs:List V} {ds:List dF} {ns:List Int},cR K N H xs ds->YQ ds=some ns->xs=ns.map V.int
 |_,_,_,.nil,h=>by cases h;rfl
 | _,_,_,@cR.cons _ _ _ v vs d ds h t,e => by
  cases d with
  |int k=>
   cases h;have e:(YQ ds).map (fun ks=>k::ks)=some _:=e;cases h2:YQ ds with
   |none=>rw[h2] at e;cases e
   |some ks'=>
    rw[h2] at e;cases e;rw[SY t h2,Az]
  |_=>cases e
theorem PU{N:Addr->Prop}: ∀ns:List Int,cR K N H (ns.map V.int) (ns.map dF.int)
 |[]=> .nil
 |i::ns=> .cons (.int i) (PU ns)
def W7(ns:List Int):List Int:=ns.mergeSort (fun a b=>decide (a<=b))
theorem CJ{ms ns:List Int}(h1:ms.Perm ns)(h2:ms.Pairwise (· <= ·)):ms=W7 ns:=by
 have p:(W7 ns).Perm ns:=List.mergeSort_perm _ _;have s:(W7 ns).Pairwise (fun a b=>decide (a<=b)=true):=List.pairwise_mergeSort (fun a b c h1 h2=>by simp at h1 h2⊢;lia) (fun a b=>by simp;lia) ns;have s':(W7 ns).Pairwise (· <= ·):=s.imp fun h=>of_decide_eq_true h;exact List.Perm.eq_of_pairwise (fun a b _ _ h1 h2=>Int.le_antisymm h1 h2) h2 s' (h1.trans p.symm)
noncomputable def L5:dF->Option dF
 | .lst ds=>(YQ ds).bind fun ns=>if ns.length<64 then some (.lst ((W7 ns).map dF.int)) else none
 |_=>none
def BX(K:Ap):RC:=fun xs H Q=> ∃(p:Addr) (ns:List Int),xs=[.ref p]/\X9 K H p (ns.map V.int)/\ns.length<64/\ ∀(l:Addr) (ms:List Int),H l=none->ms.Perm ns->ms.Pairwise (· <= ·)->Q (.ref l) (bH H l (.lst (ms.map V.int)))
theorem AK(h:X.K=K):aY X (.builtin "sorted") (BX K):=zBT h
theorem GD:DR K (BX K) L5:=by
 intro H N M x d c Q hx h k;cases d with
 |lst ds=>
  have h:((YQ ds).bind fun ns=>if ns.length<64 then some (dF.lst ((W7 ns).map dF.int)) else none)=some c:=h;cases h1:YQ ds with
  |none=>rw[h1] at h;cases h
  |some ns=>
   rw[h1] at h;have h:(if ns.length<64 then some (dF.lst ((W7 ns).map dF.int)) else none)=some c:=h;split at h
   ·rename_i hl
    cases h;obtain⟨a,xs,rfl,sq,r⟩:=hx.lstE;have:=SY r h1;subst this;refine⟨a,ns,rfl,sq,hl,fun l ms hl' h2 h3=> ?_⟩;have:=CJ h2 h3;subst this;exact k l _ _ hl' (PU _) rfl
   ·cases h
 |_=>cases h
theorem rngI{a:Int}{n:Nat}{acc:Array Value}(h:ItemsOf (fun i v=> ∃t,v= .int (a+i*1) t) acc n):b6 ((At n).map fun i:Nat=>V.int (a+i)) acc.toList:=by
 obtain⟨h1,h2⟩:=h;have go: ∀(m:Nat) (us:List Value),us.length=m-> ∀k:Nat,(∀(i:Nat) (v:Value),us[i]? =some v-> ∃t,v= .int (a+((k+i:Nat):Int)*1) t)->b6 ((At m).map fun i:Nat=>V.int (a+((k+i:Nat):Int))) us:=by
  intro m;induction m with
  |zero=>intro us hl k _;rw[Ga.mp hl];exact .nil
  |succ m ih=>
   intro us hl k hu;cases us with
   |nil=>cases hl
   |cons u us=>
    rw[Fb,Az,Fh];obtain⟨t,ht⟩:=hu 0 u rfl;refine .cons ⟨t,by rw[ht];simp⟩ ?_;have:=ih us (by simpa using hl) (k+1) fun i v e=>by
     obtain⟨t,h⟩:=hu (i+1) v (by simpa using e);exact⟨t,by rw[h,show k+(i+1)=k+1+i by lia]⟩
    have e:((fun i:Nat=>V.int (a+((k+i:Nat):Int)))∘Nat.succ)=fun i:Nat=>V.int (a+((k+1+i:Nat):Int)):=by
     funext i;simp only[Iy,Nat.succ_eq_add_one];rw[show k+(i+1)=k+1+i by lia]
    rw[e];exact this
 have:=go n acc.toList (by simpa using h1) 0 fun i v e=>by
  have:=h2 i v (by simpa using e);simpa using this
 simpa using this
theorem JM:aY X (.type "range") (fun xs H Q=> ∃j,xs=[.int j]/\ ∀p,H p=none->Q (.ref p) (bH H p (.ext (rngP p 0 j 1)))):=by
 intro aa s σ H xs us Q I r h;obtain⟨j,rfl,q⟩:=h;obtain⟨u,rfl,t,rfl⟩:=WB r;refine Pb ?_;have hn:=I.hok.fresh (Ag s.heap.objs.size);refine⟨.ref s.heap.objs.size,_,I.laid (a:=s.heap.objs.size) (o:= .ext (rngP s.heap.objs.size 0 j 1)) (t':=s.toks+1+1) (fun _ _ z=>Ac _ z) (Ag _) ?_,rfl,q _ hn⟩;exact⟨⟨_,_,_,Su ..⟩,⟨_,Aq _ rfl⟩,fun h1 h2 ⟨t,u,v,z⟩ k=>⟨t,u,v,k _ z⟩⟩
theorem NY(hc:X.calm=true):aY X (.type "list") (fun xs H Q=> ∃(p:Addr) (j:Int),xs=[.ref p]/\H p=some (.ext (rngP p 0 j 1))/\(0<=j/\j<=16777216)/\ ∀l,H l=none->Q (.ref l) (bH H l (.lst ((At j.toNat).map fun i:Nat=>V.int (0+i))))):=by
 intro aa s σ H xs us Q I r h;obtain⟨p,j,rfl,hp,hj,q⟩:=h;obtain⟨u,rfl,rx⟩:=WB r;cases rx;obtain⟨⟨t,u,v,z⟩,_⟩:=I.hok p _ hp;have hn:Fz 0 j 1=(j.toNat:Int):=by
  unfold Fz;rw[if_pos (by decide)];split
  ·rw[Int.ediv_one]
   lia
  ·lia
 have p62:(2:Int) ^ 62=4611686018427387904:=by decide
 have p24:(2:Nat) ^ 24=16777216:=by decide
 have sm:Sw 0 j 1=true:=small_one (a:=0) (b:=j) (by rw[p62];decide) (by rw[p62];decide) (by rw[p62];lia) (by rw[p62];lia);refine call_list_range (I.ok.hd hc) z sm hn (by rw[p24];lia) fun h' tk acc c kp hS hI=> ?_;have rv:=rngI hI;refine⟨.ref s.heap.objs.size,_,I.laid (a:=s.heap.objs.size) (o:= .lst ((At j.toNat).map fun i:Nat=>V.int (0+i))) (t':=tk) kp (Ag _) ⟨?_,acc.toList,c,rv,by simpa using hS⟩,rfl,q _ (I.hok.fresh (Ag _))⟩;rw[Bz,Hb,Ct];lia
noncomputable def UW(f:VF):VF:=fun δ=>(f δ).bind fun p=>match p.1 with
 | .int j=>if 0<=j/\j<=16777216 then some (.lst (bD 0 j.toNat),p.2) else none
 |_=>none
theorem zAX{N:Addr->Prop}(lo:Int)(n:Nat):cR K N H ((At n).map fun i:Nat=>V.int (lo+i)) (bD lo n):=by
 unfold bD;induction (At n) with
 |nil=>exact .nil
 |cons x xs ih=>exact .cons (.int _) ih
theorem FN{p1 p2 f8:Pos}(hc:X.calm=true)(hg:Gl X "list") (hm:X.mg "list"=none) (hv:Bh "list"=some (.type "list")) (hg2:Gl X "range") (hm2:X.mg "range"=none) (hv2:Bh "range"=some (.type "range")) (ha:PE X a (TV K ml pa ta ia fa))
  (he:Aj (a::[]) X.env=(false,eval a X.env)::Aj [] X.env:=by rfl) (he2:Aj (.Call (.Name "range" p2) [a] [] f8::[]) X.env=(false,eval (.Call (.Name "range" p2) [a] [] f8) X.env)::Aj [] X.env:=by rfl):
  PE X (.Call (.Name "list" p1) [.Call (.Name "range" p2) [a] [] f8] [] pos) (TN K ml pa (UW fa)):=
 (W3 (NY hc) hg hm hv (b5 (W3 JM hg2 hm2 hv2 (b5 ha Z8 he) (by decide) (by decide) he) Z8 he2) (by decide) (by decide) he2).imp fun σ H Q q0 => by
  obtain⟨B,O,δ,d,δ',S,q,k⟩:=q0;unfold UW at q;cases h1:fa δ with
  |none=>rw[h1] at q;cases q
  |some p1=>
   obtain⟨x,δ1⟩:=p1;rw[h1] at q;cases x with
   |int j=>
    have q:(if 0<=j/\j<=16777216 then some (dF.lst (bD 0 j.toNat),δ1) else none)=some (d,δ'):=q;split at q
    ·rename_i hj
     cases q;refine⟨B,O,δ,_,_,S,h1,fun v1 H1 R1=> ?_⟩;have r1:=R1.rep;cases r1;refine⟨j,rfl,fun p hp=>⟨p,j,rfl,cO,hj,fun l hl=> ?_⟩⟩;have sm:bL H1 (bH H1 p (.ext (rngP p 0 j 1))):=c6 hp;exact k l _ (mkN (R1.sta.same sm) (R1.frm.trans sm.fr) (fun z=>(R1.pur z).trans sm) hl (zAX 0 j.toNat))
    ·cases q
   |_=>cases q
end
section
variable{X:Cx}{K:Ap}{ml:List Nat}{e a b c:Expr}{es:List Expr}{pa ta ia pb tb ib pc tc ic pu bt bi ps bs:Bool}{fa fb fc f:VF}{B B':Bs}{O:Nat->Option Addr}{H H0 H1 H':Hp}{σ:St}{δ δ':Ev}{v:V}{d:dF}{p:Addr}{pos:Pos}
noncomputable def XF(n:Int):List Int->Option Nat
 |[]=>none
 |i::ns=>if i=n then some 0 else(XF n ns).map (· +1)
theorem ND{n:Int}: ∀{ns:List Int} {j:Nat},XF n ns=some j->ns[j]? =some n/\ ∀m,m<j->ns[m]? ≠some n
 |[],_,h=>by cases h
 | i :: ns,j,h => by
  unfold XF at h;split at h
  ·rename_i hi
   cases h;exact⟨by rw[hi];rfl,fun m hm=>absurd hm (Qq _)⟩
  ·rename_i hi
   cases h1:XF n ns with
   |none=>rw[h1] at h;cases h
   |some k=>
    rw[h1] at h;cases h;obtain⟨h2,h3⟩:=ND h1;refine⟨by simpa using h2,fun m hm=> ?_⟩;cases m with
    |zero=>simpa using hi
    |succ m=>simpa using h3 m (Nat.lt_of_succ_lt_succ hm)
theorem K3{ns:List Int}{us:List Value}(r:b6 (ns.map V.int) us){m:Nat}{u:Value}(h:us[m]? =some u): ∃i t,ns[m]? =some i/\u= .int i t:=by
 have hl:=r.length;rw[Bz] at hl;have hm:m<us.length:=(Ae.mp h).1;have e:(ns.map V.int)[m]? =some (.int ns[m]):=by simp[hl▸hm]
 obtain⟨u',e1,t,e2⟩:=r.get e;rw[h] at e1;cases e1;exact⟨ns[m],t,by simp[hl▸hm],e2⟩
noncomputable def OX(n:Int):Value->Bool
 | .int i _=>i==n
 |_=>false
theorem AA{ns:List Int}{its:List Value}{n:Int}{j:Nat}(r:b6 (ns.map V.int) its)(h:XF n ns=some j):
  ∃hj:j<its.toArray.size,OX n its.toArray[j]=true/\(∀m (hm:m<its.toArray.size),m<j->OX n its.toArray[m]=false):=by
 obtain⟨h1,h2⟩:=ND h;have hl:=r.length;rw[Bz] at hl;have hj:j<ns.length:=(Ae.mp h1).1;have at_: ∀(m:Nat) (hm:m<its.toArray.size),∃i t,ns[m]? =some i/\its.toArray[m]= .int i t:=fun m hm=>by
  have hm':m<its.length:=by simpa using hm
  exact K3 r (u:=its.toArray[m]) (by simp[hm'])
 refine⟨by simpa[<- hl] using hj,?_,fun m hm hmj=> ?_⟩
 ·obtain ⟨i,t',e1,e2⟩ := at_ j (by simpa [<- hl] using hj)
  rw[h1] at e1;cases e1;rw[e2];simp[OX]
 ·obtain⟨i,t',e1,e2⟩:=at_ m hm
  have:=h2 m hmj;rw[e1] at this;rw[e2];exact beq_eq_false_iff_ne.mpr fun z=>this (by rw[z])
theorem AB{ns:List Int}{its:List Value}(r:b6 (ns.map V.int) its){y:Value}(hy:y∈its.toArray): ∃i t,y= .int i t:=by
 obtain⟨m,hm,rfl⟩:=Array.mem_iff_getElem.mp hy;have hm':m<its.length:=by simpa using hm
 obtain⟨i,t,_,e⟩:=K3 r (m:=m) (u:=its.toArray[m]) (by simp[hm']);exact⟨i,t,e⟩
def BV(K:Ap):V->List V->Hp->VK->Prop:=fun x vs H Q=> ∃(l:Addr) (ns:List Int) (n:Int) (j:Nat),x= .ref l/\vs=[.int n]/\X9 K H l (ns.map V.int)/\XF n ns=some j/\Q (.int j) H
theorem ET:MtM X "list.index" (BV X.K):=by
 intro aa s σ H x vs v us Q I rx rv h;obtain⟨l,ns,n,j,rfl,rfl,hq,hj,q⟩:=h;cases rx;obtain⟨u,rfl,t,rfl⟩:=rv.one;obtain⟨its,r,⟨o,c,e,hc,hd,cy⟩,hz⟩:=I.list hq;obtain⟨cls,dd,data,sl⟩:=o;simp only at hc hd cy;subst hc hd cy;obtain⟨hjs,h1,h2⟩:=AA r hj;have hl:=r.length;refine Oj F.slot_list_index ⟨_,e,rfl⟩ F.entry_list_index (F.args_list_index_2 _ _) (SeqAt.list_indexAt l its.toArray c none sl (.int n t) (OX n) j hjs (by
  have h3:its.length<=16777216:=by rw[<- hl,<- Ct];exact hz
  have h4:j<its.length:=by simpa using hjs
  lia) h1 h2) ⟨e,?_,?_⟩
 ·intro y hy
  obtain⟨i,t',rfl⟩:=AB r hy;exact SeqAt.EqAt.int_int i t' n t
 ·exact⟨.int j,H,I.tok _,⟨_,rfl⟩,q⟩
theorem zFX(h:X.K=K):MtM X "list.index" (BV K):=by subst h;exact ET
noncomputable def HZ:dF->dF->Option dF
 | .lst ds,.int n=>(YQ ds).bind fun ns=>(XF n ns).map fun j=> .int j
 |_,_=>none
theorem C4{am ag:Pos}(hK:X.K=K)(ha:PE X a (TV K ml pa ta ia fa))(hb:PE X b (TV K ml pb tb ib fb))
  (cm:Hs a "index" X.env (eval a X.env)=eval a X.env:=by rfl)
  (dr : ((Gc ag (Aj (b :: []) X.env)).all (fun x => !x.1) && (Nr ag (Jg [] X.env)).all (fun x => x.1.isSome)
   && decide ((b::([]:List Expr)).length+([]:List Jh).length+(if([]:List Jh).isEmpty then 0 else 1)<30))=true:=by rfl)
  (cf:(am.endLine==ag.line)=true:=by rfl) (hs:Aj (b::[]) X.env=(false,eval b X.env)::Aj [] X.env:=by rfl) (bh:(Gc ag (Aj [] X.env)).any (·.1)=false:=by rfl) (hl:(pb || (ta && ia))=true:=by rfl):
  PE X (.Call (.Attribute a "index" am) [b] [] ag) (TV K ml (pa && pb) true true (f2 HZ fa fb)):=
 (kBm (K := K) hK Kz PySem.F.slot_list_index PySem.F.type_list_index (zFX hK) ha (b5 hb Z8 hs) cm dr cf hs bh).imp fun σ H Q q0 => by
  obtain⟨B,O,δ,d,δ2,S,q,k⟩:=q0;obtain⟨x,δ1,y,h1,h2,h3⟩:=RO q;refine⟨B,O,δ,x,δ1,S,h1,fun v1 H1 R1=> ?_⟩;cases x with
  |lst ds=>
   cases y with
   |int n=>
    have h3:((YQ ds).bind fun ns=>(XF n ns).map fun j=>dF.int j)=some d:=h3;cases h4:YQ ds with
    |none=>rw[h4] at h3;cases h3
    |some ns=>
     rw[h4] at h3;have h3:(XF n ns).map (fun j=>dF.int j)=some d:=h3;cases h5:XF n ns with
     |none=>rw[h5] at h3;cases h3
     |some j=>
      rw[h5] at h3;cases h3;obtain⟨l,xs,rfl,sq,_⟩:=R1.rep.lstE;refine⟨.inl ⟨rfl,xs,sq⟩,B,O,δ1,_,δ2,R1.sta,h2,fun v2 H2 R2=> ?_⟩;have r2:=R2.rep;cases r2;obtain⟨l',xs',e1,sq',r'⟩:=(R2.live hl R1.rep).lstE;cases e1;have:=SY r' h4;subst this;exact⟨l,ns,n,j,rfl,rfl,sq',h5,k _ H2 ⟨R2.sta,R1.frm.trans R2.frm,fun z=>by
       obtain⟨z1,z2⟩:=(Ad _ _).mp z;exact(R1.pur z1).trans (R2.pur z2),.int _⟩⟩
   |_=>cases h3
  |_=>cases h3
def G1:V->List V->Hp->VK->Prop:=fun x vs H Q=> ∃(l:Addr) (ns:List Int) (n:Int) (j:Nat),x= .ref l/\vs=[.int n]/\H l=some (.lst (ns.map V.int))/\XF n ns=some j/\Q .non (bH H l (.lst ((ns.eraseIdx j).map V.int)))
theorem MZ{α β:Type}(g:α->β): ∀(l:List α) (j:Nat),(l.map g).eraseIdx j=(l.eraseIdx j).map g
 |[],_=>by simp
 |_::_,0=>by simp
 |x::l,j+1=>by simp[MZ g l j]
theorem EU:MtM X "list.remove" G1:=by
 intro aa s σ H x vs v us Q I rx rv h;obtain⟨l,ns,n,j,rfl,rfl,hH,hj,q⟩:=h;cases rx;obtain⟨u,rfl,t,rfl⟩:=rv.one;obtain⟨z,its,c,r,hl,e⟩:=I.lstM hH;obtain⟨hjs,h1,h2⟩:=AA r hj;refine Oj F.slot_list_remove ⟨_,e,rfl⟩ F.entry_list_remove (F.args_list_remove_2 _ _) (MeetsSeq.list_remove l its.toArray c (.int n t) (OX n) (fun y hy=> ?_) j hjs h1 h2 (by rw[As,<- hl];exact z)) ⟨e,?_⟩
 ·obtain⟨i,t',rfl⟩:=AB r hy
  exact Sk i n t' t
 ·have hlj : j < its.length := by simpa using hjs
  refine⟨.non,_,I.lset (its':=its.eraseIdx j) hH e (by simp[Km,hlj]) (ys:=(ns.eraseIdx j).map V.int) ?_ ?_,rfl,q⟩
  ·have:=b6.eraseIdx j r
   rwa[MZ] at this
  ·rw[Bz]
   have h1:=List.length_eraseIdx_le ns j;rw[Bz] at z;lia
noncomputable def mRem:List dF->List dF->Option (List dF)
 |ds,[.int n]=>(YQ ds).bind fun ns=>(XF n ns).map fun j=>(ns.eraseIdx j).map dF.int
 |_,_=>none
theorem zFK:MuV K G1 mRem:=by
 intro H N l xs vs ds es ds' Q hl hN rx re h k;cases re with
 |nil=>cases h
 | @cons v vs d es hd t=>
  cases t with
  |cons _ _=>cases d<;>cases h
  |nil=>
   cases d with
   |int n=>
    cases hd;have h:((YQ ds).bind fun ns=>(XF n ns).map fun j=>(ns.eraseIdx j).map dF.int)=some ds':=h;cases h4:YQ ds with
    |none=>rw[h4] at h;cases h
    |some ns=>
     rw[h4] at h;have h:(XF n ns).map (fun j=>(ns.eraseIdx j).map dF.int)=some ds':=h;cases h5:XF n ns with
     |none=>rw[h5] at h;cases h
     |some j=>
      rw[h5] at h;cases h;have:=SY rx h4;subst this;exact⟨l,ns,n,j,rfl,rfl,hl,h5,k _ _ (PU _)⟩
   |_=>cases h
end
section
variable{X:Cx}{K:Ap}{ml:List Nat}{e:Expr}{es:List Expr}{pu bt bi bs:Bool}{f:VF}{fs:OC}
theorem cX(h:PE X e (TV K ml pu bt bi f))(hb:(bt && bi)=true:=by rfl):PE X e (TV K ml pu true true f):=by
 obtain⟨h1,h2⟩:=(Ad _ _).mp hb;subst h1 h2;exact h
theorem K5(h:PE X e (TV K ml pu bt bi f))(hb:bi=true:=by rfl):PE X e (TV K ml pu bt true f):=by
 subst hb;exact h
theorem cP(h:PA X es (TAV K ml pu bs fs))(hb:bs=true:=by rfl):PA X es (TAV K ml pu true fs):=by
 subst hb;exact h
theorem P5{st:Stmt}:PS X st (UJ K ml fun _=>none):=fun _ _ _ _ _ _ ⟨_,_,_,_,_,q,_⟩=>nomatch q
variable{a b c:Expr}{pa ta ia pb tb ib pc tc ic:Bool}{fa fb fc:VF}{pos:Pos}{δ:Ev}
end
section
variable{X:Cx}{K:Ap}{ml:List Nat}{e a b c:Expr}{pa ta ia pb tb ib pu:Bool}{fa fb fc f:VF}{B:Bs}{O:Nat->Option Addr}{H H':Hp}{σ:St}{δ δ':Ev}{v:V}{d:dF}{p:Addr}{pos:Pos}{ks:List (Option Expr)}{vs:List Expr}
theorem M8: ∀{more acc:List (a0×V)},((acc++more).map Dh).Nodup->O9 acc more=acc++more
 |[],acc,_=>by simp[O9]
 | (k,v) :: more,acc,nd => by
  have hk: ∀q∈acc,q.1≠k:=fun q hq z=>by
   rw[Gs,Az] at nd;exact(List.nodup_append.mp nd).2.2 q.1 (List.mem_map_of_mem hq) k (by simp) z
  have hn:UO acc k=none:=by
   unfold UO;rw[List.find?_eq_none.mpr fun q hq=>by simpa using hk q hq];rfl
  show O9 (X8 acc k v) more=_;rw[BO v hn,M8 (by simpa using nd)];simp
end
theorem U9: ∀(names:List (Str×NameKind)) (n:Nat) (acc:List (Str×Addr)),cellsFrom n names acc=cellsFrom n names []++acc
 |[],_,_=>rfl
 | (x,k) :: r,n,acc => by
  unfold cellsFrom;split
  ·rw[U9 r (n+1) ((x,n)::acc),U9 r (n+1) [(x,n)]]
   simp
  ·exact U9 r n acc
theorem LP: ∀{names:List (Str×NameKind)} {n:Nat} {x:Str} {c:Addr},(x,c)∈cellsFrom n names []->(x,Bx)∈names
 |[],_,_,_,h=>nomatch h
 | (y,k) :: r,n,x,c,h => by
  unfold cellsFrom at h;split at h
  ·rename_i hk
   rw[U9] at h;rcases Bo.mp h with h|h
   ·exact Ao _ (LP h)
   ·cases Ar.mp h
    rw[show k=Bx from beq_iff_eq.mp hk];exact Au
  ·exact Ao _ (LP h)
theorem LO: ∀{names:List (Str×NameKind)} {n:Nat} {x:Str},(x,Bx)∈names-> ∃c,(x,c)∈cellsFrom n names []
 | (y,k) :: r,n,x,h => by
  unfold cellsFrom;rcases Ak.mp h with e|h
  ·cases e
   rw[if_pos (by decide),U9];exact⟨n,Av _ (Ar.mpr rfl)⟩
  ·split
   ·rw[U9]
    obtain⟨c,hc⟩:=LO (n:=n+1) h;exact⟨c,Bv _ hc⟩
   ·exact LO h
theorem UB: ∀{l:List (Str×Addr)} {x:Str} {c:Addr},(x,c)∈l-> ∃c',l.lookup x=some c'
 | (y,d) :: r,x,c,h => by
  rw[Cj];cases hb:x==y with
  |true=>exact⟨d,rfl⟩
  |false=>
   rcases Ak.mp h with e|h
   ·cases e
    simp at hb
   ·exact UB h
theorem bC: ∀{l m:List (Str×Addr)} {x:Str} {c:Addr},(l++m).lookup x=some c->l.lookup x=some c∨(l.lookup x=none/\m.lookup x=some c)
 |[],_,_,_,h=> .inr ⟨rfl,h⟩
 |(y,d)::r,m,x,c,h=>by
  rw[Gd,Cj] at h;rw[Cj];cases hb:x==y with
  |true=>rw[hb] at h;exact .inl h
  |false=>rw[hb] at h;exact bC h
theorem XR: ∀{l m:List (Str×Addr)} {x:Str},l.lookup x=none->(l++m).lookup x=m.lookup x
 |[],_,_,_=>rfl
 |(y,d)::r,m,x,h=>by
  rw[Cj] at h;rw[Gd,Cj];cases hb:x==y with
  |true=>rw[hb] at h;cases h
  |false=>rw[hb] at h;exact XR h
theorem Q1{M:Model}{A:Cz}{E:Value->Af->Prop}{s:Af}{scope:Scope}{globals:Addr}{eg:List (Str×Addr)}{qual:Str}{outer:Env}{Q:Env->Af->Prop}
  (hQ:Q (newEnv scope s.heap.objs.size globals (cellsFrom (s.heap.objs.size+1) scope.names eg) qual none .none (some outer) builtinsNs) {s with heap:=Kn (s.heap.push {cls:= .type "dict",data:= .dict #[]}) scope.names}):
  wpAny M A (Kb scope globals eg [] qual none .none (some outer)) Q E s:=by
 simp only[Kb,Nt,if_true];refine Aa (wpAny_alloc ?_);refine Aa (wpAny_layCells _ (fun name kind cells=>by cases hkc:kind==Bx<;>simp[hkc]) _ _ _ _ ?_);rw[show({s with heap:=s.heap.push {cls:= .type "dict",data:= .dict #[]}}:Af).heap.objs.size=s.heap.objs.size+1 from Cy ..];rw[Mz];exact Aa (Ah (Ah hQ))
theorem YF: ∀{l m:List (Str×Addr)} {x:Str} {c:Addr},l.lookup x=some c->(l++m).lookup x=some c
 |(y,d)::r,m,x,c,h=>by
  rw[Cj] at h;rw[Gd,Cj];cases hb:x==y with
  |true=>rw[hb] at h;exact h
  |false=>rw[hb] at h;exact YF h
structure UQ(X:Cx)(N':List Str)(ix:List Nat)(scope:Scope):Prop where
 kind:scope.kind= .function
 cel: ∀y∈scope.names,y.2= .cell->scope.names.lookup y.1=some .cell
 names: ∀y∈scope.names,y.2= .local->scope.names.lookup y.1=some .local
 free: ∀y∈scope.names,y.2= .free->X.env.kindOf y.1=some .cell∨X.env.kindOf y.1=some .free
 nd:N'.Nodup
 cap: ∀j,j<ix.length->N'[j]? =(ix[j]?).bind fun i=>X.N[i]?
 capf: ∀x∈N'.take ix.length,scope.names.lookup x=some .free
noncomputable def b9(X:Cx)(N':List Str)(scope:Scope)(cl:List (Str×Addr))(s1:Af)(H1:Hp)(fp:List Addr):Cx:=
 {X with N:=N',s₀:=s1,H₀:=H1,env:=Pz scope cl s1.heap.objs.size X.env,outer:=X.stack,stack:=X.stack,ex:=fp,fn:=fun x=>scope.names.lookup x==some Bx,pn:=[],xe:=fun _ _=>False}
theorem X4{env:Env}{x:Str}: ∀{l:List (Str×NameKind)},
  ((l.map fun(n,k)=>if(k==Bj && env.scope.kind== .function && env.kindOf n==some .cell) then(n,Bx) else(n,k)).lookup x=some .cell∨
  (l.map fun(n,k)=>if(k==Bj && env.scope.kind== .function && env.kindOf n==some .cell) then(n,Bx) else(n,k)).lookup x=some .free)->(x,Bj)∈l∨(x,Bx)∈l
 |[],h=>by rcases h with z|z<;>cases z
 | (n,k) :: r,h => by
  have h:Nc x ((if(k==Bj && env.scope.kind== .function && env.kindOf n==some .cell)=true then(n,Bx) else(n,k))::r.map fun(n,k)=>if(k==Bj && env.scope.kind== .function && env.kindOf n==some .cell) then(n,Bx) else(n,k))=some .cell∨
   Nc x ((if(k==Bj && env.scope.kind== .function && env.kindOf n==some .cell)=true then(n,Bx) else(n,k))::r.map fun(n,k)=>if(k==Bj && env.scope.kind== .function && env.kindOf n==some .cell) then(n,Bx) else(n,k))=some .free:=h
  by_cases hc:(k==Bj && env.scope.kind== .function && env.kindOf n==some .cell)=true
  ·rw[if_pos hc] at h
   by_cases hx:x=n
   ·subst hx
    have hk:k= .free:=by
     simp only[Ad] at hc;exact beq_iff_eq.mp hc.1.1
    subst hk;exact .inl Au
   ·have hb:(x==n)=false:=beq_eq_false_iff_ne.mpr hx
    simp only[Cj,hb] at h;rcases X4 (env:=env) h with z|z
    ·exact .inl (Ao _ z)
    ·exact .inr (Ao _ z)
  ·rw[if_neg hc] at h
   by_cases hx:x=n
   ·subst hx
    rw[Dz] at h;rcases h with z|z
    ·cases z;exact .inr Au
    ·cases z;exact .inl Au
   ·have hb:(x==n)=false:=beq_eq_false_iff_ne.mpr hx
    simp only[Cj,hb] at h;rcases X4 (env:=env) h with z|z
    ·exact .inl (Ao _ z)
    ·exact .inr (Ao _ z)
theorem OJ{X:Cx}{aa:List (Addr×Obj)}{σ:St}{H2:Hp}{s2:Af}{E:Value->Af->Prop}{tg iter elt:Expr}{ifs:List Expr}{scope:Scope}{pos:Pos}{N':List Str}{ix:List Nat}{nl:Nat}{g:TG}{tt:TT}{te:TE}
  {cl:List (Str×Addr)} {J:It} {fp:List Addr} {it:Addr} {tn:Nat->Heap->Prop} {Q:V->Hp->Prop} {RR:Value->Addr->Qi->Af->Prop}
  (hc:X.calm=true) (S:UQ X N' ix scope) (hnl:N'.length=ix.length+nl)
  (bm: ∀x c,cl.lookup x=some c->X.env.cells.lookup x=some c) (gh: ∀x,(x,Bj)∈scope.names-> ∃c,cl.lookup x=some c)
  (blk: ∀(cl:List (Str×Addr)) (s1:Af) (H1:Hp) (fp:List Addr),Blk (b9 X N' scope cl s1 H1 fp) tg ifs elt g tt te)
  (I2:cT X aa σ H2 s2) (T:LG X.prog X.w X.K tg J fp it tn) (st2:tn 0 s2.heap) (f2: ∀b∈fp,RE X aa H2 b)
  (h: ∀D,H2 D=none->zD2 D ix nl J g tt te σ H2 fun H'=>Q (.ref D) H')
  (fin: ∀(D C:Addr) (s':Af) (H':Hp),cT X aa σ H' s'->(∃m,s'.heap.Ns C m)->C≠X.env.locals->(∀x c,X.env.cells.lookup x=some c->c≠C)→
   (∀(σ':St) (s'':Af) (h'':Heap),cT X aa σ' H' s''->Fd C s''.heap h''->cT X aa σ' H' {s'' with heap:=h''})->Q (.ref D) H'->RR (.ref D) C (.ok .next) s'):
  wpAny (model X.prog X.w) X.A (Rx []) (fun acc s₃=>wpAny (model X.prog X.w) X.A (Kb scope X.env.globals cl [] X.env.qual none .none (some X.env)) (fun gj s₄=>
   Gg (model X.prog X.w) X.A (.compStart (.ListComp elt [⟨tg,iter,ifs,0⟩] scope pos) 0 (.ref it) acc {gj with scope:=relabel scope X.env}) (RR acc gj.locals) s₄) E s₃) E s2:=by
 refine Co (Q1 ?_);dsimp only;have I1:cT X aa σ (bH H2 s2.heap.objs.size (.lst [])) {s2 with heap:=s2.heap.push {cls:= .type "list",dict:=none,data:= .seq ([]:List Value).toArray}}:=
  I2.lnew (t':=s2.toks) (ys:=[]) (its:=[]) .nil (Cr _)
 have hDn:H2 s2.heap.objs.size=none:=I2.hok.fresh (Ag _);obtain⟨W,⟨m0,w0⟩,turn⟩:=h _ hDn;generalize hs1:({s2 with heap:=s2.heap.push {cls:= .type "list",dict:=none,data:= .seq ([]:List Value).toArray}}:Af)=s1 at I1;have cg:s2.heap.push {cls:= .type "list",dict:=none,data:= .seq ([]:List Value).toArray}=s1.heap:=by rw[<- hs1]
 rw[cg];have old: ∀b o,s1.heap.get? b=some o->(Kn (s1.heap.push {cls:= .type "dict",data:= .dict #[]}) scope.names).get? b=some o:=fun b o e=>Jm _ _ _ _ (Ac _ e);have hns₁:(Kn (s1.heap.push {cls:= .type "dict",data:= .dict #[]}) scope.names).Ns s1.heap.objs.size (fun _=>none):=(Sx s1.heap (.type "dict")).keeps fun b o e=>Jm _ _ _ _ e;have okc:=cellsFrom_ok scope.names (s1.heap.push {cls:= .type "dict",data:= .dict #[]}) (s1.heap.objs.size+1) [] ⟨fun _ _ hm=>(nomatch hm),Kj⟩ (by rw[Cy];exact Ag _);rw[Cy] at okc;generalize hz1:Kn (s1.heap.push {cls:= .type "dict",data:= .dict #[]}) scope.names=h₁ at old hns₁ okc;rw[U9];generalize hnc:cellsFrom (s1.heap.objs.size+1) scope.names []=nc at okc;have ncm: ∀x c,nc.lookup x=some c->(x,Bx)∈scope.names/\h₁.IsCell c none/\s1.heap.objs.size+1<=c:=fun x c e=>by
  have hm:=Bq e;exact⟨LP (n:=s1.heap.objs.size+1) (by rw[hnc];exact hm),okc.empty x c hm⟩
 have nch: ∀x,(x,Bx)∈scope.names-> ∃c,nc.lookup x=some c:=fun x h=>by
  obtain⟨c,hc⟩:=LO (n:=s1.heap.objs.size+1) h;rw[hnc] at hc;exact UB hc
 have du: ∀b∈fp,b<s2.heap.objs.size:=fun b hb=>by
  obtain⟨o,e,_⟩:=T.obj _ _ st2 b hb;exact Am e
 have ga:s1.heap.objs.size=s2.heap.objs.size+1:=by rw[<- cg,Cy]
 have iy: ∀b o,s2.heap.get? b=some o->s1.heap.get? b=some o:=fun b o e=>by rw[<- cg];exact Ac _ e
 have ci: ∀x c,cl.lookup x=some c->c<s1.heap.objs.size:=fun x c e=>by
  obtain⟨v,q⟩:=I1.cell x c (bm x c e);exact q.lt
 have my: ∀b∈EJ X.stack,b<s1.heap.objs.size:=fun b hb=>by
  obtain⟨_,o,ho,_⟩:=(I1.stack).mem hb;exact Am ho
 have okY:(b9 X N' scope (nc++cl) s1 (bH H2 s2.heap.objs.size (.lst [])) fp).Ok:=by
  refine⟨I1.ok.mod,S.kind,I1.ok.glob,I1.ok.blt,Ag _,fun x y c e1 e2=> ?_,fun x hx=> ?_,fun x c hf e=> ?_,I1.ok.hd,I1.ok.frames,.inl rfl,fun b hb=>⟨?_,fun x c e=> ?_⟩,fun b o e=> ?_,
   Bu I1.ok.bsz I1.sz,fun b o e hb=> ?_,fun b hb hb2=> ?_,I1.stack,I1.stkFree⟩
  ·rcases bC e1 with n1|⟨_,o1⟩
   ·rcases bC e2 with n2|⟨_,o2⟩
    ·exact Ny okc.apart (Bq n1) (Bq n2)
    ·exact absurd (Ax (ci y c o2) (Ek (ncm x c n1).2.2)) (Ca _)
   ·rcases bC e2 with n2|⟨_,o2⟩
    ·exact absurd (Ax (ci x c o1) (Ek (ncm y c n2).2.2)) (Ca _)
    ·exact I1.ok.inj x y c (bm x c o1) (bm y c o2)
  ·cases q:nc.lookup x with
   |some c=>exact⟨c,YF q⟩
   |none=>
    rcases X4 hx with h|h
    ·obtain⟨c,hc⟩:=gh x h
     exact⟨c,(XR q).trans hc⟩
    ·obtain⟨c,hc⟩:=nch x h
     rw[q] at hc;cases hc
  ·have hx:(x,Bx)∈scope.names:=Bq (beq_iff_eq.mp hf)
   obtain⟨c',hc'⟩:=nch x hx;have:=YF (m:=cl) hc';have e:(nc++cl).lookup x=some c:=e;rw[this] at e;cases e;exact Ek (ncm x c hc').2.2
  ·exact Bd (Ax (du b hb) (by show s2.heap.objs.size<=s1.heap.objs.size;rw[ga];exact Ew _))
  ·rcases bC e with n1|⟨_,o1⟩
   ·have h1:=du b hb
    have h2:=(ncm x c n1).2.2;rw[ga] at h2;exact fun z=>absurd (z▸h2) (Pr (Ax h1 (Bu (Ew _) (Ew _))))
   ·exact(f2 b hb).2.2.2.2.1 x c (bm x c o1)
  ·exact I1.bs b o e
  ·have:=(f2 b hb)
   obtain⟨o',e',_⟩:=T.obj _ _ st2 b hb;have hlt:=Ax (Am e) I1.ok.bsz;rcases this.2.2.2.1 with z|z
   ·exact I1.ok.noex b o e z
   ·exact absurd (Ax hlt z) (Ca _)
  ·rcases Ak.mp (I1.stkSub b hb2) with z|z
   ·exact(f2 b hb).2.1 z
   ·exact(f2 b hb).2.2.1 z
 have df:(bN ix σ++Bb nl none).length=N'.length:=by rw[Cd,Ik,hnl];simp[bN]
 have IY:cT (b9 X N' scope (nc++cl) s1 (bH H2 s2.heap.objs.size (.lst [])) fp) [] (bN ix σ++Bb nl none) (bH H2 s2.heap.objs.size (.lst [])) {s2 with heap:=h₁}:=by
  refine⟨okY,?_,I2.bare,Un.kept old,⟨_,hns₁,fun j x v e1 e2 e3=> ?_⟩,fun x c e=> ?_,I1.hok.fresh (Ag _),fun x c e=> ?_,fun p hp=>absurd (show p∈([]:List (Addr×Obj)) from hp) (by simp),I1.hok.kept old,df⟩
  ·show s2.os=s1.os
   rw[<- hs1]
  ·have hj:j<ix.length:=by
    by_cases hj:j<ix.length
    ·exact hj
    ·exfalso
     have hl:(bN ix σ).length=ix.length:=by simp[bN]
     rw[Bt (by rw[hl];lia),Cu] at e2;split at e2<;>cases e2
   have hl:(bN ix σ).length=ix.length:=by simp[bN]
   rw[Ai (by rw[hl];exact hj)] at e2;have hci:=S.cap j hj;obtain⟨i,hi⟩: ∃i,ix[j]? =some i:=⟨ix[j],by simp[hj]⟩;rw[hi] at hci;have hNi:X.N[i]? =some x:=by
    have:N'[j]? =X.N[i]? :=hci;rw[<- this];exact e1
   have hσ:σ[i]? =some (some v):=by
    unfold bN at e2;rw[Cq,hi] at e2;have e2':(σ[i]?).join=some v:=by simpa using e2
    cases q:σ[i]? with
    |none=>rw[q] at e2';cases e2'
    |some o=>rw[q] at e2';rw[show o=some v from e2']
   have hfl:scope.names.lookup x=some .free:=S.capf x (by
    rw[Im];exact⟨j,by rw[Cb hj];exact e1⟩)
   have az:(x,Bj)∈scope.names:=Bq hfl;have hpk:X.env.kindOf x=some .cell∨X.env.kindOf x=some .free:=by exact S.free (x,.free) az rfl
   have j3:Vis X.env.scope x:=by
    rcases hpk with z|z
    ·exact .inr (.inl z)
    ·exact .inr (.inr z)
   obtain⟨m,hn,j5⟩:=I1.loc;obtain⟨u,ru,l⟩:=j5 i x v hNi hσ j3;refine⟨u,ru,?_⟩;rcases l with⟨hk,_⟩|⟨hk,c,ec,z⟩
   ·rcases hpk with q|q<;>rw[hk] at q<;>cases q
   ·obtain⟨c',hc'⟩:=gh x az
    have:c'=c:=by
     have:=bm x c' hc';rw[ec] at this;exact(Ce this).symm
    subst this;have j4:nc.lookup x=none:=by
     cases q:nc.lookup x with
     |none=>rfl
     |some d=>
      have:=S.cel (x,.cell) (ncm x d q).1 rfl;rw[hfl] at this;cases this
    refine .inr ⟨WP hfl,c',(XR j4).trans hc',?_⟩
    ·obtain⟨o,ho,hd⟩:=z
     exact⟨o,old _ _ ho,hd⟩
  ·rcases bC e with n1|⟨_,o1⟩
   ·exact⟨none,(ncm x c n1).2.1⟩
   ·obtain⟨v,o,ho,hd⟩:=I1.cell x c (bm x c o1)
    exact⟨v,o,old _ _ ho,hd⟩
  ·rcases bC e with n1|⟨_,o1⟩
   ·exact I1.hok.fresh (Ek (ncm x c n1).2.2)
   ·exact I1.freeC x c (bm x c o1)
 have j7: ∀{pY:List (Addr×Obj)} {σ':St} {H':Hp} {s':Af},cT (b9 X N' scope (nc++cl) s1 (bH H2 s2.heap.objs.size (.lst [])) fp) pY σ' H' s'->cT X aa σ H' s':=fun{pY σ' H' s'} J'=>
  I1.call' J'.os J'.base J'.hok J'.bare fun b hb=>⟨(f2 b hb).2.2.2.1,(f2 b hb).2.1,(f2 b hb).2.2.2.2.1,(f2 b hb).2.2.2.2.2⟩
 have stat: ∀{H':Hp} {pY:List (Addr×Obj)},(∀b∈fp,H' b=none)->pY=[]-> ∀b∈fp,RE (b9 X N' scope (nc++cl) s1 (bH H2 s2.heap.objs.size (.lst [])) fp) pY H' b:=fun{H' pY} hn hp b hb=>by
  subst hp;refine⟨hn b hb,(okY.exf b hb).1,okY.exfs b hb,.inl hb,(okY.exf b hb).2,fun p hp=>absurd (show p∈([]:List (Addr×Obj)) from hp) (by simp)⟩
 have st1:tn 0 h₁:=T.keep 0 s2.heap h₁ st2 fun b hb o e=>old b o (iy b o e);have fr1: ∀b∈fp,(bH H2 s2.heap.objs.size (.lst [])) b=none:=fun b hb=>by
  rw[b7 (Bd (du b hb))];exact(f2 b hb).1
 have loop: ∀s₃:Af,s₃={s2 with heap:=h₁}→
   Gg (model X.prog X.w) X.A (.compLoop (.ListComp elt [⟨tg,iter,ifs,0⟩] scope pos) 0 (.ref it) (.ref s2.heap.objs.size) (Pz scope (nc++cl) s1.heap.objs.size X.env)) (RR (.ref s2.heap.objs.size) s1.heap.objs.size) s₃:=by
  rintro s₃ rfl;refine D9 (fun n s'=> ∃i σ' H' acc,cT (b9 X N' scope (nc++cl) s1 (bH H2 s2.heap.objs.size (.lst [])) fp) [] σ' H' s'/\σ'.take ix.length=bN ix σ/\tn i s'.heap/\(∀b∈fp,H' b=none)/\W i n acc H') ?_ m0
   ⟨0,_,_,[],IY,by rw[Cw (by simp[bN])];exact Cf (by simp[bN]),st1,fr1,w0⟩
  rintro n s' ⟨i,σ',H',acc,J',hσ,st',fr',w'⟩;have Jc:cT (b9 X N' scope (nc++cl) s1 (bH H2 s2.heap.objs.size (.lst [])) fp) [] (bN ix σ++Bb nl none) H' s':=by
   refine J'.weak (by rw[df];exact J'.len.symm) fun j v e=> ?_;have hl:(bN ix σ).length=ix.length:=by simp[bN]
   by_cases hj:j<ix.length
   ·rw [Ai (by rw [hl];exact hj),<- hσ,Cb hj] at e
    exact e
   ·rw [Bt (by rw [hl];lia),Cu] at e
    split at e<;>cases e
  rcases turn i n acc H' w' with⟨stop,q⟩|⟨go,N,hN,step⟩
  ·refine Aw (T.done (b9 X N' scope (nc ++ cl) s1 (bH H2 s2.heap.objs.size (.lst [])) fp) rfl rfl rfl hc i [] s' _ H' (fun _ _ => False) Jc (stat fr' rfl) st' stop) (fun r s4 ⟨hr,I4⟩ => ?_) fun _ _ z => z
   subst hr;have IX:=j7 I4;obtain⟨m,hm,_⟩:=I4.loc;exact fin _ _ s4 H' IX ⟨m,hm⟩ (Gq I1.lt) (fun x c e z=>by
    obtain⟨v,q⟩:=I1.cell x c e;have:=q.lt;rw[z] at this;exact Ca _ this) (fun σ'' s'' h'' I'' sb=>cT.offNew I1 I'' I4.free fun b o hb e=>(sb.2 b hb).trans e) q
  ·refine Aw (T.item (b9 X N' scope (nc ++ cl) s1 (bH H2 s2.heap.objs.size (.lst [])) fp) rfl rfl rfl hc i [] s' _ H' (fun _ _ => False) Jc (stat fr' rfl) st' go) (fun r s4 ⟨u,hr,h4⟩ => ?_) fun _ _ z => z
   subst hr;refine Aw h4 (fun _ s5 ⟨x,H5,I5,r5,y5,st5,fr5⟩=> ?_) fun _ _ z=>z;have I5':=I5.pinned (stat fr5 rfl) (T.obj _ _ st5);obtain⟨btg,bts,bel⟩:=blk (nc++cl) s1 (bH H2 s2.heap.objs.size (.lst [])) fp;refine Aw (btg _ s5 _ H5 x u _ I5' r5 (step x H5 y5)) (fun _ s6 ⟨σ6,H6,I6,hσ6,q6⟩=> ?_) fun _ _ z=>z;have again: ∀{H7:Hp} {s7:Af} {af:List V},cT (b9 X N' scope (nc++cl) s1 (bH H2 s2.heap.objs.size (.lst [])) fp) ([]++UF fp s5.heap) σ6 H7 s7->N af H7→
     ∃m,m<n/\ ∃i σ' H' acc,cT (b9 X N' scope (nc++cl) s1 (bH H2 s2.heap.objs.size (.lst [])) fp) [] σ' H' s7/\σ'.take ix.length=bN ix σ/\tn i s7.heap/\(∀b∈fp,H' b=none)/\W i m acc H':=fun{H7 s7 af} I7 n7=>by
    obtain⟨m',hm,w7⟩:=hN af H7 n7;refine⟨m',hm,i+1,σ6,H7,af,I7.unpinned,hσ6,T.keep _ _ _ st5 fun b hb o e=>(I7.pin (b,o) (Av _ (Av _ (ZP hb e)))).1,fun b hb=> ?_,w7⟩;obtain⟨o,e,d⟩:=T.obj _ _ st5 b hb;exact(I7.pin (b,o) (Av _ (Av _ (ZP hb e)))).2.1
   refine Aw (bts _ s6 σ6 H6 _ I6 q6) (fun okb s7 ⟨H7,I7,q7⟩=> ?_) fun _ _ z=>z;cases okb with
   |false=>exact again I7 q7
   |true=>
    refine Aw (bel _ s7 σ6 H7 _ I7 q7) (fun v s8 ⟨y,H8,I8,r8,hD8,hz8,n8⟩=> ?_) fun _ _ z=>z;refine Aw (bM (X:=b9 X N' scope (nc++cl) s1 (bH H2 s2.heap.objs.size (.lst [])) fp) _ s8 σ6 H8 (.ref s2.heap.objs.size) [y] (.ref s2.heap.objs.size) [v] (fun _ H9=>N (acc++[y]) H9) I8 rfl (.cons r8 .nil)
     ⟨s2.heap.objs.size,acc,y,rfl,rfl,hD8,hz8,n8⟩) (fun _ s9 ⟨_,H9,I9,_,n9⟩=>again I9 n9) fun _ _ z=>z
 have he:({newEnv scope s1.heap.objs.size X.env.globals (nc++cl) X.env.qual none .none (some X.env) builtinsNs with scope:=relabel scope X.env}:Env)=Pz scope (nc++cl) s1.heap.objs.size X.env:=rfl;exact Lr (loop _ rfl) (T.self _ 0 _ _ _ st1 (loop _ rfl))
theorem BB{X:Cx}{tg iter elt:Expr}{ifs:List Expr}{scope:Scope}{pos:Pos}{N':List Str}{ix:List Nat}{nl:Nat}{wi:TI}{g:TG}{tt:TT}{te:TE}
  (hc:X.calm=true) (S:UQ X N' ix scope) (hnl:N'.length=ix.length+nl) (hi:PI X tg iter wi)
  (blk: ∀(cl:List (Str×Addr)) (s1:Af) (H1:Hp) (fp:List Addr),Blk (b9 X N' scope cl s1 H1 fp) tg ifs elt g tt te)
  (hs: ∀x,foldedSetIterable iter X.env x=pure x:=by intro _;rfl):PE X (.ListComp elt [⟨tg,iter,ifs,0⟩] scope pos) (HA ix nl wi g tt te):=by
 intro aa s σ H Q I h;rw[eval_ListComp];obtain⟨cl,e1,e2,e3⟩:=LR (env:=X.env) (scope:=scope) fun y hy hf=>I.ok.has y.1 (S.free y hy hf);refine Hm (use:=none) (cl:=cl) rfl hs e1 S.kind S.names (Aw (hi aa s σ H _ I h) (fun xv s₁ h₁=>Aw h₁ (fun itv s₂ h₂=> ?_) fun _ _ e=>e) fun _ _ e=>e);obtain⟨it,fp,tn,J,H2,e,I2,T,st2,f2,q⟩:=h₂;subst e;refine OJ (Q:=Q) (RR:=fun acc C=>compPost (model X.prog X.w) X.A X.xe none (EP X aa σ Q) acc C) hc S hnl e2 e3 blk I2 T st2 f2 q ?_;intro D C s' H' I' hm hC1 hC2 hb hq;obtain⟨m,hm⟩:=hm;exact⟨m,hm,fun h'' sb=>⟨.ref D,H',hb σ s' h'' I' sb,rfl,hq⟩⟩
section
variable{X:Cx}{K:Ap}{ml:List Nat}{pi pt pe pu:Bool}{pos:Pos}{ix:List Nat}{nl:Nat}{f:VF}
noncomputable def RK(N N':List Str)(ix:List Nat)(names:List (Str×NameKind))(k:Str->Option NameKind):Bool:=
 names.all (fun y=>y.2 != .cell || names.lookup y.1==some .cell) && (names.all (fun y=>y.2 != .local || names.lookup y.1==some .local) && (names.all (fun y=>y.2 != .free || (k y.1==some .cell || k y.1==some .free)) &&
  (decide N'.Nodup && ((At ix.length).all (fun j=>N'[j]? ==(ix[j]?).bind fun i=>N[i]?) && (N'.take ix.length).all fun x=>names.lookup x==some .free))))
theorem YL{N':List Str}{scope:Scope}(hk:scope.kind= .function)(h:RK X.N N' ix scope.names X.env.kindOf=true):UQ X N' ix scope:=by
 unfold RK at h;simp only[Ad,Io,Fu,bne_iff_ne,beq_iff_eq,decide_eq_true_eq,Ci] at h;obtain⟨h1,h2,h3,h4,h5,h6⟩:=h;exact⟨hk,fun y hy e=>(h1 y hy).resolve_left fun z=>z e,fun y hy e=>(h2 y hy).resolve_left fun z=>z e,fun y hy e=>(h3 y hy).resolve_left fun z=>z e,h4,h5,h6⟩
abbrev BlkC(X:Cx)(K:Ap)(N':List Str)(ix:List Nat)(scope:Scope)(tg:Expr)(ifs:List Expr)(elt:Expr)(gg:VG)(pt:Bool)(tb:VB)(pe:Bool)(fe:VF):Prop:=N'.Nodup-> ∀(cl:List (Str×Addr)) (s1:Af) (H1:Hp) (fp:List Addr),Blk (b9 X N' scope cl s1 H1 fp) tg ifs elt (DJ K (At ix.length) gg) (TB K (At ix.length) pt tb) (TV K (At ix.length) pe true true fe)
theorem ZV{tg iter elt:Expr}{ifs:List Expr}{scope:Scope}{fi:VI}{gg:VG}{tb:VB}{fe:VF}(N':List Str)(ix:List Nat)(nl:Nat)(hi:PI X tg iter (FR K ml pi fi))(blk:BlkC X K N' ix scope tg ifs elt gg pt tb pe fe)(hc:X.calm=true:=by rfl)(hk:scope.kind= .function:=by rfl)(hok:RK X.N N' ix scope.names X.env.kindOf=true:=by rfl)(hnl:N'.length=ix.length+nl:=by rfl)(hnd:ix.Nodup:=by decide)
  (hs: ∀x,foldedSetIterable iter X.env x=pure x:=by intro _;rfl):PE X (.ListComp elt [⟨tg,iter,ifs,0⟩] scope pos) (TN K ml (pi && pt && pe) (Z3 ix nl fi gg tb fe)):=
 (BB hc (YL hk hok) hnl hi (blk (YL hk hok).nd) hs).imp fun _ _ _ h=>HB hnd h
theorem KI{i:Nat}{y:Str}{py bo:Pos}{tg iter elt:Expr}{ifs:List Expr}{scope:Scope}{N':List Str}{wi:TI}{g:TG}{tt:TT}{te:TE}
  (hN:X.N.Nodup) (hi':X.N[i]? =some y) (hy:X.env.scope.names.lookup y=some .local)
  (hc:X.calm=true) (S:UQ X N' ix scope) (hnl:N'.length=ix.length+nl) (hi:PI X tg iter wi)
  (blk: ∀(cl:List (Str×Addr)) (s1:Af) (H1:Hp) (fp:List Addr),Blk (b9 X N' scope cl s1 H1 fp) tg ifs elt g tt te)
  (hsw:Gp (.ListComp elt [⟨tg,iter,ifs,0⟩] scope pos) (some (.Name y py)) bo.line X.env=pure true:=by rfl)
  (hs: ∀x,foldedSetIterable iter X.env x=pure x:=by intro _;rfl):PS X (.Assign [.Name y py] (.ListComp elt [⟨tg,iter,ifs,0⟩] scope pos) bo) (CN (HA ix nl wi g tt te) (JV i)):=by
 intro aa s σ H D I h;rw[Mj _ _ _ _ hsw];refine Aa (Ee (Aa ?_));show wpAny _ X.A (do let _<- comprehension (.ListComp elt [⟨tg,iter,ifs,0⟩] scope pos) scope X.env _ (Rx []) false (eval iter X.env) (some (Fn (.Name y py) X.env))) _ _ s;obtain⟨cl,e1,e2,e3⟩:=LR (env:=X.env) (scope:=scope) fun y hy hf=>I.ok.has y.1 (S.free y hy hf);refine Aa (Aw (Hm (use:=some (Fn (.Name y py) X.env)) (cl:=cl) (Q:=fun _ s'=>SP X aa D .next s') rfl hs e1 S.kind S.names
  (Aw (hi aa s σ H _ I h) (fun xv s₁ h₁=>Aw h₁ (fun itv s₂ h₂=> ?_) fun _ _ e=>e) fun _ _ e=>e)) (fun _ s' hq=>Ah (Ah hq)) fun _ _ e=>e)
 obtain⟨it,fp,tn,J,H2,e,I2,T,st2,f2,q⟩:=h₂;subst e;refine OJ (Q:=fun v H'=>D.nx (σ.set i (some v)) H') (RR:=fun acc C=>compPost (model X.prog X.w) X.A X.xe (some (Fn (.Name y py) X.env)) (fun _ s'=>SP X aa D .next s') acc C) hc S hnl e2 e3 blk I2 T st2 f2 q ?_;intro Dl C s' H' I' hm hC1 hC2 hb hq;obtain⟨m,hm⟩:=hm;show wpAny _ X.A (Fn (.Name y py) X.env (.ref Dl)) _ _ _;refine Gx (SA I' hN hi' (.inl hy) (v:= .ref Dl) rfl (fun s'' I'' ⟨a,hsb,ha⟩=> ?_) (.inr hy));have hCa:C≠a:=by
  rcases ha with z|z
  ·rw[z];exact hC1
  ·exact Dk (hC2 y a z)
 exact⟨m,hm.sameBut hsb hCa,fun h'' sb=>⟨_,H',hb _ s'' h'' I'' sb,hq⟩⟩
theorem DA{i:Nat}{y:Str}{py bo:Pos}{tg iter elt:Expr}{ifs:List Expr}{scope:Scope}{fi:VI}{gg:VG}{tb:VB}{fe:VF}(o:Bool)(hN:X.N.Nodup)(N':List Str)(ix:List Nat)(nl:Nat)(hi:PI X tg iter (FR K ml pi fi))(blk:BlkC X K N' ix scope tg ifs elt gg pt tb pe fe)(hi':X.N[i]? =some y:=by rfl)(hy:X.env.scope.names.lookup y=some .local:=by rfl)
  (hc:X.calm=true:=by rfl) (hk:scope.kind= .function:=by rfl) (hok:RK X.N N' ix scope.names X.env.kindOf=true:=by rfl) (hnl:N'.length=ix.length+nl:=by rfl) (hnd:ix.Nodup:=by decide) (hm:i∉ml:=by decide)
  (hsw:Gp (.ListComp elt [⟨tg,iter,ifs,0⟩] scope pos) (some (.Name y py)) bo.line X.env=pure true:=by rfl)
  (hs: ∀x,foldedSetIterable iter X.env x=pure x:=by intro _;rfl):PS X (.Assign [.Name y py] (.ListComp elt [⟨tg,iter,ifs,0⟩] scope pos) bo) (UJ K ml (aG i (if o then xO (Z3 ix nl fi gg tb fe) else xV (Z3 ix nl fi gg tb fe)))):=
 (KI hN hi' hy hc (YL hk hok) hnl hi (blk (YL hk hok).nd) hsw hs).imp fun D σ H h=>IZ (fun σ H Q z=>HB hnd (CZ (pu:=pi && pt && pe) z)) hm h
end
section
variable{X:Cx}{K:Ap}{ml:List Nat}{e a b c:Expr}{es:List Expr}{pi pt pe pu bt bi ps bs:Bool}{f:VF}{B B':Bs}{O:Nat->Option Addr}{H H0 H1 H':Hp}{σ:St}{δ δ':Ev}{v:V}{d:dF}{p:Addr}{pos:Pos}{ix:List Nat}{nl:Nat}
def zIZ(K:Ap)(N:Addr->Prop)(J:It)(H:Hp)(ds:List dF):Prop:= ∃xs:List V,cR K N H xs ds/\ ∀H2,bL H H2->(∀(i:Nat) (x:V),xs[i]? =some x->J.go i H2/\ ∀y H3,J.yld i H2 y H3->H3=H2/\y=x)/\J.stop xs.length H2
def TIVp(K:Ap)(ml:List Nat)(f:VI):TI:=fun σ H R=> ∃B O δ ds δ',aX K ml B O H σ δ/\f δ=some (ds,δ')/\ ∀J H',aX K ml B O H' σ δ'->bL H H'->zIZ K (Nn B O) J H' ds->R J H'
theorem CY{fi:VI}{gg:VG}{tb:VB}{fe:VF}(hnd:ix.Nodup){Q:VK}(h:TN K ml true (Z3 ix nl fi gg tb fe) σ H Q):
  HA ix nl (TIVp K ml fi) (DJ K (At ix.length) gg) (TB K (At ix.length) true tb) (TV K (At ix.length) true true true fe) σ H Q:=by
 obtain⟨B,O,δ,d,δ2,S,q,k⟩:=h;unfold Z3 at q;cases h1:fi δ with
 |none=>rw[h1] at q;cases q
 |some p=>
  obtain⟨ds,δ1⟩:=p;rw[h1] at q;have q:((aQ ix.length nl gg tb fe ds [] (cC ix δ1)).map fun q=>(dF.lst q.1,Z1 ix q.2 δ1))=some (d,δ2):=q;cases h2:aQ ix.length nl gg tb fe ds [] (cC ix δ1) with
  |none=>rw[h2] at q;cases q
  |some z=>
   obtain⟨res,δf⟩:=z;rw[h2] at q;cases q;refine⟨B,O,δ,ds,δ1,S,h1,fun J H0 S0 p0 wk D hD=> ?_⟩;obtain⟨els,rel,wk⟩:=wk;have hDO: ∀j,Oc ix O j≠some D:=fun j e=>by
    unfold Oc at e;cases hi:ix[j]? with
    |none=>rw[hi] at e;cases e
    |some i=>
     rw[hi] at e;obtain⟨o,q⟩:=S0.nin (.inr ⟨i,e⟩);rw[hD] at q;cases q
   have da: ∀kp j,ix.length<=j->(Bc ix B O H0 D kp).mu j=none:=fun kp j hj=>by
    show(ix[j]?).bind O=none;rw[Br hj];rfl
   refine⟨fun i m acc H1=>m=ds.length - i/\i<=ds.length/\ ∃(ah:List dF) (δc:Ev),δc.length=ix.length/\acc.length=ah.length∧
     aX K (At ix.length) (Bc ix B O H0 D (acc.zip ah)) (Oc ix O) H1 (bN ix σ++Bb nl none) (δc++Q3 nl)/\H1 D=some (.lst acc)/\bL H0 H1∧
     aQ ix.length nl gg tb fe (ds.drop i) ah δc=some (res,δf),
    ⟨ds.length,rfl,Cr _,[],cC ix δ1,by simp [cC],rfl,by
     rw[Kl];exact S0.inner hD hnd fun p hp=>(nomatch hp),cO,c6 hD,h2⟩,?_⟩
   rintro i m acc H1 ⟨rfl,hi,ah,δc,hlc,au,S1,hD1,bu,hc⟩;have w:=wk H1 bu;have lz:cR K (Nn (Bc ix B O H0 D (acc.zip ah)) (Oc ix O)) H1 els ds:=(rel.away hD _ _ PC).same bu;by_cases hlt:i<ds.length
   ·obtain ⟨ex,ex1,ex2⟩ := lz.get (i := i) (d := ds[i]) (by simp [hlt])
    obtain⟨go,yl⟩:=w.1 i ex ex1;rw[Cn hlt] at hc;simp only[aQ] at hc;cases g1:gg ds[i] (δc++Q3 nl) with
    |none=>rw[g1] at hc;cases hc
    |some δ3=>
     rw[g1] at hc;simp only[An] at hc;cases g2:tb δ3 with
     |none=>rw[g2] at hc;cases hc
     |some z=>
      obtain⟨kk,δ4⟩:=z;rw[g2] at hc;simp only[An] at hc;refine .inr ⟨go,fun af H'=> ∃(ah:List dF) (δc:Ev),δc.length=ix.length/\af.length=ah.length∧
       aX K (At ix.length) (Bc ix B O H0 D (af.zip ah)) (Oc ix O) H' (bN ix σ++Bb nl none) (δc++Q3 nl)/\H' D=some (.lst af)/\bL H0 H'∧
       aQ ix.length nl gg tb fe (ds.drop (i+1)) ah δc=some (res,δf),fun af H' w'=>⟨ds.length - (i+1),by lia,rfl,hlt,w'⟩,fun x H2 hy=> ?_⟩
      obtain⟨rfl,rfl⟩:=yl x H2 hy;have rx:=ex2;have sm:=bL.refl H2;refine⟨_,_,_,ds[i],δ3,S1.same sm,rx,g1,fun σ3 O3 S3 m3=> ?_⟩;have ln3:ix.length<=σ3.length:=by
       by_cases hz:ix.length=0
       ·lia
       ·have hj : ix.length - 1 < ix.length := by lia
        have:=m3 (ix.length - 1) (Ci.mpr hj);have hs:(bN ix σ++Bb nl none)[ix.length - 1]? ≠none:=by
         rw[Ai (by rw[Z2];exact hj)];simp[bN,hj]
        rw[<- this] at hs;have ll:ix.length - 1<σ3.length:=Ll fun z=>hs (Hf.mpr z);lia
      have hσ3:=SE ln3 m3;refine⟨hσ3,_,_,δ3,kk,δ4,S3,g2,fun H4 R4=> ?_⟩;have hD4:H4 D=some (.lst acc):=R4.frm _ _ (sm _ _ hD1) fun z=>by
       obtain⟨j,e⟩:=z;have:=(R4.sta.old j D e).1;exact absurd (.inl (.inr rfl)) this
      have ln4:ix.length<=δ4.length:=by rw[<- R4.sta.len];exact ln3
      cases kk with
      |false=>
       rw[if_neg Df] at hc;refine QS ⟨ah,δ4.take ix.length,by rw[Bp];lia,au,R4.sta.turn (da _) (Z2 ix σ) hσ3 ln4,hD4,?_,hc⟩;exact(bu.trans sm).trans (R4.pur rfl)
      |true=>
       rw[if_pos rfl] at hc;cases g3:fe δ4 with
       |none=>rw[g3] at hc;cases hc
       |some z=>
        obtain⟨dv,δ5⟩:=z;rw[g3] at hc;simp only[An] at hc;split at hc
        ·rename_i hz
         refine QT ⟨_,_,δ4,dv,δ5,R4.sta,g3,fun v H5 R5=> ?_⟩;have hD5:H5 D=some (.lst acc):=R5.frm _ _ hD4 fun z=>by
          obtain⟨j,e⟩:=z;have:=(R5.sta.old j D e).1;exact absurd (.inl (.inr rfl)) this
         have ln5:ix.length<=δ5.length:=by rw[<- R5.sta.len];exact ln3
         have S6:=R5.sta.turn (nl:=nl) (da _) (Z2 ix σ) hσ3 ln5;have hv:bU K (Nn (Bc ix B O H0 D (acc.zip ah)) (Oc ix O)) H5 (Nn (Bc ix B O H0 D (acc.zip ah)) (Oc ix O)) v dv:=by
          have hN: ∀a,Nn (Bc ix B O H0 D (acc.zip ah)) (Oc ix O) a->av (Bc ix B O H0 D (acc.zip ah)) O3 true a:=fun a h=>by
           rcases h with h|⟨j,h⟩
           ·exact .inl h
           ·refine .inr ⟨j,?_⟩
            have hj:j∈At ix.length:=R5.sta.par.1 j a h;rw[R5.sta.par.2 j hj];exact h
          exact R5.rep.mono hN hN
         have S7:=S6.withKp (kp:=(acc++[v]).zip (ah++[dv])) fun p hp=>by
          rw[Mh au] at hp;rcases Bo.mp hp with z|z
          ·exact S6.kep p z
          ·rw[Ar.mp (show p∈[(v,dv)] from z)]
           exact hv
         refine⟨hD5,by rw[au,Ct];exact hz,ah++[dv],δ5.take ix.length,by rw[Bp];lia,by simp[au],?_,cO,?_,hc⟩
         ·exact S7.writeZ (.inl (.inr rfl)) hD5 hD
         ·intro b o e
          have hb:b≠D:=fun z=>by rw[z,hD] at e;cases e
          rw[b7 hb];exact((bu.trans sm).trans ((R4.pur rfl).trans (R5.pur rfl))) b o e
        ·cases hc
   ·have e : i = ds.length := by lia
    subst e;rw[Di] at hc;cases hc;refine .inl ⟨by rw[<- rel.length];exact w.2,k D H1 ?_⟩;have fP:Fr (OA (Oc ix O)) H0 H1:=S1.frm;have hPO: ∀a,OA (Oc ix O) a->OA O a:=fun a q0=>by
     obtain⟨j,e⟩:=q0;unfold Oc at e;cases hi:ix[j]? with
     |none=>rw[hi] at e;cases e
     |some i=>rw[hi] at e;exact⟨i,e⟩
    have SL:=S0.laid (o:= .lst acc) hD;have fL:Fr (OA (Oc ix O)) (bH H0 D (.lst acc)) H1:=fun b o e n=>by
     by_cases hb:b=D
     ·subst hb
      rw[cO] at e;cases e;exact hD1
     ·rw[b7 hb] at e
      exact fP b o e n
    refine⟨SL.call (YK) (fun i=> ?_) fL hPO,(p0.fr (P:=OA O)).trans (fP.mono hPO),fun z=> ?_,.lst hD1 (WQ au fun p hp=>(S1.kep p hp).mono WN WN),S0.new hD,S0.fresh hD⟩
    ·by_cases de:i<δ1.length
     ·rcases XY (ix:=ix) (ss:=δf) (δ:=δ1) i de hlc.symm with⟨j,x,e1,e2,e3⟩|⟨e1,e2⟩
      ·have e4:(δf++Q3 nl)[j]? =some (.ow x):=by
        rw[Ai (Ae.mp e2).1];exact e2
       obtain⟨a,e5,_,w⟩:=S1.ow j x e4;refine .inr ⟨a,x,?_,e3,w.mono WN⟩;unfold Oc at e5;rw[e1] at e5;exact e5
      ·refine .inl ⟨e2,fun a ea ⟨j,ej⟩ => ?_⟩
       obtain⟨x,ex⟩:=S1.dom j a ej;unfold Oc at ej;cases hi:ix[j]? with
       |none=>rw[hi] at ej;cases ej
       |some i'=>
        rw[hi] at ej;have:i=i':=S0.inj i i' a ea ej;subst this;have hj:j<δf.length:=by rw[hlc];exact(Ae.mp hi).1
        rw[Ai hj] at ex;exact e1 j x hi ex
     ·refine .inl ⟨?_,fun a ea => ?_⟩
      ·rw[Br (by rw[YK];lia),Br (by lia)]
      ·obtain⟨x,ex⟩:=S0.dom i a ea
       exact absurd (Ae.mp ex).1 de
    ·exact p0.trans bu
theorem bL.sqT{a:Addr}{xs:List V}(s:bL H H')(h:W9 K H a xs):W9 K H' a xs:=Fr.tup (P:=fun _=>False) s.fr h
theorem zD5{tg:Expr}(hK:X.K=K)(h:PE X e (TV K ml true bt bi f))(hb:bi=true:=by rfl):PI X tg e (TIVp K ml (VM f)):=by
 subst hb;refine((AM (K:=K) hK h).or (zCV (K:=K) hK h)).imp fun σ H R ⟨B,O,δ,ds,δ',S,q,k⟩=> ?_;unfold VM at q;cases h1:f δ with
 |none=>rw[h1] at q;cases q
 |some p=>
  obtain⟨x,δ1⟩:=p;rw[h1] at q;cases x with
  |lst ds'=>
   cases q;refine .inl ⟨B,O,δ,_,δ1,S,h1,fun v H1 R1=> ?_⟩;obtain⟨a,xs,rfl,sq,r⟩:=R1.rep.lstE;refine⟨a,rfl,⟨xs,sq⟩,k _ H1 R1.sta (R1.pur rfl) ⟨xs,r,fun H2 sm=>⟨fun i x ex=>⟨⟨xs,x,sm.seq sq,ex⟩,fun y H3 hy=> ?_⟩,xs,sm.seq sq,Ag _⟩⟩⟩;obtain⟨e2,e3⟩:=hy;have:=e3 xs (sm.seq sq);rw[ex] at this;cases this;exact⟨e2,rfl⟩
  |tup ds'=>
   cases q;refine .inr ⟨B,O,δ,_,δ1,S,h1,fun v H1 R1=> ?_⟩;obtain⟨a,xs,rfl,sq,r⟩:=R1.rep.tupE;refine⟨a,rfl,⟨xs,sq⟩,k _ H1 R1.sta (R1.pur rfl) ⟨xs,r,fun H2 sm=>⟨fun i x ex=>⟨⟨xs,x,sm.sqT sq,ex⟩,fun y H3 hy=> ?_⟩,xs,sm.sqT sq,Ag _⟩⟩⟩;obtain⟨e2,e3⟩:=hy;have:=e3 xs (sm.sqT sq);rw[ex] at this;cases this;exact⟨e2,rfl⟩
  |_=>cases q
theorem DB{i:Nat}{y:Str}{py bo:Pos}{tg iter elt:Expr}{ifs:List Expr}{scope:Scope}{fi:VI}{gg:VG}{tb:VB}{fe:VF}(o:Bool)(hN:X.N.Nodup)(N':List Str)(ix:List Nat)(nl:Nat)(hi:PI X tg iter (TIVp K ml fi))(blk:BlkC X K N' ix scope tg ifs elt gg pt tb pe fe)(hi':X.N[i]? =some y:=by rfl)(hy:X.env.scope.names.lookup y=some .local:=by rfl)
  (hc:X.calm=true:=by rfl) (hk:scope.kind= .function:=by rfl) (hok:RK X.N N' ix scope.names X.env.kindOf=true:=by rfl) (hnl:N'.length=ix.length+nl:=by rfl) (hnd:ix.Nodup:=by decide) (hp:(pt && pe)=true:=by rfl) (hm:i∉ml:=by decide)
  (hsw:Gp (.ListComp elt [⟨tg,iter,ifs,0⟩] scope pos) (some (.Name y py)) bo.line X.env=pure true:=by rfl)
  (hs: ∀x,foldedSetIterable iter X.env x=pure x:=by intro _;rfl):PS X (.Assign [.Name y py] (.ListComp elt [⟨tg,iter,ifs,0⟩] scope pos) bo) (UJ K ml (aG i (if o then xO (Z3 ix nl fi gg tb fe) else xV (Z3 ix nl fi gg tb fe)))):=by
 obtain⟨h1,h2⟩:=(Ad _ _).mp hp;subst h1 h2;exact(KI hN hi' hy hc (YL hk hok) hnl hi (blk (YL hk hok).nd) hsw hs).imp fun D σ H h=>IZ (fun σ H Q z=>CY hnd (CZ (pu:=true) z)) hm h
end
section
variable{X:Cx}{K:Ap}{ml:List Nat}{e a b c:Expr}{es:List Expr}{pa ta ia pb tb ib pc tc ic pu bt bi ps bs:Bool}{fa fb fc f:VF}{pos p':Pos}{d:dF}{x:Str}
theorem vv(i:Nat)(hN:X.N[i]? =some x:=by rfl)(hv:Vis X.env.scope x:=by first|exact Mv rfl|exact Mw (Mv rfl)|exact Mw (Mw rfl))(hd:(x==("__debug__":Str))=false:=by decide)
  (hcd:(x==("__classdict__":Str))=false:=by decide):PE X (.Name x pos) (TV K ml true true true (fV i)):=zD6 (IE hN hv hd hcd)
theorem vo(i:Nat)(hN:X.N[i]? =some x:=by rfl)(hv:Vis X.env.scope x:=by first|exact Mv rfl|exact Mw (Mv rfl)|exact Mw (Mw rfl))(hd:(x==("__debug__":Str))=false:=by decide)
  (hcd:(x==("__classdict__":Str))=false:=by decide):PE X (.Name x pos) (TV K ml true false true (fO i)):=zD7 (IE hN hv hd hcd)
theorem ZU(hu:X.A.units+1<cLine)(ha:PE X a (TV K ml pa ta ia fa))(hb:PE X b (TV K ml pb tb ib fb))(hK:X.K=K:=by rfl)(hx:LD b:=by exact fun _ _=>rfl)(hs:(pb || (ta && ia))=true:=by rfl):PE X (.Subscript a b pos) (TV K ml (pa && pb) ia ia (f2 cI fa fb)):=
 zGK (kIxA hK hu) zIF ha hb hx hs
theorem veq(hu:X.A.units+64<cLine)(ha:PE X a (TV K ml pa ta ia fa))(hb:PE X b (TV K ml pb tb ib fb))(hK:X.K=K:=by rfl)(hs:(pb || (ta && ia))=true:=by rfl):PE X (.Compare a [.Eq] [b] pos) (TV K ml (pa && pb) true true (f2 XO fa fb)):=
 Y2 (kEqD hK hu) s_eq ha hb (aI _) hs
theorem WU(hu:X.A.units+64<cLine)(ha:PE X a (TV K ml pa ta ia fa))(hb:PE X b (TV K ml pb tb ib fb))(hK:X.K=K:=by rfl)(hs:(pb || (ta && ia))=true:=by rfl):PT X (.Compare a [.Eq] [b] pos) (TB K ml (pa && pb) (fB (f2 XO fa fb))):=
 bT (kEqD hK hu) s_eq ha hb (aI _) hs
theorem b8{kk j n:Nat}{qs:List Str}{mF:List Nat}{F:bF}{ff:Addr}{fs:HK}(D:Def X.prog X.w K X.mg X.base x kk qs (spV K mF n F) ff)(hr:XZ j X.A)(ha:PA X (e::es) (TAG K ml ps fs))(hK:X.K=K:=by rfl)(hk:kk<=j:=by decide)(hg:Gl X x:=by rfl)(hdb:(x==("__debug__":Str))=false:=by decide)
  (he:Aj (e::es) X.env=(false,eval e X.env)::Aj es X.env:=by rfl) (hpl:(Gc pos (Aj es X.env)).any (·.1)=false:=by rfl):
  PE X (.Call (.Name x p') (e::es) [] pos) (TV K ml (ps && mF.isEmpty) true true (cV n mF F fs)):=zAM hK D hr hk hg ha hdb he hpl
theorem XW(hm:X.mg "len"=none) (ha:PE X a (TV K ml pa ta ia fa)) (hK:X.K=K:=by rfl) (hg:Gl X "len":=by rfl) (he:Aj (a::[]) X.env=(false,eval a X.env)::Aj [] X.env:=by rfl):PE X (.Call (.Name "len" p') [a] [] pos) (TV K ml pa true true (f1 Y8 fa)):=
 C0 (zIB hK) zH4 hg hm zGB ha (by decide) (by decide) he
theorem vty{n:String}(hm:X.mg x=none)(hv:Bh x=some (.type n))(hg:Gl X x:=by rfl)(hn:x≠ "__name__":=by decide) (hd:(x==("__debug__":Str))=false:=by decide):PE X (.Name x pos) (TV K ml true true true (fC (.ty n))):=
 FL (zBD (v:= .ty n) hg hm hv rfl hn hd) fun _ _ _=> .ty _
theorem JD(hm:X.mg "isinstance"=none) (ha:PE X a (TV K ml pa ta ia fa)) (hb:PE X b (TV K ml pb tb ib fb)) (hK:X.K=K:=by rfl) (hg:Gl X "isinstance":=by rfl)
  (he:Aj (a::[b]) X.env=(false,eval a X.env)::Aj [b] X.env:=by rfl) (he2:Aj (b::[]) X.env=(false,eval b X.env)::Aj [] X.env:=by rfl) (hpl:(Gc pos (Aj [b] X.env)).any (·.1)=false:=by rfl) (hs:(pb || (ta && ia))=true:=by rfl):
  PE X (.Call (.Name "isinstance" p') [a,b] [] pos) (TV K ml (pa && pb) true true (f2 TC fa fb)):=C1 (kIsi hK) zH5 hg hm NX ha hb (by decide) (by decide) he he2 hpl hs
end
def A4(K:Ap)(x:Str)(st:Stmt)(f:Addr):Prop:= ∃(oc:Value) (od:Option Addr) (kV doc pm:Value) (an:Option Addr) (cdv ct:Value) (osl:Array (Option Value)),Pe K mainGlobals x=some (some (.ref f))∧
 K.lookup f=some ⟨oc,od,.func (Mu x x (YG st) (ZJ st) (cY st) .none kV doc pm an cdv ct),osl⟩/\Np K cdv x=true/\Mo K (.ref f)=true
theorem a4{K:Ap}{x:Str}{st:Stmt}{f:Addr}{oc:Value}{od:Option Addr}{kV doc pm:Value}{an:Option Addr}{cdv ct:Value}{osl:Array (Option Value)}(a:Pe K mainGlobals x=some (some (.ref f)))
  (b:K.lookup f=some ⟨oc,od,.func (Mu x x (YG st) (ZJ st) (cY st) .none kV doc pm an cdv ct),osl⟩) (c:Np K cdv x=true) (d:Mo K (.ref f)=true):A4 K x st f:=⟨oc,od,kV,doc,pm,an,cdv,ct,osl,a,b,c,d⟩
theorem ZK{P:Bk}{w:World}{K:Ap}{mg:Str->Option Value}{base h:Heap}{x:Str}{st:Stmt}{f:Addr}{ps:List Str}{sp:Sp}{k:Nat}(X:K.In h)(G:h.Ns mainGlobals mg)(p:A4 K x st f)(ok: ∀{fd:Gk},XM K x x st f fd->aP P w K mg base CX0 k f fd ps sp)
  (hb: ∀{kV doc pm:Value} {an:Option Addr} {cdv ct:Value} (us:List Value),us.length=ps.length->bindArgs (Mu x x (YG st) (ZJ st) (cY st) .none kV doc pm an cdv ct) ⟨us,[]⟩=pure (ps.zip us)):Def P w K mg base x k ps sp f:=by
 obtain⟨oc,od,kV,doc,pm,an,cdv,ct,osl,a,b,c,d⟩:=p;have U:=zA2 (st:=st) b c d;exact⟨Jn X G a,⟨_,ok U,U.binds fun _ _ _ _ _ _=>hb⟩,d⟩
theorem VU(P:Bk)(w:World)(K:Ap)(mg:Str->Option Value)(base:Heap){x qual:Str}{st:Stmt}{f:Addr}{fd:Gk}(N ps:List Str)(k:Nat)(g:VS)(ml:List Nat)(F:XM K x qual st f fd)(S:cQ N ps (cY st))
  (cj: ∀(cdv:Value) (A:Cz) (outer:List Env) (s:Af) (H:Hp) (E:XK) (hr:XZ k (A.deeper (Lj qual (cY st) s.heap.objs.size f cdv))) (_:(A.deeper (Lj qual (cY st) s.heap.objs.size f cdv)).units+64<cLine) (_:(A.deeper (Lj qual (cY st) s.heap.objs.size f cdv)).units+1<cLine),
   QP (JQ CX0 P w K mg base N qual (cY st) f cdv A outer s H E).nox (ZJ st) (UJ K ml g)) (hps:ps.length<=N.length:=by decide):aP P w K mg base CX0 (k+1) f fd ps (spV K ml ps.length (aD N.length ml g)):=
 XM.okV F S hps fun cdv A outer s H E hr=>cj cdv A outer s H E hr hr.units (zIJ hr)
theorem ZQ{N P:List Str}{sc:Scope}(a:sc.kind= .function:=by rfl)(b:sc.isCoroutine=false:=by rfl)(c:sc.isGenerator=false:=by rfl)(d:N.Nodup:=by decide+kernel)(e:N.take P.length=P:=by rfl)
  (f: ∀x∈P,sc.names.lookup x=some .local∨sc.names.lookup x=some .cell:=by decide+kernel) (g: ∀y∈sc.names,y.2≠Bj:=by decide+kernel):cQ N P sc:=⟨a,b,c,d,e,f,g⟩
theorem N0(elt tg1 it1 tg2 it2:Expr)(aw ai:List Expr)(scope:Scope)(pos:Pos)(it acc:Value)(env:Env):
  Py (.ListComp elt [⟨tg1,it1,aw,0⟩,⟨tg2,it2,ai,0⟩] scope pos) 0 it acc env=(do
   Oh it1.pos
   match<- pyNext it with
   |none=>pure (.done .next)
   |some v=>
    Eu tg1 it v
    Fn tg1 env v
    let mut ok:=true
    for c in aw do
     if ok then ok<- isTrue c env (eval c env)
    if ok then
     let x<- eval it2 env
     Oh it2.pos
     let x<- foldedSetIterable it2 env x
     let _<- runOwn (.compStart (.ListComp elt [⟨tg1,it1,aw,0⟩,⟨tg2,it2,ai,0⟩] scope pos) 1 (<- holding [x] (Qg x)) acc env) env
    Qr (.compLoop (.ListComp elt [⟨tg1,it1,aw,0⟩,⟨tg2,it2,ai,0⟩] scope pos) 0 it acc env)):=by rfl
theorem N3(elt tg1 it1 tg2 it2:Expr)(aw ai:List Expr)(scope:Scope)(pos:Pos)(it acc:Value)(env:Env):
  Py (.ListComp elt [⟨tg1,it1,aw,0⟩,⟨tg2,it2,ai,0⟩] scope pos) 1 it acc env=(do
   Oh it2.pos
   match<- pyNext it with
   |none=>pure (.done .next)
   |some v=>
    Eu tg2 it v
    Fn tg2 env v
    let mut ok:=true
    for c in ai do
     if ok then ok<- isTrue c env (eval c env)
    if ok then
     (do let _<- call (.builtin "list.append") [acc,<- eval elt env])
    Qr (.compLoop (.ListComp elt [⟨tg1,it1,aw,0⟩,⟨tg2,it2,ai,0⟩] scope pos) 1 it acc env)):=by rfl
theorem HU{prog:Bk}{w:World}{A:Cz}{s:Af}{elt tg1 it1 tg2 it2:Expr}{aw ai:List Expr}{scope:Scope}{pos:Pos}{it acc:Value}{env:Env}{R:Qi->Af->Prop}(I:Nat->Af->Prop)
  (turn : ∀ n s,I n s -> wpAny (model prog w) A (pyNext it) (fun r s₁ => match r with
   |none=>R (.ok .next) s₁
   | some v => wpAny (model prog w) A (Eu tg2 it v) (fun _ s₀ => wpAny (model prog w) A (Fn tg2 env v) (fun _ s₂ =>
     wpAny (model prog w) A (forIn ai true fun c r=>if r=true then do let ok<- isTrue c env (eval c env);pure (Cm ok) else pure (Cm r)) (fun ok s₃=>if ok=true then wpAny (model prog w) A (eval elt env) (fun x s₄=>
      wpAny (model prog w) A (call (.builtin "list.append") [acc,x]) (fun _ s₅=> ∃m,m<n/\I m s₅) (fun _ _=>False) s₄) (fun _ _=>False) s₃
      else∃m,m<n/\I m s₃) (fun _ _=>False) s₂)
     (fun _ _=>False) s₀) (fun _ _=>False) s₁) (fun _ _=>False) s)
  (n:Nat) (h:I n s):Gg (model prog w) A (.compLoop (.ListComp elt [⟨tg1,it1,aw,0⟩,⟨tg2,it2,ai,0⟩] scope pos) 1 it acc env) R s:=by
 refine Pd rfl I (fun n s hI=> ?_) n h;show wpAny _ A ((Py (.ListComp elt [⟨tg1,it1,aw,0⟩,⟨tg2,it2,ai,0⟩] scope pos) 1 it acc env).onRaise (fun x=>do Ql x env;Me x)) _ _ s;refine Qm ?_;rw[N3];refine Aa (Ee (Aa (Aw (turn n s hI) (fun r s₁ h₁=> ?_) fun _ _ h'=>h'.elim)));cases r with
 |none=>exact Ah h₁
 |some v=>
  refine Aa (Aw h₁ (fun _ s₀ h₀'=> ?_) fun _ _ h'=>h'.elim);refine Aa (Aw h₀' (fun _ s₂ h₂=> ?_) fun _ _ h'=>h'.elim);refine Aa (Aw h₂ (fun okb s₃ h₃=> ?_) fun _ _ h'=>h'.elim);cases okb with
  |false=>exact Ah ⟨rfl,h₃⟩
  |true=>exact Aa (Aa (Aw h₃ (fun x s₄ h₄=>Aa (Aw h₄ (fun _ s₅ h₅=>Ah (Ah ⟨rfl,h₅⟩)) fun _ _ h'=>h'.elim)) fun _ _ h'=>h'.elim))
theorem HS{prog:Bk}{w:World}{A:Cz}{s:Af}{elt tg1 it1 tg2 it2:Expr}{aw ai:List Expr}{scope:Scope}{pos:Pos}{it acc:Value}{env:Env}{R:Qi->Af->Prop}(I:Nat->Af->Prop)
  (turn : ∀ n s,I n s -> wpAny (model prog w) A (pyNext it) (fun r s₁ => match r with
   |none=>R (.ok .next) s₁
   | some v => wpAny (model prog w) A (Eu tg1 it v) (fun _ s₀ => wpAny (model prog w) A (Fn tg1 env v) (fun _ s₂ =>
     wpAny (model prog w) A (forIn aw true fun c r=>if r=true then do let ok<- isTrue c env (eval c env);pure (Cm ok) else pure (Cm r)) (fun ok s₃=>if ok=true then
      wpAny (model prog w) A (eval it2 env) (fun x s₄=>wpAny (model prog w) A (Qg x) (fun i2 s₅=>
       Gg (model prog w) A (.compStart (.ListComp elt [⟨tg1,it1,aw,0⟩,⟨tg2,it2,ai,0⟩] scope pos) 1 i2 acc env) (fun r s₆=>match r with| .ok _=> ∃m,m<n/\I m s₆| .error _=>False) s₅) (fun _ _=>False) s₄) (fun _ _=>False) s₃
      else∃m,m<n/\I m s₃) (fun _ _=>False) s₂)
     (fun _ _=>False) s₀) (fun _ _=>False) s₁) (fun _ _=>False) s)
  (n:Nat) (h:I n s) (hs: ∀x,foldedSetIterable it2 env x=pure x:=by intro _;rfl):Gg (model prog w) A (.compLoop (.ListComp elt [⟨tg1,it1,aw,0⟩,⟨tg2,it2,ai,0⟩] scope pos) 0 it acc env) R s:=by
 refine Pd rfl I (fun n s hI=> ?_) n h;show wpAny _ A ((Py (.ListComp elt [⟨tg1,it1,aw,0⟩,⟨tg2,it2,ai,0⟩] scope pos) 0 it acc env).onRaise (fun x=>do Ql x env;Me x)) _ _ s;refine Qm ?_;rw[N0];refine Aa (Ee (Aa (Aw (turn n s hI) (fun r s₁ h₁=> ?_) fun _ _ h'=>h'.elim)));cases r with
 |none=>exact Ah h₁
 |some v=>
  refine Aa (Aw h₁ (fun _ s₀ h₀'=> ?_) fun _ _ h'=>h'.elim);refine Aa (Aw h₀' (fun _ s₂ h₂=> ?_) fun _ _ h'=>h'.elim);refine Aa (Aw h₂ (fun okb s₃ h₃=> ?_) fun _ _ h'=>h'.elim);cases okb with
  |false=>exact Ah ⟨rfl,h₃⟩
  |true=>
   refine Aa (Aw h₃ (fun x s₄ h₄=> ?_) fun _ _ h'=>h'.elim);refine Aa (Ee (Aa (Hi (hs x) (Aa (Ck (Aw h₄ (fun i2 s₅ h₅=> ?_) fun _ _ h'=>h'.elim))))));refine Aa (wpAny_runOwn (Jx h₅ fun r s₆ h₆=> ?_));cases r with
   |ok f=>exact Ah ⟨rfl,h₆⟩
   |error e=>exact h₆.elim
theorem WF{prog:Bk}{w:World}{A:Cz}{s:Af}{elt tg1 it1 tg2 it2:Expr}{aw ai:List Expr}{scope:Scope}{pos:Pos}{it acc:Value}{env:Env}{R:Qi->Af->Prop}
  (h0:Gg (model prog w) A (.compLoop (.ListComp elt [⟨tg1,it1,aw,0⟩,⟨tg2,it2,ai,0⟩] scope pos) 1 it acc env) R s)
  (h : wpAny (model prog w) A (Qg it) (fun it' s' => Gg (model prog w) A (.compLoop (.ListComp elt [⟨tg1,it1,aw,0⟩,⟨tg2,it2,ai,0⟩] scope pos) 1 it' acc env) R s')
   (notedBy (model prog w) A env fun x s'=>R (.error x) s') s):
  Gg (model prog w) A (.compStart (.ListComp elt [⟨tg1,it1,aw,0⟩,⟨tg2,it2,ai,0⟩] scope pos) 1 it acc env) R s:=by
 refine codeAny_of_tree ?_;show wpAny _ _ ((compStart (.ListComp elt [⟨tg1,it1,aw,0⟩,⟨tg2,it2,ai,0⟩] scope pos) 1 it acc env).onRaise (fun x=>do Ql x env;Oh theWindowsPlace)) _ _ s;refine wpAny_notedAt ?_;unfold compStart;show wpAny _ _ (ask>>=_) _ _ s;refine Aa (wpAny_askSetting (wpAny_ite ?_));split
 ·first
   |exact Aa (Ah (Ah (And.intro rfl h0)))
   |exact Ah (And.intro rfl h0)
 ·first
   |exact Aa (Ge (Aa (Ee (Aa (Aw h (fun it' s' h'=>Ah (And.intro rfl h')) fun _ _ x=>x)))))
   |(refine Aa (Ge ?_);show wpAny _ _ (Oh it2.pos>>=_) _ _ s;exact Aa (Ee (Aa (Aw h (fun it' s' h'=>Ah (And.intro rfl h')) fun _ _ x=>x))))
def EmW(D:Addr)(wi:TI)(g:TG)(tt:TT)(te:TE)(ik:List V)(σ:St)(H:Hp)(N:List V->St->Hp->Prop):Prop:=
 wi σ H fun J H0=> ∃W:Nat->Nat->List V->St->Hp->Prop,(∃m,W 0 m ik σ H0)/\ ∀i m acc σ1 H1,W i m acc σ1 H1→
  (J.stop i H1/\N acc σ1 H1)∨
  (J.go i H1/\ ∃N2:List V->St->Hp->Prop,(∀af σ' H',N2 af σ' H'-> ∃m',m'<m/\W (i+1) m' af σ' H')∧
   ∀x H2,J.yld i H1 x H2->g x σ1 H2 fun σ2 H3=>tt σ2 H3 fun b H4=>if b=true then te σ2 H4 fun v H5=>H5 D=some (.lst acc)/\acc.length<sizeLine/\N2 (acc++[v]) σ2 (bH H5 D (.lst (acc++[v]))) else N2 acc σ2 H4)
theorem zIQ{Y:Cx}{elt tg1 it1 tg2 it2:Expr}{aw ai:List Expr}{scope:Scope}{pos:Pos}{wi:TI}{g:TG}{tt:TT}{te:TE}{aa:List (Addr×Obj)}{s:Af}{σ:St}{H:Hp}{D:Addr}{ik:List V}{N:List V->St->Hp->Prop}
  (hc:Y.calm=true) (hxe:Y.xe=fun _ _=>False) (hi:PI Y tg2 it2 wi) (hg:PG Y tg2 g) (ht:PTs Y ai tt) (he:PE Y elt te) (I:cT Y aa σ H s) (h:EmW D wi g tt te ik σ H N):
  wpAny (model Y.prog Y.w) Y.A (eval it2 Y.env) (fun x s₄=>wpAny (model Y.prog Y.w) Y.A (Qg x) (fun i2 s₅=>
   Gg (model Y.prog Y.w) Y.A (.compStart (.ListComp elt [⟨tg1,it1,aw,0⟩,⟨tg2,it2,ai,0⟩] scope pos) 1 i2 (.ref D) Y.env) (fun r s₆=>match r with| .ok _=> ∃af σ' H',cT Y aa σ' H' s₆/\N af σ' H'| .error _=>False) s₅) (fun _ _=>False) s₄) (fun _ _=>False) s:=by
 have nx: ∀{α:Sort _} {x:Value} {s:Af},Y.xe x s->α:=fun z=>by rw[hxe] at z;exact z.elim
 refine Aw (hi aa s σ H _ I h) (fun v s1 h1=>Aw h1 (fun itv s2 h2=> ?_) fun _ _ z=>nx z) fun _ _ z=>nx z;obtain⟨it,fp,tn,J,H2,e,I2,T,st2,f2,W,⟨m0,w0⟩,turn⟩:=h2;subst e;have stat: ∀{H':Hp},(∀b∈fp,H' b=none)-> ∀b∈fp,RE Y aa H' b:=fun hn b hb=>⟨hn b hb,(f2 b hb).2⟩;have loop: ∀s₃:Af,s₃=s2->Gg (model Y.prog Y.w) Y.A (.compLoop (.ListComp elt [⟨tg1,it1,aw,0⟩,⟨tg2,it2,ai,0⟩] scope pos) 1 (.ref it) (.ref D) Y.env) (fun r s₆=>match r with| .ok _=> ∃af σ' H',cT Y aa σ' H' s₆/\N af σ' H'| .error _=>False) s₃:=by
  rintro s₃ rfl;refine HU (fun n s'=> ∃i σ' H' acc,cT Y aa σ' H' s'/\tn i s'.heap/\(∀b∈fp,H' b=none)/\W i n acc σ' H') ?_ m0 ⟨0,σ,H2,ik,I2,st2,fun b hb=>(f2 b hb).1,w0⟩;rintro n s3 ⟨i,σ3,H3,acc,I3,st3,fr3,w3⟩;rcases turn i n acc σ3 H3 w3 with⟨stop,qn⟩|⟨go,N2,hN,step⟩
  ·refine Aw (T.done Y rfl rfl rfl hc i aa s3 σ3 H3 (fun _ _ => False) I3 (stat fr3) st3 stop) (fun r s4 ⟨hr,I4⟩ => ?_) fun _ _ z => z
   subst hr;exact⟨acc,σ3,H3,I4,qn⟩
  ·refine Aw (T.item Y rfl rfl rfl hc i aa s3 σ3 H3 (fun _ _ => False) I3 (stat fr3) st3 go) (fun r s4 ⟨u,hr,h4⟩ => ?_) fun _ _ z => z
   subst hr;refine Aw h4 (fun _ s5 ⟨x,H5,I5,r5,y5,st5,fr5⟩=> ?_) fun _ _ z=>z;have I5':=I5.pinned (stat fr5) (T.obj _ _ st5);refine Aw (hg _ s5 σ3 H5 x u _ I5' r5 (step x H5 y5)) (fun _ s6 ⟨σ6,H6,I6,q6⟩=> ?_) fun _ _ z=>nx z;have again: ∀{H7:Hp} {s7:Af} {af:List V},cT Y (aa++UF fp s5.heap) σ6 H7 s7->N2 af σ6 H7-> ∃m,m<n/\ ∃i σ' H' acc,cT Y aa σ' H' s7/\tn i s7.heap/\(∀b∈fp,H' b=none)/\W i m acc σ' H':=fun{H7 s7 af} I7 n7=>by
    obtain⟨m',hm,w7⟩:=hN af σ6 H7 n7;refine⟨m',hm,i+1,σ6,H7,af,I7.unpinned,T.keep _ _ _ st5 fun b hb o e=>(I7.pin (b,o) (Av _ (Av _ (ZP hb e)))).1,fun b hb=> ?_,w7⟩;obtain⟨o,e,d⟩:=T.obj _ _ st5 b hb;exact(I7.pin (b,o) (Av _ (Av _ (ZP hb e)))).2.1
   refine Aw (ht _ s6 σ6 H6 _ I6 q6) (fun okb s7 ⟨H7,I7,q7⟩=> ?_) fun _ _ z=>nx z;cases okb with
   |false=>exact again I7 q7
   |true=>
    refine Aw (he _ s7 σ6 H7 _ I7 q7) (fun v s8 ⟨y,H8,I8,r8,hD8,hz8,n8⟩=> ?_) fun _ _ z=>nx z;refine Aw (bM (X:=Y) _ s8 σ6 H8 (.ref D) [y] (.ref D) [v] (fun _ H9=>N2 (acc++[y]) σ6 H9) I8 rfl (.cons r8 .nil)
     ⟨D,acc,y,rfl,rfl,hD8,hz8,n8⟩) (fun _ s9 ⟨_,H9,I9,_,n9⟩=>again I9 n9) fun _ _ z=>nx z
 exact WF (loop _ rfl) (T.self _ 0 _ _ _ st2 (loop _ rfl))
structure Blk2(Y:Cx)(tg:Expr)(ifs:List Expr)(tg2 it2:Expr)(ai:List Expr)(elt:Expr)(g:TG)(tt:TT)(wi2:TI)(g2:TG)(tt2:TT)(te:TE):Prop where
 tg:PG Y tg g
 ts:PTs Y ifs tt
 it:PI Y tg2 it2 wi2
 tg2:PG Y tg2 g2
 ts2:PTs Y ai tt2
 el:PE Y elt te
def zAF(D:Addr)(ix:List Nat)(nl:Nat)(J:It)(g:TG)(tt:TT)(wi2:TI)(g2:TG)(tt2:TT)(te:TE)(σ:St)(H0:Hp)(Q:Hp->Prop):Prop:=
 ∃W:Nat->Nat->List V->Hp->Prop,(∃m,W 0 m [] (bH H0 D (.lst [])))/\ ∀i m acc H1,W i m acc H1→
  (J.stop i H1/\Q H1)∨
  (J.go i H1/\ ∃N:List V->Hp->Prop,(∀af H',N af H'-> ∃m',m'<m/\W (i+1) m' af H')∧
   ∀x H2,J.yld i H1 x H2->g x (bN ix σ++Bb nl none) H2 fun σ2 H3=>σ2.take ix.length=bN ix σ∧
    tt σ2 H3 fun b H4=>if b=true then EmW D wi2 g2 tt2 te acc σ2 H4 (fun af σ' H'=>σ'.take ix.length=bN ix σ/\N af H') else N acc H4)
def CP(ix:List Nat)(nl:Nat)(wi:TI)(g:TG)(tt:TT)(wi2:TI)(g2:TG)(tt2:TT)(te:TE):TE:=fun σ H Q=>wi σ H fun J H0=> ∀D,H0 D=none->zAF D ix nl J g tt wi2 g2 tt2 te σ H0 fun H'=>Q (.ref D) H'
theorem HR{X:Cx}{aa:List (Addr×Obj)}{σ:St}{H2:Hp}{s2:Af}{E:Value->Af->Prop}{tg iter tg2 it2 elt:Expr}{ifs ai:List Expr}{scope:Scope}{pos:Pos}{N':List Str}{ix:List Nat}{nl:Nat}{g g2:TG}{tt tt2:TT}{wi2:TI}{te:TE}
  {cl:List (Str×Addr)} {J:It} {fp:List Addr} {it:Addr} {tn:Nat->Heap->Prop} {Q:V->Hp->Prop} {RR:Value->Addr->Qi->Af->Prop}
  (hs2: ∀(env:Env) (x:Value),foldedSetIterable it2 env x=pure x) (hc:X.calm=true) (S:UQ X N' ix scope) (hnl:N'.length=ix.length+nl)
  (bm: ∀x c,cl.lookup x=some c->X.env.cells.lookup x=some c) (gh: ∀x,(x,Bj)∈scope.names-> ∃c,cl.lookup x=some c)
  (blk: ∀(cl:List (Str×Addr)) (s1:Af) (H1:Hp) (fp:List Addr),Blk2 (b9 X N' scope cl s1 H1 fp) tg ifs tg2 it2 ai elt g tt wi2 g2 tt2 te)
  (I2:cT X aa σ H2 s2) (T:LG X.prog X.w X.K tg J fp it tn) (st2:tn 0 s2.heap) (f2: ∀b∈fp,RE X aa H2 b)
  (h: ∀D,H2 D=none->zAF D ix nl J g tt wi2 g2 tt2 te σ H2 fun H'=>Q (.ref D) H')
  (fin: ∀(D C:Addr) (s':Af) (H':Hp),cT X aa σ H' s'->(∃m,s'.heap.Ns C m)->C≠X.env.locals->(∀x c,X.env.cells.lookup x=some c->c≠C)→
   (∀(σ':St) (s'':Af) (h'':Heap),cT X aa σ' H' s''->Fd C s''.heap h''->cT X aa σ' H' {s'' with heap:=h''})->Q (.ref D) H'->RR (.ref D) C (.ok .next) s'):
  wpAny (model X.prog X.w) X.A (Rx []) (fun acc s₃=>wpAny (model X.prog X.w) X.A (Kb scope X.env.globals cl [] X.env.qual none .none (some X.env)) (fun gj s₄=>
   Gg (model X.prog X.w) X.A (.compStart (.ListComp elt [⟨tg,iter,ifs,0⟩,⟨tg2,it2,ai,0⟩] scope pos) 0 (.ref it) acc {gj with scope:=relabel scope X.env}) (RR acc gj.locals) s₄) E s₃) E s2:=by
 refine Co (Q1 ?_);dsimp only;have I1:cT X aa σ (bH H2 s2.heap.objs.size (.lst [])) {s2 with heap:=s2.heap.push {cls:= .type "list",dict:=none,data:= .seq ([]:List Value).toArray}}:=
  I2.lnew (t':=s2.toks) (ys:=[]) (its:=[]) .nil (Cr _)
 have hDn:H2 s2.heap.objs.size=none:=I2.hok.fresh (Ag _);obtain⟨W,⟨m0,w0⟩,turn⟩:=h _ hDn;generalize hs1:({s2 with heap:=s2.heap.push {cls:= .type "list",dict:=none,data:= .seq ([]:List Value).toArray}}:Af)=s1 at I1;have cg:s2.heap.push {cls:= .type "list",dict:=none,data:= .seq ([]:List Value).toArray}=s1.heap:=by rw[<- hs1]
 rw[cg];have old: ∀b o,s1.heap.get? b=some o->(Kn (s1.heap.push {cls:= .type "dict",data:= .dict #[]}) scope.names).get? b=some o:=fun b o e=>Jm _ _ _ _ (Ac _ e);have hns₁:(Kn (s1.heap.push {cls:= .type "dict",data:= .dict #[]}) scope.names).Ns s1.heap.objs.size (fun _=>none):=(Sx s1.heap (.type "dict")).keeps fun b o e=>Jm _ _ _ _ e;have okc:=cellsFrom_ok scope.names (s1.heap.push {cls:= .type "dict",data:= .dict #[]}) (s1.heap.objs.size+1) [] ⟨fun _ _ hm=>(nomatch hm),Kj⟩ (by rw[Cy];exact Ag _);rw[Cy] at okc;generalize hz1:Kn (s1.heap.push {cls:= .type "dict",data:= .dict #[]}) scope.names=h₁ at old hns₁ okc;rw[U9];generalize hnc:cellsFrom (s1.heap.objs.size+1) scope.names []=nc at okc;have ncm: ∀x c,nc.lookup x=some c->(x,Bx)∈scope.names/\h₁.IsCell c none/\s1.heap.objs.size+1<=c:=fun x c e=>by
  have hm:=Bq e;exact⟨LP (n:=s1.heap.objs.size+1) (by rw[hnc];exact hm),okc.empty x c hm⟩
 have nch: ∀x,(x,Bx)∈scope.names-> ∃c,nc.lookup x=some c:=fun x h=>by
  obtain⟨c,hc⟩:=LO (n:=s1.heap.objs.size+1) h;rw[hnc] at hc;exact UB hc
 have du: ∀b∈fp,b<s2.heap.objs.size:=fun b hb=>by
  obtain⟨o,e,_⟩:=T.obj _ _ st2 b hb;exact Am e
 have ga:s1.heap.objs.size=s2.heap.objs.size+1:=by rw[<- cg,Cy]
 have iy: ∀b o,s2.heap.get? b=some o->s1.heap.get? b=some o:=fun b o e=>by rw[<- cg];exact Ac _ e
 have ci: ∀x c,cl.lookup x=some c->c<s1.heap.objs.size:=fun x c e=>by
  obtain⟨v,q⟩:=I1.cell x c (bm x c e);exact q.lt
 have my: ∀b∈EJ X.stack,b<s1.heap.objs.size:=fun b hb=>by
  obtain⟨_,o,ho,_⟩:=(I1.stack).mem hb;exact Am ho
 have okY:(b9 X N' scope (nc++cl) s1 (bH H2 s2.heap.objs.size (.lst [])) fp).Ok:=by
  refine⟨I1.ok.mod,S.kind,I1.ok.glob,I1.ok.blt,Ag _,fun x y c e1 e2=> ?_,fun x hx=> ?_,fun x c hf e=> ?_,I1.ok.hd,I1.ok.frames,.inl rfl,fun b hb=>⟨?_,fun x c e=> ?_⟩,fun b o e=> ?_,
   Bu I1.ok.bsz I1.sz,fun b o e hb=> ?_,fun b hb hb2=> ?_,I1.stack,I1.stkFree⟩
  ·rcases bC e1 with n1|⟨_,o1⟩
   ·rcases bC e2 with n2|⟨_,o2⟩
    ·exact Ny okc.apart (Bq n1) (Bq n2)
    ·exact absurd (Ax (ci y c o2) (Ek (ncm x c n1).2.2)) (Ca _)
   ·rcases bC e2 with n2|⟨_,o2⟩
    ·exact absurd (Ax (ci x c o1) (Ek (ncm y c n2).2.2)) (Ca _)
    ·exact I1.ok.inj x y c (bm x c o1) (bm y c o2)
  ·cases q:nc.lookup x with
   |some c=>exact⟨c,YF q⟩
   |none=>
    rcases X4 hx with h|h
    ·obtain⟨c,hc⟩:=gh x h
     exact⟨c,(XR q).trans hc⟩
    ·obtain⟨c,hc⟩:=nch x h
     rw[q] at hc;cases hc
  ·have hx:(x,Bx)∈scope.names:=Bq (beq_iff_eq.mp hf)
   obtain⟨c',hc'⟩:=nch x hx;have:=YF (m:=cl) hc';have e:(nc++cl).lookup x=some c:=e;rw[this] at e;cases e;exact Ek (ncm x c hc').2.2
  ·exact Bd (Ax (du b hb) (by show s2.heap.objs.size<=s1.heap.objs.size;rw[ga];exact Ew _))
  ·rcases bC e with n1|⟨_,o1⟩
   ·have h1:=du b hb
    have h2:=(ncm x c n1).2.2;rw[ga] at h2;exact fun z=>absurd (z▸h2) (Pr (Ax h1 (Bu (Ew _) (Ew _))))
   ·exact(f2 b hb).2.2.2.2.1 x c (bm x c o1)
  ·exact I1.bs b o e
  ·have:=(f2 b hb)
   obtain⟨o',e',_⟩:=T.obj _ _ st2 b hb;have hlt:=Ax (Am e) I1.ok.bsz;rcases this.2.2.2.1 with z|z
   ·exact I1.ok.noex b o e z
   ·exact absurd (Ax hlt z) (Ca _)
  ·rcases Ak.mp (I1.stkSub b hb2) with z|z
   ·exact(f2 b hb).2.1 z
   ·exact(f2 b hb).2.2.1 z
 have df:(bN ix σ++Bb nl none).length=N'.length:=by rw[Cd,Ik,hnl];simp[bN]
 have IY:cT (b9 X N' scope (nc++cl) s1 (bH H2 s2.heap.objs.size (.lst [])) fp) [] (bN ix σ++Bb nl none) (bH H2 s2.heap.objs.size (.lst [])) {s2 with heap:=h₁}:=by
  refine⟨okY,?_,I2.bare,Un.kept old,⟨_,hns₁,fun j x v e1 e2 e3=> ?_⟩,fun x c e=> ?_,I1.hok.fresh (Ag _),fun x c e=> ?_,fun p hp=>absurd (show p∈([]:List (Addr×Obj)) from hp) (by simp),I1.hok.kept old,df⟩
  ·show s2.os=s1.os
   rw[<- hs1]
  ·have hj:j<ix.length:=by
    by_cases hj:j<ix.length
    ·exact hj
    ·exfalso
     have hl:(bN ix σ).length=ix.length:=by simp[bN]
     rw[Bt (by rw[hl];lia),Cu] at e2;split at e2<;>cases e2
   have hl:(bN ix σ).length=ix.length:=by simp[bN]
   rw[Ai (by rw[hl];exact hj)] at e2;have hci:=S.cap j hj;obtain⟨i,hi⟩: ∃i,ix[j]? =some i:=⟨ix[j],by simp[hj]⟩;rw[hi] at hci;have hNi:X.N[i]? =some x:=by
    have:N'[j]? =X.N[i]? :=hci;rw[<- this];exact e1
   have hσ:σ[i]? =some (some v):=by
    unfold bN at e2;rw[Cq,hi] at e2;have e2':(σ[i]?).join=some v:=by simpa using e2
    cases q:σ[i]? with
    |none=>rw[q] at e2';cases e2'
    |some o=>rw[q] at e2';rw[show o=some v from e2']
   have hfl:scope.names.lookup x=some .free:=S.capf x (by
    rw[Im];exact⟨j,by rw[Cb hj];exact e1⟩)
   have az:(x,Bj)∈scope.names:=Bq hfl;have hpk:X.env.kindOf x=some .cell∨X.env.kindOf x=some .free:=by exact S.free (x,.free) az rfl
   have j3:Vis X.env.scope x:=by
    rcases hpk with z|z
    ·exact .inr (.inl z)
    ·exact .inr (.inr z)
   obtain⟨m,hn,j5⟩:=I1.loc;obtain⟨u,ru,l⟩:=j5 i x v hNi hσ j3;refine⟨u,ru,?_⟩;rcases l with⟨hk,_⟩|⟨hk,c,ec,z⟩
   ·rcases hpk with q|q<;>rw[hk] at q<;>cases q
   ·obtain⟨c',hc'⟩:=gh x az
    have:c'=c:=by
     have:=bm x c' hc';rw[ec] at this;exact(Ce this).symm
    subst this;have j4:nc.lookup x=none:=by
     cases q:nc.lookup x with
     |none=>rfl
     |some d=>
      have:=S.cel (x,.cell) (ncm x d q).1 rfl;rw[hfl] at this;cases this
    refine .inr ⟨WP hfl,c',(XR j4).trans hc',?_⟩
    ·obtain⟨o,ho,hd⟩:=z
     exact⟨o,old _ _ ho,hd⟩
  ·rcases bC e with n1|⟨_,o1⟩
   ·exact⟨none,(ncm x c n1).2.1⟩
   ·obtain⟨v,o,ho,hd⟩:=I1.cell x c (bm x c o1)
    exact⟨v,o,old _ _ ho,hd⟩
  ·rcases bC e with n1|⟨_,o1⟩
   ·exact I1.hok.fresh (Ek (ncm x c n1).2.2)
   ·exact I1.freeC x c (bm x c o1)
 have j7: ∀{pY:List (Addr×Obj)} {σ':St} {H':Hp} {s':Af},cT (b9 X N' scope (nc++cl) s1 (bH H2 s2.heap.objs.size (.lst [])) fp) pY σ' H' s'->cT X aa σ H' s':=fun{pY σ' H' s'} J'=>
  I1.call' J'.os J'.base J'.hok J'.bare fun b hb=>⟨(f2 b hb).2.2.2.1,(f2 b hb).2.1,(f2 b hb).2.2.2.2.1,(f2 b hb).2.2.2.2.2⟩
 have stat: ∀{H':Hp} {pY:List (Addr×Obj)},(∀b∈fp,H' b=none)->pY=[]-> ∀b∈fp,RE (b9 X N' scope (nc++cl) s1 (bH H2 s2.heap.objs.size (.lst [])) fp) pY H' b:=fun{H' pY} hn hp b hb=>by
  subst hp;refine⟨hn b hb,(okY.exf b hb).1,okY.exfs b hb,.inl hb,(okY.exf b hb).2,fun p hp=>absurd (show p∈([]:List (Addr×Obj)) from hp) (by simp)⟩
 have st1:tn 0 h₁:=T.keep 0 s2.heap h₁ st2 fun b hb o e=>old b o (iy b o e);have fr1: ∀b∈fp,(bH H2 s2.heap.objs.size (.lst [])) b=none:=fun b hb=>by
  rw[b7 (Bd (du b hb))];exact(f2 b hb).1
 have loop: ∀s₃:Af,s₃={s2 with heap:=h₁}→
   Gg (model X.prog X.w) X.A (.compLoop (.ListComp elt [⟨tg,iter,ifs,0⟩,⟨tg2,it2,ai,0⟩] scope pos) 0 (.ref it) (.ref s2.heap.objs.size) (Pz scope (nc++cl) s1.heap.objs.size X.env)) (RR (.ref s2.heap.objs.size) s1.heap.objs.size) s₃:=by
  rintro s₃ rfl;refine HS (hs:=hs2 _) (fun n s'=> ∃i σ' H' acc,cT (b9 X N' scope (nc++cl) s1 (bH H2 s2.heap.objs.size (.lst [])) fp) [] σ' H' s'/\σ'.take ix.length=bN ix σ/\tn i s'.heap/\(∀b∈fp,H' b=none)/\W i n acc H') ?_ m0
   ⟨0,_,_,[],IY,by rw[Cw (by simp[bN])];exact Cf (by simp[bN]),st1,fr1,w0⟩
  rintro n s' ⟨i,σ',H',acc,J',hσ,st',fr',w'⟩;have Jc:cT (b9 X N' scope (nc++cl) s1 (bH H2 s2.heap.objs.size (.lst [])) fp) [] (bN ix σ++Bb nl none) H' s':=by
   refine J'.weak (by rw[df];exact J'.len.symm) fun j v e=> ?_;have hl:(bN ix σ).length=ix.length:=by simp[bN]
   by_cases hj:j<ix.length
   ·rw [Ai (by rw [hl];exact hj),<- hσ,Cb hj] at e
    exact e
   ·rw [Bt (by rw [hl];lia),Cu] at e
    split at e<;>cases e
  rcases turn i n acc H' w' with⟨stop,q⟩|⟨go,N,hN,step⟩
  ·refine Aw (T.done (b9 X N' scope (nc ++ cl) s1 (bH H2 s2.heap.objs.size (.lst [])) fp) rfl rfl rfl hc i [] s' _ H' (fun _ _ => False) Jc (stat fr' rfl) st' stop) (fun r s4 ⟨hr,I4⟩ => ?_) fun _ _ z => z
   subst hr;have IX:=j7 I4;obtain⟨m,hm,_⟩:=I4.loc;exact fin _ _ s4 H' IX ⟨m,hm⟩ (Gq I1.lt) (fun x c e z=>by
    obtain⟨v,q⟩:=I1.cell x c e;have:=q.lt;rw[z] at this;exact Ca _ this) (fun σ'' s'' h'' I'' sb=>cT.offNew I1 I'' I4.free fun b o hb e=>(sb.2 b hb).trans e) q
  ·refine Aw (T.item (b9 X N' scope (nc ++ cl) s1 (bH H2 s2.heap.objs.size (.lst [])) fp) rfl rfl rfl hc i [] s' _ H' (fun _ _ => False) Jc (stat fr' rfl) st' go) (fun r s4 ⟨u,hr,h4⟩ => ?_) fun _ _ z => z
   subst hr;refine Aw h4 (fun _ s5 ⟨x,H5,I5,r5,y5,st5,fr5⟩=> ?_) fun _ _ z=>z;have I5':=I5.pinned (stat fr5 rfl) (T.obj _ _ st5);obtain⟨btg,bts,bit,bt2,bs2,bel⟩:=blk (nc++cl) s1 (bH H2 s2.heap.objs.size (.lst [])) fp;refine Aw (btg _ s5 _ H5 x u _ I5' r5 (step x H5 y5)) (fun _ s6 ⟨σ6,H6,I6,hσ6,q6⟩=> ?_) fun _ _ z=>z;have again: ∀{σ7:St} {H7:Hp} {s7:Af} {af:List V},σ7.take ix.length=bN ix σ->cT (b9 X N' scope (nc++cl) s1 (bH H2 s2.heap.objs.size (.lst [])) fp) ([]++UF fp s5.heap) σ7 H7 s7->N af H7→
     ∃m,m<n/\ ∃i σ' H' acc,cT (b9 X N' scope (nc++cl) s1 (bH H2 s2.heap.objs.size (.lst [])) fp) [] σ' H' s7/\σ'.take ix.length=bN ix σ/\tn i s7.heap/\(∀b∈fp,H' b=none)/\W i m acc H':=fun{σ7 H7 s7 af} hσ7 I7 n7=>by
    obtain⟨m',hm,w7⟩:=hN af H7 n7;refine⟨m',hm,i+1,σ7,H7,af,I7.unpinned,hσ7,T.keep _ _ _ st5 fun b hb o e=>(I7.pin (b,o) (Av _ (Av _ (ZP hb e)))).1,fun b hb=> ?_,w7⟩;obtain⟨o,e,d⟩:=T.obj _ _ st5 b hb;exact(I7.pin (b,o) (Av _ (Av _ (ZP hb e)))).2.1
   refine Aw (bts _ s6 σ6 H6 _ I6 q6) (fun okb s7 ⟨H7,I7,q7⟩=> ?_) fun _ _ z=>z;cases okb with
   |false=>exact again hσ6 I7 q7
   |true=>
    refine Aw (zIQ (Y:=b9 X N' scope (nc++cl) s1 (bH H2 s2.heap.objs.size (.lst [])) fp) hc rfl bit bt2 bs2 bel I7 q7) (fun x s8 h8=>Aw h8 (fun i2 s9 h9=>Jx h9 fun r s10 h10=> ?_) fun _ _ z=>z) fun _ _ z=>z;cases r with
    |ok f=>
     obtain⟨af,σ',H',I9,hσ9,n9⟩:=h10;exact again hσ9 I9 n9
    |error e=>exact h10.elim
 have he:({newEnv scope s1.heap.objs.size X.env.globals (nc++cl) X.env.qual none .none (some X.env) builtinsNs with scope:=relabel scope X.env}:Env)=Pz scope (nc++cl) s1.heap.objs.size X.env:=rfl;exact Lr (loop _ rfl) (T.self _ 0 _ _ _ st1 (loop _ rfl))
noncomputable def N5(gg:VG)(tb:VB)(fe:VF):List dF->List dF->Ev->Option (List dF×Ev)
 |[],acc,δ=>some (acc,δ)
 |d::r,acc,δ=>(gg d δ).bind fun δ1=>(tb δ1).bind fun p=>if p.1=true then(fe p.2).bind fun q=>if acc.length<16777216 then N5 gg tb fe r (acc++[q.1]) q.2 else none else N5 gg tb fe r acc p.2
noncomputable def YM(n nl:Nat)(gg:VG)(tb:VB)(fi2:VI)(gg2:VG)(tb2:VB)(fe:VF):List dF->List dF->Ev->Option (List dF×Ev)
 |[],acc,δ=>some (acc,δ)
 |d::r,acc,δ=>(gg d (δ++Q3 nl)).bind fun δ1=>(tb δ1).bind fun p=>if p.1=true then(fi2 p.2).bind fun u=>(N5 gg2 tb2 fe u.1 acc u.2).bind fun q=>YM n nl gg tb fi2 gg2 tb2 fe r q.1 (q.2.take n) else YM n nl gg tb fi2 gg2 tb2 fe r acc (p.2.take n)
noncomputable def RP(ix:List Nat)(nl:Nat)(fi:VI)(gg:VG)(tb:VB)(fi2:VI)(gg2:VG)(tb2:VB)(fe:VF):VF:=fun δ=>(fi δ).bind fun p=>(YM ix.length nl gg tb fi2 gg2 tb2 fe p.1 [] (cC ix p.2)).map fun q=>(.lst q.1,Z1 ix q.2 p.2)
section
variable{X:Cx}{K:Ap}{ml:List Nat}{e a b c:Expr}{es:List Expr}{pi pt pe pi2 pt2 pu bt bi ps bs:Bool}{f:VF}{B B':Bs}{O:Nat->Option Addr}{H H0 H1 H':Hp}{σ:St}{δ δ':Ev}{v:V}{d:dF}{p:Addr}{pos:Pos}{ix:List Nat}{nl:Nat}
theorem CW{fi fi2:VI}{gg gg2:VG}{tb tb2:VB}{fe:VF}(hnd:ix.Nodup){Q:VK}(h:TN K ml (pi && (pt && pi2 && pt2 && pe)) (RP ix nl fi gg tb fi2 gg2 tb2 fe) σ H Q):
  CP ix nl (FR K ml pi fi) (DJ K (At ix.length) gg) (TB K (At ix.length) pt tb) (FR K (At ix.length) pi2 fi2) (DJ K (At ix.length) gg2) (TB K (At ix.length) pt2 tb2) (TV K (At ix.length) pe true true fe) σ H Q:=by
 obtain⟨B,O,δ,d,δ2,S,q,k⟩:=h;unfold RP at q;cases h1:fi δ with
 |none=>rw[h1] at q;cases q
 |some p=>
  obtain⟨ds,δ1⟩:=p;rw[h1] at q;have q:((YM ix.length nl gg tb fi2 gg2 tb2 fe ds [] (cC ix δ1)).map fun q=>(dF.lst q.1,Z1 ix q.2 δ1))=some (d,δ2):=q;cases h2:YM ix.length nl gg tb fi2 gg2 tb2 fe ds [] (cC ix δ1) with
  |none=>rw[h2] at q;cases q
  |some z=>
   obtain⟨res,δf⟩:=z;rw[h2] at q;cases q;refine⟨B,O,δ,ds,δ1,S,h1,fun J kps H0 S0 f0 p0 wk D hD=> ?_⟩;have hDO: ∀j,Oc ix O j≠some D:=fun j e=>by
    unfold Oc at e;cases hi:ix[j]? with
    |none=>rw[hi] at e;cases e
    |some i=>
     rw[hi] at e;obtain⟨o,q⟩:=S0.nin (.inr ⟨i,e⟩);rw[hD] at q;cases q
   have da: ∀kp j,ix.length<=j->(Bc ix B O H0 D kp).mu j=none:=fun kp j hj=>by
    show(ix[j]?).bind O=none;rw[Br hj];rfl
   refine⟨fun i m acc H1=>m=ds.length - i/\i<=ds.length/\ ∃(ah:List dF) (δc:Ev),δc.length=ix.length/\acc.length=ah.length∧
     aX K (At ix.length) (Bc ix B O H0 D (kps++acc.zip ah)) (Oc ix O) H1 (bN ix σ++Bb nl none) (δc++Q3 nl)/\H1 D=some (.lst acc)/\((pt && pi2 && pt2 && pe)=true->bL H0 H1)∧
     YM ix.length nl gg tb fi2 gg2 tb2 fe (ds.drop i) ah δc=some (res,δf),
    ⟨ds.length,rfl,Cr _,[],cC ix δ1,by simp [cC],rfl,by
     rw[Kl,Dn];exact S0.unkeep.inner hD hnd fun p hp=>S0.kep p (Bv _ hp),cO,fun _=>c6 hD,h2⟩,?_⟩
   rintro i m acc H1 ⟨rfl,hi,ah,δc,hlc,au,S1,hD1,bu,hc⟩;have w:=wk (Nn (Bc ix B O H0 D (kps++acc.zip ah)) (Oc ix O)) H1 fun p hp=>S1.kep p (Bv _ hp);by_cases hlt:i<ds.length
   ·obtain ⟨go,yl⟩ := w.1 i ds[i] (by simp [hlt])
    rw[Cn hlt] at hc;simp only[YM] at hc;cases g1:gg ds[i] (δc++Q3 nl) with
    |none=>rw[g1] at hc;cases hc
    |some δ3=>
     rw[g1] at hc;simp only[An] at hc;cases g2:tb δ3 with
     |none=>rw[g2] at hc;cases hc
     |some z=>
      obtain⟨kk,δ4⟩:=z;rw[g2] at hc;simp only[An] at hc;refine .inr ⟨go,fun af H'=> ∃(ah:List dF) (δc:Ev),δc.length=ix.length/\af.length=ah.length∧
       aX K (At ix.length) (Bc ix B O H0 D (kps++af.zip ah)) (Oc ix O) H' (bN ix σ++Bb nl none) (δc++Q3 nl)/\H' D=some (.lst af)/\((pt && pi2 && pt2 && pe)=true->bL H0 H')∧
       YM ix.length nl gg tb fi2 gg2 tb2 fe (ds.drop (i+1)) ah δc=some (res,δf),fun af H' w'=>⟨ds.length - (i+1),by lia,rfl,hlt,w'⟩,fun x H2 hy=> ?_⟩
      obtain⟨sm,rx⟩:=yl x H2 hy;refine⟨_,_,_,ds[i],δ3,S1.same sm,rx,g1,fun σ3 O3 S3 m3=> ?_⟩;have ln3:ix.length<=σ3.length:=by
       by_cases hz:ix.length=0
       ·lia
       ·have hj : ix.length - 1 < ix.length := by lia
        have:=m3 (ix.length - 1) (Ci.mpr hj);have hs:(bN ix σ++Bb nl none)[ix.length - 1]? ≠none:=by
         rw[Ai (by rw[Z2];exact hj)];simp[bN,hj]
        rw[<- this] at hs;have ll:ix.length - 1<σ3.length:=Ll fun z=>hs (Hf.mpr z);lia
      have hσ3:=SE ln3 m3;refine⟨hσ3,_,_,δ3,kk,δ4,S3,g2,fun H4 R4=> ?_⟩;have hD4:H4 D=some (.lst acc):=R4.frm _ _ (sm _ _ hD1) fun z=>by
       obtain⟨j,e⟩:=z;have:=(R4.sta.old j D e).1;exact absurd (.inl (.inr rfl)) this
      have ln4:ix.length<=δ4.length:=by rw[<- R4.sta.len];exact ln3
      cases kk with
      |false=>
       rw[if_neg Df] at hc;refine QS ⟨ah,δ4.take ix.length,by rw[Bp];lia,au,R4.sta.turn (da _) (Z2 ix σ) hσ3 ln4,hD4,fun z=> ?_,hc⟩;simp only[Ad] at z;exact((bu (by simp[z.1.1.1,z.1.1.2,z.1.2,z.2])).trans sm).trans (R4.pur z.1.1.1)
      |true=>
       rw[if_pos rfl] at hc;cases g3:fi2 δ4 with
       |none=>rw[g3] at hc;cases hc
       |some z=>
        obtain⟨ds2,δ5⟩:=z;rw[g3] at hc;simp only[An] at hc;cases g4:N5 gg2 tb2 fe ds2 ah δ5 with
        |none=>rw[g4] at hc;cases hc
        |some z2=>
         obtain⟨ig,δ2f⟩:=z2;rw[g4] at hc;simp only[An] at hc;refine QT ⟨_,_,δ4,ds2,δ5,R4.sta,g3,fun J2 fg H5 S5 f5 p5 wk2=> ?_⟩;have hD5:H5 D=some (.lst acc):=f5 _ _ hD4 fun z=>by
          obtain⟨j,e⟩:=z;have:=(R4.sta.old j D e).1;exact absurd (.inl (.inr rfl)) this
         refine⟨fun i2 m2 cn σ1 H6=>m2=ds2.length - i2/\i2<=ds2.length/\ ∃(ax:List dF) (δc1:Ev) (O1:Nat->Option Addr),cn.length=ax.length∧
           aX K (At ix.length) (Bc ix B O H0 D (fg++(kps++cn.zip ax))) O1 H6 σ1 δc1/\σ1.take ix.length=bN ix σ/\ix.length<=σ1.length/\H6 D=some (.lst cn)/\((pt && pi2 && pt2 && pe)=true->bL H0 H6)∧
           N5 gg2 tb2 fe (ds2.drop i2) ax δc1=some (ig,δ2f),
          ⟨ds2.length,rfl,Cr _,ah,δ5,_,au,S5,hσ3,ln3,hD5,fun z => by
           simp only[Ad] at z;exact(((bu (by simp[z.1.1.1,z.1.1.2,z.1.2,z.2])).trans sm).trans (R4.pur z.1.1.1)).trans (p5 z.1.1.2),g4⟩,?_⟩
         rintro i2 m2 cn σ1 H6 ⟨rfl,hi2,ax,δc1,O1,dg,S6,hσ1,ln1,hD6,iz,hc6⟩;have w2:=wk2 (Nn (Bc ix B O H0 D (fg++(kps++cn.zip ax))) O1) H6 fun p hp=>S6.kep p (Bv _ hp);by_cases db:i2<ds2.length
         ·obtain ⟨go2,yl2⟩ := w2.1 i2 ds2[i2] (by simp [db])
          rw[Cn db] at hc6;simp only[N5] at hc6;cases k1:gg2 ds2[i2] δc1 with
          |none=>rw[k1] at hc6;cases hc6
          |some δ7=>
           rw[k1] at hc6;simp only[An] at hc6;cases k2:tb2 δ7 with
           |none=>rw[k2] at hc6;cases hc6
           |some z3=>
            obtain⟨kk2,δ8⟩:=z3;rw[k2] at hc6;simp only[An] at hc6;refine .inr ⟨go2,fun af σ' H'=> ∃(ax:List dF) (δc1:Ev) (O1:Nat->Option Addr),af.length=ax.length∧
             aX K (At ix.length) (Bc ix B O H0 D (fg++(kps++af.zip ax))) O1 H' σ' δc1/\σ'.take ix.length=bN ix σ/\ix.length<=σ'.length/\H' D=some (.lst af)/\((pt && pi2 && pt2 && pe)=true->bL H0 H')∧
             N5 gg2 tb2 fe (ds2.drop (i2+1)) ax δc1=some (ig,δ2f),fun af σ' H' w'=>⟨ds2.length - (i2+1),by lia,rfl,db,w'⟩,fun x2 H7 hy2=> ?_⟩
            obtain⟨sm2,rx2⟩:=yl2 x2 H7 hy2;refine⟨_,_,_,ds2[i2],δ7,S6.same sm2,rx2,k1,fun σ7 O7 S7 m7=> ?_⟩;have hσ7:σ7.take ix.length=bN ix σ:=by
             rw[<- hσ1];refine Kk fun j=> ?_;rw[Jz,Jz];split
             ·rename_i hj
              exact m7 j (Ci.mpr hj)
             ·rfl
            have ln7:ix.length<=σ7.length:=by
             have:(σ7.take ix.length).length=ix.length:=by rw[hσ7,Z2]
             rw[Bp] at this;lia
            refine⟨_,_,δ7,kk2,δ8,S7,k2,fun H8 R8=> ?_⟩;have hD8:H8 D=some (.lst cn):=R8.frm _ _ (sm2 _ _ hD6) fun z=>by
             obtain⟨j,e⟩:=z;have:=(R8.sta.old j D e).1;exact absurd (.inl (.inr rfl)) this
            cases kk2 with
            |false=>
             rw[if_neg Df] at hc6;refine QS ⟨ax,δ8,_,dg,R8.sta,hσ7,ln7,hD8,fun z=> ?_,hc6⟩;have z0:=z;simp only[Ad] at z;exact((iz z0).trans sm2).trans (R8.pur z.1.2)
            |true=>
             rw[if_pos rfl] at hc6;cases k3:fe δ8 with
             |none=>rw[k3] at hc6;cases hc6
             |some z4=>
              obtain⟨dv,δ9⟩:=z4;rw[k3] at hc6;simp only[An] at hc6;split at hc6
              ·rename_i hz
               refine QT ⟨_,_,δ8,dv,δ9,R8.sta,k3,fun v H9 R9=> ?_⟩;have hD9:H9 D=some (.lst cn):=R9.frm _ _ hD8 fun z=>by
                obtain⟨j,e⟩:=z;have:=(R9.sta.old j D e).1;exact absurd (.inl (.inr rfl)) this
               have hv:bU K (Nn (Bc ix B O H0 D (fg++(kps++cn.zip ax))) O7) H9 (Nn (Bc ix B O H0 D (fg++(kps++cn.zip ax))) O7) v dv:=R9.rep.mono (fun a h=>by
                rcases h with h|h
                ·exact .inl h
                ·exact .inr h) (fun a h=>by
                rcases h with h|h
                ·exact .inl h
                ·exact .inr h)
               have S10:=R9.sta.withKp (kp:=fg++(kps++(cn++[v]).zip (ax++[dv]))) fun p hp=>by
                rw[Mh dg,<- Ay,<- Ay] at hp;rcases Bo.mp hp with z|z
                ·exact R9.sta.kep p (by rw[<- Ay];exact z)
                ·rw[Ar.mp (show p∈[(v,dv)] from z)]
                 exact hv
               refine⟨hD9,by rw[dg,Ct];exact hz,ax++[dv],δ9,O7,by simp[dg],?_,hσ7,ln7,cO,fun z=> ?_,hc6⟩
               ·exact S10.writeZ (.inl (.inr rfl)) hD9 hD
               ·intro b o e
                have hb:b≠D:=fun z=>by rw[z,hD] at e;cases e
                rw[b7 hb];have z0:=z;simp only[Ad] at z;exact(((iz z0).trans sm2).trans ((R8.pur z.1.2).trans (R9.pur z.2))) b o e
              ·cases hc6
         ·have e : i2 = ds2.length := by lia
          subst e;rw[Di] at hc6;cases hc6;refine .inl ⟨w2.2,hσ1,ig,δ2f.take ix.length,by rw[Bp,<- S6.len];lia,dg,?_,hD6,iz,hc⟩;have S11:=S6.turn (nl:=nl) (da _) (Z2 ix σ) hσ1 (by rw[<- S6.len];exact ln1);exact S11.withKp (kp:=kps++cn.zip ig) fun p hp=>S11.kep p (Av _ hp)
   ·have e : i = ds.length := by lia
    subst e;rw[Di] at hc;cases hc;refine .inl ⟨w.2,k D H1 ?_⟩;have fP:Fr (OA (Oc ix O)) H0 H1:=S1.frm;have hPO: ∀a,OA (Oc ix O) a->OA O a:=fun a q0=>by
     obtain⟨j,e⟩:=q0;unfold Oc at e;cases hi:ix[j]? with
     |none=>rw[hi] at e;cases e
     |some i=>rw[hi] at e;exact⟨i,e⟩
    have SL:=S0.unkeep.laid (o:= .lst acc) hD;have fL:Fr (OA (Oc ix O)) (bH H0 D (.lst acc)) H1:=fun b o e n=>by
     by_cases hb:b=D
     ·subst hb
      rw[cO] at e;cases e;exact hD1
     ·rw[b7 hb] at e
      exact fP b o e n
    refine⟨SL.call (YK) (fun i=> ?_) fL hPO,f0.trans (fP.mono hPO),fun z=> ?_,.lst hD1 (WQ au fun p hp=>(S1.kep p (Av _ hp)).mono WN WN),S0.unkeep.new hD,S0.fresh hD⟩
    ·by_cases de:i<δ1.length
     ·rcases XY (ix:=ix) (ss:=δf) (δ:=δ1) i de hlc.symm with⟨j,x,e1,e2,e3⟩|⟨e1,e2⟩
      ·have e4:(δf++Q3 nl)[j]? =some (.ow x):=by
        rw[Ai (Ae.mp e2).1];exact e2
       obtain⟨a,e5,_,w⟩:=S1.ow j x e4;refine .inr ⟨a,x,?_,e3,w.mono WN⟩;unfold Oc at e5;rw[e1] at e5;exact e5
      ·refine .inl ⟨e2,fun a ea ⟨j,ej⟩ => ?_⟩
       obtain⟨x,ex⟩:=S1.dom j a ej;unfold Oc at ej;cases hi:ix[j]? with
       |none=>rw[hi] at ej;cases ej
       |some i'=>
        rw[hi] at ej;have:i=i':=S0.inj i i' a ea ej;subst this;have hj:j<δf.length:=by rw[hlc];exact(Ae.mp hi).1
        rw[Ai hj] at ex;exact e1 j x hi ex
     ·refine .inl ⟨?_,fun a ea => ?_⟩
      ·rw[Br (by rw[YK];lia),Br (by lia)]
      ·obtain⟨x,ex⟩:=S0.dom i a ea
       exact absurd (Ae.mp ex).1 de
    ·rw[Ad] at z
     exact(p0 z.1).trans (bu z.2)
end
section
variable{X:Cx}{K:Ap}{ml:List Nat}{pi pt pe pi2 pt2 pu:Bool}{pos:Pos}{ix:List Nat}{nl:Nat}{f:VF}
theorem BL{i:Nat}{y:Str}{py bo:Pos}{tg iter tg2 it2 elt:Expr}{ifs ai:List Expr}{scope:Scope}{N':List Str}{wi wi2:TI}{g g2:TG}{tt tt2:TT}{te:TE}
  (hN:X.N.Nodup) (hi':X.N[i]? =some y) (hy:X.env.scope.names.lookup y=some .local)
  (hc:X.calm=true) (S:UQ X N' ix scope) (hnl:N'.length=ix.length+nl) (hi:PI X tg iter wi)
  (blk: ∀(cl:List (Str×Addr)) (s1:Af) (H1:Hp) (fp:List Addr),Blk2 (b9 X N' scope cl s1 H1 fp) tg ifs tg2 it2 ai elt g tt wi2 g2 tt2 te)
  (hsw:Gp (.ListComp elt [⟨tg,iter,ifs,0⟩,⟨tg2,it2,ai,0⟩] scope pos) (some (.Name y py)) bo.line X.env=pure true:=by rfl)
  (hs: ∀x,foldedSetIterable iter X.env x=pure x:=by intro _;rfl) (hs2: ∀(env:Env) (x:Value),foldedSetIterable it2 env x=pure x:=by intro _ _;rfl):PS X (.Assign [.Name y py] (.ListComp elt [⟨tg,iter,ifs,0⟩,⟨tg2,it2,ai,0⟩] scope pos) bo) (CN (CP ix nl wi g tt wi2 g2 tt2 te) (JV i)):=by
 intro aa s σ H D I h;rw[Mj _ _ _ _ hsw];refine Aa (Ee (Aa ?_));show wpAny _ X.A (do let _<- comprehension (.ListComp elt [⟨tg,iter,ifs,0⟩,⟨tg2,it2,ai,0⟩] scope pos) scope X.env _ (Rx []) false (eval iter X.env) (some (Fn (.Name y py) X.env))) _ _ s;obtain⟨cl,e1,e2,e3⟩:=LR (env:=X.env) (scope:=scope) fun y hy hf=>I.ok.has y.1 (S.free y hy hf);refine Aa (Aw (Hm (use:=some (Fn (.Name y py) X.env)) (cl:=cl) (Q:=fun _ s'=>SP X aa D .next s') rfl hs e1 S.kind S.names
  (Aw (hi aa s σ H _ I h) (fun xv s₁ h₁=>Aw h₁ (fun itv s₂ h₂=> ?_) fun _ _ e=>e) fun _ _ e=>e)) (fun _ s' hq=>Ah (Ah hq)) fun _ _ e=>e)
 obtain⟨it,fp,tn,J,H2,e,I2,T,st2,f2,q⟩:=h₂;subst e;refine HR (Q:=fun v H'=>D.nx (σ.set i (some v)) H') (RR:=fun acc C=>compPost (model X.prog X.w) X.A X.xe (some (Fn (.Name y py) X.env)) (fun _ s'=>SP X aa D .next s') acc C) hs2 hc S hnl e2 e3 blk I2 T st2 f2 q ?_;intro Dl C s' H' I' hm hC1 hC2 hb hq;obtain⟨m,hm⟩:=hm;show wpAny _ X.A (Fn (.Name y py) X.env (.ref Dl)) _ _ _;refine Gx (SA I' hN hi' (.inl hy) (v:= .ref Dl) rfl (fun s'' I'' ⟨a,hsb,ha⟩=> ?_) (.inr hy));have hCa:C≠a:=by
  rcases ha with z|z
  ·rw[z];exact hC1
  ·exact Dk (hC2 y a z)
 exact⟨m,hm.sameBut hsb hCa,fun h'' sb=>⟨_,H',hb _ s'' h'' I'' sb,hq⟩⟩
theorem C9{i:Nat}{y:Str}{py bo:Pos}{tg iter tg2 it2 elt:Expr}{ifs ai:List Expr}{scope:Scope}{N':List Str}{fi fi2:VI}{gg gg2:VG}{tb tb2:VB}{fe:VF}(o:Bool)
  (hN:X.N.Nodup) (hi':X.N[i]? =some y) (hy:X.env.scope.names.lookup y=some .local)
  (hc:X.calm=true) (hk:scope.kind= .function) (hok:RK X.N N' ix scope.names X.env.kindOf=true) (hnl:N'.length=ix.length+nl) (hnd:ix.Nodup) (hi:PI X tg iter (FR K ml pi fi))
  (blk: ∀(cl:List (Str×Addr)) (s1:Af) (H1:Hp) (fp:List Addr),Blk2 (b9 X N' scope cl s1 H1 fp) tg ifs tg2 it2 ai elt (DJ K (At ix.length) gg) (TB K (At ix.length) pt tb) (FR K (At ix.length) pi2 fi2) (DJ K (At ix.length) gg2) (TB K (At ix.length) pt2 tb2) (TV K (At ix.length) pe true true fe))
  (hm:i∉ml:=by decide)
  (hsw:Gp (.ListComp elt [⟨tg,iter,ifs,0⟩,⟨tg2,it2,ai,0⟩] scope pos) (some (.Name y py)) bo.line X.env=pure true:=by rfl)
  (hs: ∀x,foldedSetIterable iter X.env x=pure x:=by intro _;rfl) (hs2: ∀(env:Env) (x:Value),foldedSetIterable it2 env x=pure x:=by intro _ _;rfl):PS X (.Assign [.Name y py] (.ListComp elt [⟨tg,iter,ifs,0⟩,⟨tg2,it2,ai,0⟩] scope pos) bo) (UJ K ml (aG i (if o then xO (RP ix nl fi gg tb fi2 gg2 tb2 fe) else xV (RP ix nl fi gg tb fi2 gg2 tb2 fe)))):=
 (BL hN hi' hy hc (YL hk hok) hnl hi blk hsw hs hs2).imp fun D σ H h=>IZ (fun σ H Q z=>CW hnd (CZ (pu:=pi && (pt && pi2 && pt2 && pe)) z)) hm h
end
end L2
namespace TS
open PySem PySem.W PyProof.Rows
structure En where
 prog:Bk
 w:World
 A:Cz
 s:Af
 κ:Qa
 it:Array Keyed
def En.Ok(n:Nat)(ck:Nat->Nat->Bool)(e:En):Prop:= ∀i j,i<n->j<n-> ∀C:Bool->Af->Prop,C (ck i j) e.s->kas_cmp e.prog e.w e.A e.κ e.it i j C e.s
abbrev En.at(e:En)(i:Nat):Keyed:=Iz e.it i
abbrev En.of(e:En)(p:Array Nat):Array Keyed:=p.map (Iz e.it)
structure Pu where
 p:Array Nat
 pd:Array (Nat×Nat×Nat)
 g:Nat
noncomputable def FC(e:En)(x:Pu):Ez:=Ih e.κ (e.of x.p) x.pd x.g none
section
variable{n:Nat}{ck:Nat->Nat->Bool}
def D(n:Nat)(ck:Nat->Nat->Bool){α:Type}(f:En->StateT Ez Sem α)(x:Pu)(a:En->α)(y:Pu):Prop:=
 ∀e:En,e.Ok n ck-> ∀(E:Value->Af->Prop) (Q:α->Ez->Af->Prop),Q (a e) (FC e y) e.s->kasC (model e.prog e.w) e.A E (f e) Q (FC e x) e.s
def X(n:Nat)(ck:Nat->Nat->Bool){α τ:Type}(f:En->StateT Ez Sem α)(x:Pu)(v:τ->En->α)(R:τ->Pu->Prop):Prop:= ∃t y,R t y/\D n ck f x (v t) y
theorem D.pure{α:Type}{a:En->α}{x:Pu}:D n ck (fun e=>Gu (a e)) x a x:=fun e _ E Q h=>kasC_pure h
theorem D.bind{α β:Type}{f:En->StateT Ez Sem α}{k:En->α->StateT Ez Sem β}{x y z:Pu}{a:En->α}{b:En->β}(h1:D n ck f x a y)(h2:D n ck (fun e=>k e (a e)) y b z):D n ck (fun e=>f e>>=k e) x b z:=
 fun e o E Q h=>Qs (h1 e o E _ (h2 e o E Q h))
theorem D.get{x:Pu}:D n ck (fun _=>MonadState.get) x (fun e=>FC e x) x:=fun e _ E Q h=>kasC_get h
theorem D.modify{F:En->Ez->Ez}{x y:Pu}(h: ∀e,F e (FC e x)=FC e y):D n ck (fun e=>modify (F e)) x (fun _=>⟨⟩) y:=fun e _ E Q q=>Qt (by rw[h e];exact q)
theorem D.rule{r:String}{x:Pu}:D n ck (fun _=>(liftM (PySem.rule r):StateT Ez Sem Unit)) x (fun _=>()) x:=fun e _ E Q q=>kasC_lift (Ge q)
theorem D.elem{q:Array Nat}{i:Nat}{x:Pu}(hi:i<q.size):D n ck (fun e=>elem' (e.of q) i) x (fun e=>e.at (q.getD i 0)) x:=fun e _ E Q h=>by
 have e1:(e.of q)[i]? =some (e.at (q.getD i 0)):=by
  have e2:q.getD i 0=q[i]:=by simp[Fv,hi]
  rw[e2];simp[En.of,En.at,hi]
 show kasC _ _ _ (elem' (e.of q) i) Q _ _;rw[elem'_eq,e1];exact kasC_pure h
theorem D.lt{i j:Nat}{x:Pu}(hi:i<n)(hj:j<n):D n ck (fun e=>lt' (e.at i) (e.at j)) x (fun _=>some (ck i j)) x:=fun e o E Q h=>by
 show kasC _ _ _ (lt' (e.at i) (e.at j)) Q _ _;rw[lt'_eq];refine Qs (kasC_get ?_);refine Qs (kasC_lift (Nx (Aw (o i j hi hj (fun c s'=>c=ck i j/\s'=e.s) ⟨rfl,rfl⟩) (fun c s' hc=> ?_) fun _ _ hF=>hF.elim)));obtain⟨rfl,rfl⟩:=hc;exact kasC_pure h
theorem D.ltAt{i j:Nat}{x:Pu}(hi:i<x.p.size)(hj:j<x.p.size)(bi:x.p.getD i 0<n)(bj:x.p.getD j 0<n):D n ck (fun _=>ltAt' i j) x (fun _=>some (ck (x.p.getD i 0) (x.p.getD j 0))) x:=fun e o E Q h=>by
 show kasC _ _ _ (ltAt' i j) Q _ _;rw[ltAt'_eq];refine Qs (kasC_get ?_);exact(D.bind (D.elem hi) (D.bind (D.elem hj) (D.lt bi bj)):D n ck (fun e=>elem' (e.of x.p) i>>=fun u=>elem' (e.of x.p) j>>=fun v=>lt' u v) x _ x) e o E Q h
theorem D.rev{i j:Nat}{x:Pu}:D n ck (fun _=>reverseSlice' i j) x (fun _=>()) {x with p:=Ov x.p i j}:=fun e o E Q h=>by
 show kasC _ _ _ (reverseSlice' i j) Q _ _;rw[reverseSlice'_eq];refine Qt ?_;have e1:mirror (e.of x.p) i j ((j - i)/2)=e.of (mirror x.p i j ((j - i)/2)):=kas_swaps_map (Iz e.it) (fun k=>i+k) (fun k=>j - 1 - k) _ x.p;show Q () (Ih e.κ (mirror (e.of x.p) i j ((j - i)/2)) x.pd x.g none) e.s;rw[e1];exact h
theorem D.move{k l:Nat}{x:Pu}:D n ck (fun _=>moveDown' k l) x (fun _=>()) {x with p:=bubble x.p k (k - l)}:=fun e o E Q h=>by
 show kasC _ _ _ (moveDown' k l) Q _ _;rw[moveDown'_eq];refine Qt ?_;have e1:bubble (e.of x.p) k (k - l)=e.of (bubble x.p k (k - l)):=kas_swaps_map (Iz e.it) (fun i=>k - i) (fun i=>k - i - 1) _ x.p;show Q () (Ih e.κ (bubble (e.of x.p) k (k - l)) x.pd x.g none) e.s;rw[e1];exact h
theorem X.ret{α τ:Type}{a:En->α}{x:Pu}{v:τ->En->α}{R:τ->Pu->Prop}(t:τ)(h:R t x)(ha: ∀e,a e=v t e:=by intro e;rfl):X n ck (fun e=>Gu (a e)) x v R:=
 ⟨t,x,h,by rw[show a=v t from funext ha];exact D.pure⟩
theorem X.go{α β τ:Type}{f:En->StateT Ez Sem α}{k:En->α->StateT Ez Sem β}{x y:Pu}{a:En->α}{v:τ->En->β}{R:τ->Pu->Prop}(h1:D n ck f x a y)(h2:X n ck (fun e=>k e (a e)) y v R):X n ck (fun e=>f e>>=k e) x v R:=by
 obtain⟨t,z,h,d⟩:=h2;exact⟨t,z,h,D.bind h1 d⟩
theorem X.bind{α β τ υ:Type}{f:En->StateT Ez Sem α}{k:En->α->StateT Ez Sem β}{x:Pu}{u:υ->En->α}{S:υ->Pu->Prop}{v:τ->En->β}{R:τ->Pu->Prop}(h1:X n ck f x u S)(h2: ∀t y,S t y->X n ck (fun e=>k e (u t e)) y v R):X n ck (fun e=>f e>>=k e) x v R:=by
 obtain⟨t,y,h,d⟩:=h1;exact X.go d (h2 t y h)
noncomputable def sv{β τ:Type}(v:τ->En->β):τ ⊕ τ->En->ForInStep β
 | .inl t,e=> .yield (v t e)
 | .inr t,e=> .done (v t e)
def sR{τ:Type}(I J:τ->Pu->Prop):τ ⊕ τ->Pu->Prop
 | .inl t,x=>I t x
 | .inr t,x=>J t x
theorem X.loop{β τ:Type}{v:τ->En->β}{I:Nat->τ->Pu->Prop}{J:τ->Pu->Prop}{f:En->Nat->β->StateT Ez Sem (ForInStep β)}
  (he: ∀t x,I 0 t x->J t x): ∀(l:List Nat) (t:τ) (x:Pu),(∀i∈l,∀(k:Nat) (t:τ) (x:Pu),I (k+1) t x->X n ck (fun e=>f e i (v t e)) x (sv v) (sR (I k) J))->I l.length t x->X n ck (fun e=>forIn l (v t e) (f e)) x v J
 |[],t,x,_,h=>⟨t,x,he t x h,fun e o E Q q=>kasC_nil q⟩
 | i :: l,t,x,hs,h => by
  obtain⟨r,y,hr,d⟩:=hs i Au l.length t x h;cases r with
  |inr t'=>exact⟨t',y,hr,fun e o E Q q=>Qu (d e o E _ q)⟩
  |inl t'=>
   obtain⟨u,z,hu,d2⟩:=X.loop he l t' y (fun i hi=>hs i (Ao _ hi)) hr;exact⟨u,z,hu,fun e o E Q q=>Qu (d e o E _ (d2 e o E Q q))⟩
theorem X.range{β τ:Type}{v:τ->En->β}{I:Nat->τ->Pu->Prop}{J:τ->Pu->Prop}{f:En->Nat->β->StateT Ez Sem (ForInStep β)}{a b:Nat}{t:τ}{x:Pu}{c:En->β}
  (he: ∀t x,I 0 t x->J t x) (h0:I (b - a) t x) (hs: ∀i,a<=i->i<b-> ∀(k:Nat) (t:τ) (x:Pu),I (k+1) t x->X n ck (fun e=>f e i (v t e)) x (sv v) (sR (I k) J)) (hc: ∀e,c e=v t e:=by intro e;rfl):X n ck (fun e=>forIn [a:b] (c e) (f e)) x v J:=by
 rw[show c=v t from funext hc];obtain⟨u,z,hu,d⟩:=X.loop he (Hj a (b - a)) t x (fun i hi=>by
  have:=Ko.mp hi;exact hs i this.1 (by omega)) (by rw[List.length_range'];exact h0)
 exact⟨u,z,hu,fun e o E Q q=>kasC_range (d e o E Q q)⟩
theorem X.yield{β τ:Type}{v:τ->En->β}{I J:τ->Pu->Prop}{a:En->β}{x:Pu}(t:τ)(h:I t x)(ha: ∀e,a e=v t e:=by intro e;rfl):X n ck (fun e=>Gu (Cm (a e))) x (sv v) (sR I J):=
 X.ret (.inl t) h fun e=>by rw[ha e];rfl
theorem X.done{β τ:Type}{v:τ->En->β}{I J:τ->Pu->Prop}{a:En->β}{x:Pu}(t:τ)(h:J t x)(ha: ∀e,a e=v t e:=by intro e;rfl):X n ck (fun e=>Gu (ForInStep.done (a e))) x (sv v) (sR I J):=
 X.ret (.inr t) h fun e=>by rw[ha e];rfl
end
section
variable{n:Nat}{ck:Nat->Nat->Bool}
theorem X.ite{α τ:Type}{c:Prop}{dc:En->Decidable c}{a b:En->StateT Ez Sem α}{x:Pu}{v:τ->En->α}{R:τ->Pu->Prop}(h1:c->X n ck a x v R)(h2: ¬c->X n ck b x v R):X n ck (fun e=> @_root_.ite _ c (dc e) (a e) (b e)) x v R:=by
 by_cases h:c
 ·simpa only[if_pos h] using h1 h
 ·simpa only[if_neg h] using h2 h
theorem X.loopI{β τ:Type}{v:τ->En->β}{I:Nat->τ->Pu->Prop}{J:τ->Pu->Prop}{f:En->Nat->β->StateT Ez Sem (ForInStep β)}: ∀(c a:Nat) (t:τ) (x:Pu),(∀t x,I (a+c) t x->J t x)->(∀i,a<=i->i<a+c-> ∀(t:τ) (x:Pu),I i t x->X n ck (fun e=>f e i (v t e)) x (sv v) (sR (I (i+1)) J))->I a t x->X n ck (fun e=>forIn (Hj a c) (v t e) (f e)) x v J
 |0,a,t,x,he,_,h=>⟨t,x,he t x h,fun e o E Q q=>kasC_nil q⟩
 | c + 1,a,t,x,he,hs,h => by
  obtain⟨r,y,hr,d⟩:=hs a (Ag _) (by lia) t x h;cases r with
  |inr t'=>exact⟨t',y,hr,fun e o E Q q=>Qu (d e o E _ q)⟩
  |inl t'=>
   obtain⟨u,z,hu,d2⟩:=X.loopI c (a+1) t' y (fun t x h=>he t x (by rwa[Nat.add_right_comm] at h)) (fun i h1 h2=>hs i (by lia) (by lia)) hr;exact⟨u,z,hu,fun e o E Q q=>Qu (d e o E _ (d2 e o E Q q))⟩
theorem X.rangeI{β τ:Type}{v:τ->En->β}{I:Nat->τ->Pu->Prop}{J:τ->Pu->Prop}{f:En->Nat->β->StateT Ez Sem (ForInStep β)}{a b:Nat}{t:τ}{x:Pu}{c:En->β}(hab:a<=b)
  (he: ∀t x,I b t x->J t x) (h0:I a t x) (hs: ∀i,a<=i->i<b-> ∀(t:τ) (x:Pu),I i t x->X n ck (fun e=>f e i (v t e)) x (sv v) (sR (I (i+1)) J)) (hc: ∀e,c e=v t e:=by intro e;rfl):X n ck (fun e=>forIn [a:b] (c e) (f e)) x v J:=by
 rw[show c=v t from funext hc];have hb:a+(b - a)=b:=by lia
 obtain⟨u,z,hu,d⟩:=X.loopI (I:=I) (b - a) a t x (by rw[hb];exact he) (by rw[hb];exact hs) h0;exact⟨u,z,hu,fun e o E Q q=>kasC_range (d e o E Q q)⟩
def Pm(n:Nat)(p:Array Nat):Prop:=p.toList.Perm (At n)
theorem Pm.sz{p:Array Nat}(h:Pm n p):p.size=n:=by
 have:=h.length_eq;simpa using this
theorem Pm.lt{p:Array Nat}(h:Pm n p){i:Nat}(hi:i<n):p.getD i 0<n:=by
 have hs:=h.sz;have hi':i<p.size:=by lia
 have e:p.getD i 0=p[i]:=by simp[Fv,hi']
 rw[e];exact Ci.mp (h.mem_iff.mp (by simp))
theorem Pm.rev{p:Array Nat}(h:Pm n p)(i j:Nat):Pm n (Ov p i j):=Jo (Jw.mp (mirror_perm p i j _)) h
theorem Pm.move{p:Array Nat}(h:Pm n p)(i j:Nat):Pm n (bubble p i j):=Jo (Jw.mp (bubble_perm p i j)) h
theorem Pm.cmp{x:Pu}(h:Pm n x.p){i j:Nat}(hi:i<n)(hj:j<n):D n ck (fun _=>ltAt' i j) x (fun _=>some (ck (x.p.getD i 0) (x.p.getD j 0))) x:=
 D.ltAt (by rw[h.sz];exact hi) (by rw[h.sz];exact hj) (h.lt hi) (h.lt hj)
theorem X.st{α τ:Type}{f:En->StateT Ez Sem α}{x z:Pu}{v:τ->En->α}{R:τ->Pu->Prop}{P:Pu->Pu->Prop}(h: ∀z,P x z->X n ck f z v R)(hz:P x z):X n ck f z v R:=h z hz
end
abbrev lk(ky:Nat->Nat)(i j:Nat):Bool:=decide (ky i<ky j)
section
variable{n:Nat}{ky:Nat->Nat}
noncomputable abbrev kt(ky:Nat->Nat)(p:Array Nat)(i:Nat):Nat:=ky (p.getD i 0)
def So(ky:Nat->Nat)(p:Array Nat)(i j:Nat):Prop:= ∀a b,i<=a->a<b->b<j->kt ky p a<=kt ky p b
def Ni(ky:Nat->Nat)(p:Array Nat)(i j:Nat):Prop:= ∀a b,i<=a->a<b->b<j->kt ky p b<=kt ky p a
def Eqs(ky:Nat->Nat)(p:Array Nat)(i j:Nat):Prop:= ∀a,i<=a->a<j->kt ky p a=kt ky p (j - 1)
theorem So.more{p:Array Nat}{i j:Nat}(h:So ky p i j)(hj:i<j->kt ky p (j - 1)<=kt ky p j):So ky p i (j+1):=fun a b h1 h2 h3=>by
 by_cases e:b=j
 ·subst e
  have h4:=hj (by lia);by_cases e2:a=b - 1
  ·rw[e2];exact h4
  ·exact Bu (h a (b - 1) h1 (by lia) (by lia)) h4
 ·exact h a b h1 h2 (by lia)
theorem Ni.more{p:Array Nat}{i j:Nat}(h:Ni ky p i j)(hj:i<j->kt ky p j<=kt ky p (j - 1)):Ni ky p i (j+1):=fun a b h1 h2 h3=>by
 by_cases e:b=j
 ·subst e
  have h4:=hj (by lia);by_cases e2:a=b - 1
  ·rw[e2];exact h4
  ·exact Bu h4 (h a (b - 1) h1 (by lia) (by lia))
 ·exact h a b h1 h2 (by lia)
theorem So.one{p:Array Nat}{i:Nat}:So ky p i (i+1):=fun a b h1 h2 h3=>by lia
theorem L8{p:Array Nat}{i j:Nat}(hj:j<=p.size)(t:Nat):(Ov p i j).getD t 0=if i<=t/\t<j then p.getD (i+j - 1 - t) 0 else p.getD t 0:=by
 have e:=getElem?_mirror_all (i:=i) hj t;simp only[Gv];show((mirror p i j ((j - i)/2))[t]?).getD 0=_;rw[e];split<;>rfl
theorem zBP{p:Array Nat}{s d:Nat}(hs:s<p.size)(hd:d<=s)(t:Nat):(bubble p s d).getD t 0=if t=s - d then p.getD s 0 else if s - d<t/\t<=s then p.getD (t - 1) 0 else p.getD t 0:=by
 have e:=getElem?_bubble hs d hd t;simp only[Gv];rw[e];split
 ·rfl
 ·split<;>rfl
theorem Eqs.rev{p:Array Nat}{i j:Nat}(h:Eqs ky p i j)(hj:j<=p.size)(t:Nat):kt ky (Ov p i j) t=kt ky p t:=by
 unfold kt;rw[L8 hj];split
 ·exact(h _ (by lia) (by lia)).trans (h t (by lia) (by lia)).symm
 ·rfl
theorem Ni.rev{p:Array Nat}{i j:Nat}(h:Ni ky p i j)(hj:j<=p.size):So ky (Ov p i j) i j:=fun a b h1 h2 h3=>by
 unfold kt;rw[L8 hj,L8 hj,if_pos (by lia),if_pos (by lia)];exact h _ _ (by lia) (by lia) (by lia)
theorem Ni.same{p q:Array Nat}{i j:Nat}(h:Ni ky p i j)(e: ∀t,kt ky q t=kt ky p t):Ni ky q i j:=fun a b h1 h2 h3=>by rw[e,e];exact h a b h1 h2 h3
def Kq(n lo:Nat)(x y:Pu):Prop:=Pm n y.p/\y.pd=x.pd/\ ∀i,i<lo->y.p.getD i 0=x.p.getD i 0
theorem Kq.rev{lo i j:Nat}{x y:Pu}(h:Kq n lo x y)(hi:lo<=i)(hj:j<=n):Kq n lo x {y with p:=Ov y.p i j}:=
 ⟨h.1.rev _ _,h.2.1,fun t ht => by
  show(Ov y.p i j).getD t 0=_;rw[L8 (by rw[h.1.sz];exact hj),if_neg (by lia)];exact h.2.2 t ht⟩
theorem zIT{lo m:Nat}{x:Pu}(hp:Pm n x.p)(h1:1<=m)(hm:lo+m<=n):X n (lk ky) (fun _=>countRun' lo m) x (fun t _=>some t) (fun t y=>1<=t/\t<=m/\Kq n lo x y/\So ky y.p lo (lo+t)):=by
 refine X.bind (u:=fun(t:Nat) _=>(none,t)) (S:=fun t y=>1<=t/\t<=m/\y=x/\So ky x.p lo (lo+t)/\(t=m∨kt ky x.p (lo+t)<kt ky x.p (lo+t - 1))) ?_ ?_
 ·refine X.range (I := fun k t y => 1 <= t /\ t + k = m /\ y = x /\ So ky x.p lo (lo + t)) (t := 1) (fun t y h => ⟨h.1,by lia,h.2.2.1,h.2.2.2,.inl h.2.1⟩) ⟨by lia,by lia,rfl,So.one⟩ fun i _ _ k t y ⟨g1,g2,g3,g4⟩ => ?_
  subst g3;refine X.go (hp.cmp (by lia) (by lia)) ?_;refine X.ite (fun q=>X.done t ⟨g1,by lia,rfl,g4,.inr (of_decide_eq_true q)⟩) fun q=>X.yield (t+1) ⟨by lia,by lia,rfl,g4.more fun _=>Dt fun z=>q (decide_eq_true z)⟩
 ·rintro t y ⟨g1,g2,rfl,g3,g4⟩
  have k0:Kq n lo y y:=⟨hp,rfl,fun _ _=>rfl⟩;have hsz:=hp.sz;refine X.ite (fun _=>X.ret t ⟨g1,g2,k0,g3⟩) fun q0=> ?_;have q1:t≠m:=fun z=>q0 (by rw[z];exact beq_self_eq_true _);have g4:kt ky y.p (lo+t)<kt ky y.p (lo+t - 1):=g4.resolve_left q1;refine X.ite (fun q2=>X.go (hp.cmp (by lia) (by lia)) (X.ite (fun _=>X.ret t ⟨g1,g2,k0,g3⟩) fun q3=>X.go D.rev (X.st (P:=fun y z=>Kq n lo y z/\Ni ky z.p lo (lo+t+1)) (x:=y) ?_ ?_))) fun q2=>X.st (P:=fun y z=>Kq n lo y z/\Ni ky z.p lo (lo+t+1)) (x:=y) ?_ ⟨k0,fun a b h1 h2 h3=> ?_⟩;rotate_left
  ·have q3 : kt ky y.p (lo + t - 1) <= kt ky y.p lo := Dt fun z => q3 (decide_eq_true z)
   have ee: ∀a,lo<=a->a<lo+t->kt ky y.p a=kt ky y.p (lo+t - 1):=fun a a1 a2=>by
    have u1:kt ky y.p lo<=kt ky y.p a:=by
     by_cases e:a=lo
     ·rw[e];exact Ag _
     ·exact g3 lo a (Ag _) (by lia) a2
    have u2:kt ky y.p a<=kt ky y.p (lo+t - 1):=by
     by_cases e:a=lo+t - 1
     ·rw[e];exact Ag _
     ·exact g3 a _ a1 (by lia) (by lia)
    exact Jp u2 (Bu q3 u1)
   refine⟨k0.rev (Ag _) (by lia),Ni.same (p:=y.p) (Ni.more (fun a b h1 h2 h3=> ?_) fun _=>Db g4) (Eqs.rev ee (by lia))⟩;rw[ee a h1 (by lia),ee b (by lia) h3];exact Ag _
  rotate_left
  ·obtain rfl : t = 1 := by dsimp only at q2;lia
   obtain rfl:a=lo:=by lia
   obtain rfl:b=a+1:=by lia
   exact Db g4
  all_goals
   rintro z ⟨hz,hn⟩;refine X.go D.rule ?_;refine X.bind (u:=fun(t:Nat×Nat) _=>(none,t)) (S:=fun t z=>1<=t.1/\t.1<=m/\Kq n lo y z/\Ni ky z.p lo (lo+t.1)/\t.2<t.1/\Eqs ky z.p (lo+t.1 - (t.2+1)) (lo+t.1)) ?_ ?_
   ·refine X.range (I := fun k t z => 1 <= t.1 /\ t.1 + k = m /\ Kq n lo y z /\ Ni ky z.p lo (lo + t.1) /\ t.2 < t.1 /\ Eqs ky z.p (lo + t.1 - (t.2 + 1)) (lo + t.1)) (t := (t + 1,0)) (fun t y h => ⟨h.1,by lia,h.2.2⟩) ⟨by lia,by dsimp only;lia,hz,hn,by dsimp only;lia,fun a h1 h2 => by congr 1;dsimp only at h1 h2 ⊢;congr 1;lia⟩ fun i _ _ k t z ⟨g1,g2,g3,g4,g5,g6⟩ => ?_
    obtain⟨t,q⟩:=t;dsimp only at g1 g2 g4 g5 g6;have hs3:=g3.1.sz;refine X.go (g3.1.cmp (by dsimp only;lia) (by dsimp only;lia)) ?_;refine X.ite (fun qs=> ?_) fun qs=> ?_
    ·have qs:kt ky z.p (lo+t)<kt ky z.p (lo+t - 1):=of_decide_eq_true qs
     have ez: ∀(p:Array Nat),Eqs ky p (lo+(t+1) - (0+1)) (lo+(t+1)):=fun p a h1 h2=>by congr 2;lia
     have en:=g4.more fun _=>Db qs;refine X.ite (fun _=>X.go D.rev (X.yield (t+1,0) ⟨by dsimp only;lia,by dsimp only;lia,g3.rev (by lia) (by lia),en.same (g6.rev (by lia)),by dsimp only;lia,ez _⟩)) fun _=>X.yield (t+1,0) ⟨by dsimp only;lia,by dsimp only;lia,g3,en,by dsimp only;lia,ez _⟩
    ·have qs : kt ky z.p (lo + t - 1) <= kt ky z.p (lo + t) := Dt fun z => qs (decide_eq_true z)
     refine X.go (g3.1.cmp (by dsimp only;lia) (by dsimp only;lia)) ?_;refine X.ite (fun _=>X.done (t,q) ⟨g1,by dsimp only;lia,g3,g4,g5,g6⟩) fun ql=>X.yield (t+1,q+1) ⟨by dsimp only;lia,by dsimp only;lia,g3,?_,by dsimp only;lia,fun a h1 h2=> ?_⟩;all_goals have ql:kt ky z.p (lo+t)<=kt ky z.p (lo+t - 1):=Dt fun z=>ql (decide_eq_true z)
     ·exact g4.more fun _=>ql
     ·dsimp only at h1 h2⊢
      rw[show lo+(t+1) - 1=lo+t by lia];by_cases e:a=lo+t
      ·rw[e]
      ·rw [g6 a (by lia) (by lia)]
       exact Jp qs ql
   ·rintro ⟨t,q⟩ z ⟨g1,g2,g3,g4,g5,g6⟩
    dsimp only at g1 g2 g4 g5 g6;have hs3:=g3.1.sz;refine X.ite (fun _=>X.go D.rev (X.st (P:=fun y z=>Kq n lo y z/\Ni ky z.p lo (lo+t)) (x:=y) ?_ ⟨g3.rev (by lia) (by lia),g4.same (g6.rev (by lia))⟩)) fun _=>X.st (P:=fun y z=>Kq n lo y z/\Ni ky z.p lo (lo+t)) (x:=y) ?_ ⟨g3,g4⟩
    all_goals
     rintro z ⟨hz,hn⟩;have hs3:=hz.1.sz;refine X.go D.rev ?_;refine X.bind (u:=fun(t:Nat) _=>(none,t)) (S:=fun t z=>1<=t/\t<=m/\Kq n lo y z/\So ky z.p lo (lo+t)) ?_ fun t z h=>X.ret t h;refine X.range (I:=fun k t z=>1<=t/\t+k=m/\Kq n lo y z/\So ky z.p lo (lo+t)) (t:=t) (fun t y h=>⟨h.1,by lia,h.2.2⟩) ⟨by lia,by dsimp only;lia,hz.rev (Ag _) (by lia),hn.rev (by lia)⟩ fun i _ _ k t y ⟨g1,g2,g3,g4⟩=> ?_;refine X.go (g3.1.cmp (by lia) (by lia)) ?_;exact X.ite (fun _=>X.done t ⟨g1,by lia,g3,g4⟩) fun q=>X.yield (t+1) ⟨by lia,by lia,g3,g4.more fun _=>Dt fun z=>q (decide_eq_true z)⟩
theorem bin{lo m ok:Nat}{x:Pu}(hp:Pm n x.p)(hm:lo+m<=n)(o1:1<=ok)(o2:ok<=m)(hs:So ky x.p lo (lo+ok)):X n (lk ky) (fun _=>binarySort' lo m ok) x (fun(_:Unit) _=>true) (fun _ y=>Kq n lo x y/\So ky y.p lo (lo+m)):=by
 refine X.bind (u:=fun(_:Unit) _=>(none,())) (S:=fun _ y=>Kq n lo x y/\So ky y.p lo (lo+m)) ?_ fun t z h=>X.ret () h;refine X.rangeI (I:=fun i _ z=>Kq n lo x z/\So ky z.p lo (lo+i)) (t:=()) (by lia) (fun t y h=>h) ⟨⟨hp,rfl,fun _ _=>rfl⟩,by rw[Nat.max_eq_left o1];exact hs⟩ fun j j1 j2 t y ⟨g3,g4⟩=> ?_;have hsz:=g3.1.sz;refine X.bind (u:=fun(t:Nat×Nat) _=>(none,t)) (S:=fun t z=>t.1=t.2/\t.2<=j/\z=y/\(∀a,lo<=a->a<lo+t.1->kt ky y.p a<=kt ky y.p (lo+j))/\ ∀a,lo+t.2<=a->a<lo+j->kt ky y.p (lo+j)<=kt ky y.p a) ?_ ?_
 ·refine X.range (I := fun c t z => t.1 <= t.2 /\ t.2 <= j /\ t.2 <= t.1 + c /\ z = y /\ (∀ a,lo <= a -> a < lo + t.1 -> kt ky y.p a <= kt ky y.p (lo + j)) /\ ∀ a,lo + t.2 <= a -> a < lo + j -> kt ky y.p (lo + j) <= kt ky y.p a) (t := (0,j)) (fun t y h => ⟨by lia,h.2.1,h.2.2.2⟩) ⟨by dsimp only;lia,Ag _,by dsimp only;lia,rfl,fun a h1 h2 => by dsimp only at h2;lia,fun a h1 h2 => by dsimp only at h1;lia⟩ fun i _ _ k t z ⟨f1,f2,f3,f4,f5,f6⟩ => ?_
  obtain⟨l,r⟩:=t;dsimp only at f1 f2 f3 f5 f6;subst f4;refine X.ite (fun q=>X.done (l,r) ⟨by dsimp only at q⊢;lia,f2,rfl,f5,f6⟩) fun q=> ?_;dsimp only at q;refine X.go (g3.1.cmp (by lia) (by dsimp only;lia)) ?_;refine X.ite (fun q2=>X.yield (l,(l+r)/2) ⟨by dsimp only;lia,by dsimp only;lia,by dsimp only;lia,rfl,f5,fun a h1 h2=> ?_⟩) fun q2=>X.yield ((l+r)/2+1,r) ⟨by dsimp only;lia,f2,by dsimp only;lia,rfl,fun a h1 h2=> ?_,f6⟩
  ·have q2:kt ky z.p (lo+j)<kt ky z.p (lo+(l+r)/2):=of_decide_eq_true q2
   dsimp only at h1;by_cases e:a=lo+(l+r)/2
   ·rw[e];exact Db q2
   ·exact Bu (Db q2) (g4 _ a (by lia) (by lia) (by lia))
  ·have q2 : kt ky z.p (lo + (l + r) / 2) <= kt ky z.p (lo + j) := Dt fun z => q2 (decide_eq_true z)
   dsimp only at h2;by_cases e:a=lo+(l+r)/2
   ·rw[e];exact q2
   ·exact Bu (g4 a _ h1 (by lia) (by lia)) q2
 ·rintro ⟨l,r⟩ z ⟨f1,f2,rfl,f5,f6⟩
  dsimp only at f1 f2 f5 f6;subst f1;have mv: ∀t,(bubble z.p (lo+j) (lo+j - (lo+l))).getD t 0=if t=lo+l then z.p.getD (lo+j) 0 else if lo+l<t/\t<=lo+j then z.p.getD (t - 1) 0 else z.p.getD t 0:=fun t=>by rw[zBP (by lia) (by lia),show lo+j - (lo+j - (lo+l))=lo+l by lia]
  refine X.go D.move (X.yield () ⟨⟨g3.1.move _ _,g3.2.1,fun i hi=> ?_⟩,fun a b h1 h2 h3=> ?_⟩)
  ·show(bubble z.p (lo+j) (lo+j - (lo+l))).getD i 0=_
   rw[mv,if_neg (by lia),if_neg (by lia)];exact g3.2.2 i hi
  ·show ky ((bubble z.p (lo+j) (lo+j - (lo+l))).getD a 0)<=ky ((bubble z.p (lo+j) (lo+j - (lo+l))).getD b 0)
   rw[mv,mv];by_cases a1:a<lo+l
   ·rw [if_neg (by lia),if_neg (by lia)]
    by_cases b1:b=lo+l
    ·rw[if_pos b1];exact f5 a h1 a1
    ·rw[if_neg b1]
     split
     ·exact Bu (f5 a h1 a1) (f6 _ (by lia) (by lia))
     ·exact g4 a b h1 h2 (by lia)
   ·rw [if_neg (show ¬ b = lo + l by lia),if_pos (show lo + l < b /\ b <= lo + j by lia)]
    by_cases a2:a=lo+l
    ·rw[if_pos a2];exact f6 _ (by lia) (by lia)
    ·rw [if_neg a2,if_pos (by lia)]
     exact g4 _ _ (by lia) (by lia) (by lia)
end
def F2:Bool->Keyed->Array Keyed->Nat->Nat->Nat->StateT Ez Sem (Option Nat):=sortPriv% PySem.Builtin.gallop
def J5:Array Keyed->Array Keyed->StateT Ez Sem (Array Keyed):=sortPriv% PySem.Builtin.mergeLo
def J4:Array Keyed->Array Keyed->StateT Ez Sem (Array Keyed):=sortPriv% PySem.Builtin.mergeHi
section
variable{n:Nat}{ky:Nat->Nat}
noncomputable def bey(left:Bool)(key:Nat)(q:Array Nat)(i:Nat)(e:En):StateT Ez Sem (Option Bool):=
 elem' (e.of q) i>>=fun z=>if left=true then lt' z (e.at key) else lt' (e.at key) z>>=fun r=>pure (r.map (fun b=> !b))
def kl(left:Bool)(v:Nat):Nat:=if left=true then v else v+1
theorem zGF{left:Bool}{key:Nat}{q:Array Nat}{x:Pu}(hk:key<n){i:Nat}(hi:i<q.size)(hq:q.getD i 0<n):D n (lk ky) (bey left key q i) x (fun _=>some (decide (kt ky q i<kl left (ky key)))) x:=by
 cases left with
 |true=>exact D.bind (D.elem hi) (D.lt hq hk)
 |false=>
  have e:decide (kt ky q i<kl false (ky key))= !(lk ky key (q.getD i 0)):=by
   show decide (kt ky q i<ky key+1)= !(decide (ky key<ky (q.getD i 0)));rw[<- decide_not];exact decide_eq_decide.mpr (by unfold kt;lia)
  rw[e];exact D.bind (D.elem hi) (D.bind (D.lt hk hq) D.pure)
def Cut(ky:Nat->Nat)(q:Array Nat)(b m v l h:Nat):Prop:=l<=h/\h<=m/\(∀i,i<l->kt ky q (b+i)<v)/\ ∀i,h<=i->i<m->v<=kt ky q (b+i)
theorem gal{left:Bool}{key:Nat}{q:Array Nat}{b m h:Nat}{x:Pu}(hk:key<n)(hh:h<m)(hb:b+m<=q.size)(hq: ∀i,i<q.size->q.getD i 0<n)(hs:So ky q b (b+m)):
  X n (lk ky) (fun e=>F2 left (e.at key) (e.of q) b m h) x (fun t _=>some t) (fun t y=>Cut ky q b m (kl left (ky key)) t t/\y=x):=by
 have ask: ∀i,i<m->D n (lk ky) (bey left key q (b+i)) x (fun _=>some (decide (kt ky q (b+i)<kl left (ky key)))) x:=fun i hi=>zGF hk (by lia) (hq _ (by lia));generalize kl left (ky key)=v at ask;have dn: ∀i j,i<=j->j<m->kt ky q (b+j)<v->kt ky q (b+i)<v:=fun i j h1 h2 h3=>by
  by_cases e:i=j
  ·rw[e];exact h3
  ·exact Nu (hs (b+i) (b+j) (by lia) (by lia) (by lia)) h3
 have up: ∀i j,i<=j->j<m-> ¬kt ky q (b+i)<v->v<=kt ky q (b+j):=fun i j h1 h2 h3=>Dt fun z=>h3 (dn i j h1 h2 z);refine X.go (ask h hh) ?_;refine X.ite (fun c=> ?_) fun c=> ?_
 ·have c:kt ky q (b+h)<v:=of_decide_eq_true c
  refine X.bind (u:=fun(t:Nat×Nat) _=>(none,t)) (S:=fun t z=>z=x/\t.1<t.2/\h+t.1<m/\kt ky q (b+(h+t.1))<v/\(m<=h+t.2∨ ¬kt ky q (b+(h+t.2))<v)) ?_ ?_
  ·refine X.range (I := fun c t z => z = x /\ t.1 < t.2 /\ h + t.1 < m /\ kt ky q (b + (h + t.1)) < v /\ m <= h + t.2 + c) (t := (0,1)) (fun t y h => ⟨h.1,h.2.1,h.2.2.1,h.2.2.2.1,.inl h.2.2.2.2⟩) ⟨rfl,Nat.one_pos,hh,c,by dsimp only;lia⟩ fun i _ _ k t z ⟨g1,g2,g3,g4,g5⟩ => ?_
   obtain⟨l,o⟩:=t;dsimp only at g2 g3 g4 g5;subst g1;refine X.ite (fun q=>X.done (l,o) ⟨rfl,g2,g3,g4,.inl (by dsimp only at q⊢;lia)⟩) fun q=> ?_;dsimp only at q;refine X.go (ask (h+o) (by lia)) (X.ite (fun q2=>X.done (l,o) ⟨rfl,g2,g3,g4,.inr fun z=> ?_⟩) fun q2=>X.yield (o,2*o+1) ⟨rfl,by dsimp only;lia,by dsimp only;lia,?_,by dsimp only;lia⟩)
   ·have z:kt ky _ (b+(h+o))<v:=z
    rw[decide_eq_true z] at q2;exact absurd q2 (by simp)
   ·exact Kc fun z=>q2 (by rw[decide_eq_false z];rfl)
  ·rintro ⟨l,o⟩ z ⟨rfl,g2,g3,g4,g5⟩
   dsimp only at g2 g3 g4 g5;refine X.bind (u:=fun(t:Nat×Nat) _=>(none,t)) (S:=fun t y=>Cut ky q b m v t.2 t.2/\y=z) ?_ fun t y h=>X.ret t.2 h;refine X.range (I:=fun c t y=>Cut ky q b m v t.1 t.2/\t.2<=t.1+c/\y=z) (t:=(h+l+1,h+min o (m - h))) (fun t y h=>⟨by rw[show t.1=t.2 from Jp h.1.1 h.2.1] at h;exact h.1,h.2.2⟩) ⟨⟨by lia,by lia,fun i hi=>dn i (h+l) (by lia) g3 g4,fun i h1 h2=> ?_⟩,by dsimp only;lia,rfl⟩ fun i _ _ k t y ⟨⟨f1,f2,f3,f4⟩,f5,f6⟩=> ?_
   ·rcases g5 with g5|g5
    ·dsimp only at h1;lia
    ·by_cases e:m<=h+o
     ·dsimp only at h1;lia
     ·exact up (h+o) i (by dsimp only at h1;lia) h2 g5
   ·obtain⟨lo,hi⟩:=t
    subst f6;dsimp only at f1 f2 f3 f4 f5;refine X.ite (fun q=>X.done (lo,hi) ⟨by dsimp only at q⊢;rw[show lo=hi by lia] at f3;exact⟨Ag _,f2,f3,f4⟩,rfl⟩) fun q=> ?_;dsimp only at q;refine X.go (ask (lo+(hi - lo)/2) (by lia)) (X.ite (fun q2=>X.yield (lo+(hi - lo)/2+1,hi) ⟨⟨by dsimp only;lia,f2,fun i hi=>dn i _ (by dsimp only at hi;lia) (by lia) (of_decide_eq_true q2),f4⟩,by dsimp only;lia,rfl⟩) fun q2=>X.yield (lo,lo+(hi - lo)/2) ⟨⟨by dsimp only;lia,by dsimp only;lia,f3,fun i h1 h2=>up _ i h1 h2 fun z=>q2 (decide_eq_true z)⟩,by dsimp only;lia,rfl⟩)
 ·have c : ¬ kt ky q (b + h) < v := fun z => c (decide_eq_true z)
  refine X.bind (u:=fun(t:Nat×Nat) _=>(none,t)) (S:=fun t z=>z=x/\t.1<t.2/\t.1<=h/\¬kt ky q (b+(h - t.1))<v/\(h<t.2∨kt ky q (b+(h - t.2))<v)) ?_ ?_
  ·refine X.range (I := fun c t z => z = x /\ t.1 < t.2 /\ t.1 <= h /\ ¬ kt ky q (b + (h - t.1)) < v /\ h < t.2 + c) (t := (0,1)) (fun t y h => ⟨h.1,h.2.1,h.2.2.1,h.2.2.2.1,.inl h.2.2.2.2⟩) ⟨rfl,Nat.one_pos,Cr _,c,by dsimp only;lia⟩ fun i _ _ k t z ⟨g1,g2,g3,g4,g5⟩ => ?_
   obtain⟨l,o⟩:=t;dsimp only at g2 g3 g4 g5;subst g1;refine X.ite (fun q=>X.done (l,o) ⟨rfl,g2,g3,g4,.inl (by dsimp only at q⊢;lia)⟩) fun q=> ?_;dsimp only at q;exact X.go (ask (h - o) (by lia)) (X.ite (fun q2=>X.done (l,o) ⟨rfl,g2,g3,g4,.inr (of_decide_eq_true q2)⟩) fun q2=>X.yield (o,2*o+1) ⟨rfl,by dsimp only;lia,by dsimp only;lia,fun z=>q2 (decide_eq_true z),by dsimp only;lia⟩)
  ·rintro ⟨l,o⟩ z ⟨rfl,g2,g3,g4,g5⟩
   dsimp only at g2 g3 g4 g5;refine X.bind (u:=fun(t:Nat×Nat) _=>(none,t)) (S:=fun t y=>Cut ky q b m v t.2 t.2/\y=z) ?_ fun t y h=>X.ret t.2 h;refine X.range (I:=fun c t y=>Cut ky q b m v t.1 t.2/\t.2<=t.1+c/\y=z) (t:=(h+1 - min o (h+1),h - l)) (fun t y h=>⟨by rw[show t.1=t.2 from Jp h.1.1 h.2.1] at h;exact h.1,h.2.2⟩) ⟨⟨by lia,by dsimp only;lia,fun i hi=> ?_,fun i h1 h2=>up (h - l) i h1 h2 g4⟩,by dsimp only;lia,rfl⟩ fun i _ _ k t y ⟨⟨f1,f2,f3,f4⟩,f5,f6⟩=> ?_
   ·rcases g5 with g5|g5
    ·dsimp only at hi;lia
    ·exact dn i (h - o) (by dsimp only at hi;lia) (by lia) g5
   ·obtain⟨lo,hi⟩:=t
    subst f6;dsimp only at f1 f2 f3 f4 f5;refine X.ite (fun q=>X.done (lo,hi) ⟨by dsimp only at q⊢;rw[show lo=hi by lia] at f3;exact⟨Ag _,f2,f3,f4⟩,rfl⟩) fun q=> ?_;dsimp only at q;refine X.go (ask (lo+(hi - lo)/2) (by lia)) (X.ite (fun q2=>X.yield (lo+(hi - lo)/2+1,hi) ⟨⟨by dsimp only;lia,f2,fun i hi=>dn i _ (by dsimp only at hi;lia) (by lia) (of_decide_eq_true q2),f4⟩,by dsimp only;lia,rfl⟩) fun q2=>X.yield (lo,lo+(hi - lo)/2) ⟨⟨by dsimp only;lia,by dsimp only;lia,f3,fun i h1 h2=>up _ i h1 h2 fun z=>q2 (decide_eq_true z)⟩,by dsimp only;lia,rfl⟩)
end
section
variable{n:Nat}{ck:Nat->Nat->Bool}
theorem X.eqSize{α τ:Type}{m:Nat}{q:Array Nat}{a b:En->StateT Ez Sem α}{x:Pu}{v:τ->En->α}{R:τ->Pu->Prop}(h1:m=q.size->X n ck a x v R)(h2:m≠q.size->X n ck b x v R):X n ck (fun e=>if(m==(e.of q).size)=true then a e else b e) x v R:=by
 simp only[En.of,Array.size_map];exact X.ite (fun h=>h1 (by simpa using h)) fun h=>h2 (by simpa using h)
theorem X.rangeE{β τ:Type}{v:τ->En->β}{I:Nat->τ->Pu->Prop}{J:τ->Pu->Prop}{f:En->Nat->β->StateT Ez Sem (ForInStep β)}{b:En->Nat}{t:τ}{x:Pu}{c:En->β}(b0:Nat)(hb: ∀e,b e=b0)
  (he: ∀t x,I 0 t x->J t x) (h0:I b0 t x) (hs: ∀(k:Nat) (t:τ) (x:Pu),k<b0->I (k+1) t x-> ∀i,X n ck (fun e=>f e i (v t e)) x (sv v) (sR (I k) J)) (hc: ∀e,c e=v t e:=by intro e;rfl):X n ck (fun e=>forIn [0:b e] (c e) (f e)) x v J:=by
 rw[show b=fun _=>b0 from funext hb];refine X.range (I:=fun k t x=>k<=b0/\I k t x) (fun t x h=>he t x h.2) ⟨by lia,h0⟩ (fun i _ _ k t x h=> ?_) hc;obtain⟨r,y,hr,d⟩:=hs k t x (by lia) h.2 i;refine⟨r,y,?_,d⟩;cases r with
 |inl t=>exact⟨by lia,hr⟩
 |inr t=>exact hr
def zAS:Nat->StateT Ez Sem Unit:=sortPriv% PySem.Builtin.setMinGallop
theorem D.setMin{g:Nat}{x:Pu}:D n ck (fun _=>zAS g) x (fun _=>()) {x with g:=g}:=D.modify (F:=fun _ s=>_) fun e=>rfl
end
section
variable{n:Nat}{ky:Nat->Nat}
theorem galE{left:Bool}{key:Nat}{q:Array Nat}{b h:Nat}{m:En->Nat}{x:Pu}(m0:Nat)(hm: ∀e,m e=m0)(hk:key<n)(hh:h<m0)(hb:b+m0<=q.size)(hq: ∀i,i<q.size->q.getD i 0<n)(hs:So ky q 0 q.size):
  X n (lk ky) (fun e=>F2 left (e.at key) (e.of q) b (m e) h) x (fun t _=>some t) (fun t y=>Cut ky q b m0 (kl left (ky key)) t t/\y=x):=by
 rw[show m=fun _=>m0 from funext hm];exact gal hk hh hb hq fun a b h1 h2 h3=>hs a b (by lia) h2 (by lia)
def Ss(ky:Nat->Nat)(l:List Nat):Prop:=l.Pairwise fun i j=>ky i<=ky j
theorem So.ss{a:Array Nat}(h:So ky a 0 a.size):Ss ky a.toList:=by
 refine Ke.mpr fun i j hi hj hij=> ?_;have e: ∀i,(h:i<a.toList.length)->a.toList[i]=a.getD i 0:=fun i h=>by simp[Fv,show i<a.size from h]
 rw[e,e];exact h i j (Cr _) hij hj
theorem IU{x:Nat}{o l:List Nat}(h:Ss ky (o++l))(h1: ∀y∈o,ky y<=ky x)(h2: ∀y∈l,ky x<=ky y):Ss ky (o++([x]++l)):=by
 obtain⟨g1,g2,g3⟩:=Ep.mp h;refine Ep.mpr ⟨g1,Go.mpr ⟨h2,g2⟩,fun a ha b hb=> ?_⟩;rcases Ak.mp hb with rfl|hb
 ·exact h1 a ha
 ·exact g3 a ha b hb
theorem P2{x:Nat}{o l:List Nat}(h:Ss ky (o++x::l)):(∀y∈o,ky y<=ky x)/\ ∀y∈l,ky x<=ky y:=by
 obtain⟨g1,g2,g3⟩:=Ep.mp h;exact⟨fun y hy=>g3 y hy x Au,(Go.mp g2).1⟩
def Iv(ky:Nat->Nat)(a b o:Array Nat)(ia ib:Nat):Prop:=o.toList.Perm (a.toList.take ia++b.toList.take ib)/\Ss ky (o.toList++a.toList.drop ia)/\Ss ky (o.toList++b.toList.drop ib)
theorem UV{a:Array Nat}{i:Nat}(h:i<a.size):a.toList.drop i=a.getD i 0::a.toList.drop (i+1):=by
 have e:a.getD i 0=a[i]:=by simp[Fv,h]
 rw[e,Cn (by simpa using h)];simp
theorem TR{a:Array Nat}{i:Nat}(h:i<a.size):a.toList.take (i+1)=a.toList.take i++[a.getD i 0]:=by
 have e:a.getD i 0=a[i]:=by simp[Fv,h]
 rw[e,Rb];simp[h]
theorem YC(a:Array Nat)(i j:Nat):(a.extract i j).toList=(a.toList.take j).drop i:=by simp[Rc]
theorem zC0{a:Array Nat}{i j:Nat}(h:i<=j)(hj:j<a.size):a.extract i (j+1)=(a.extract i j).push (a.getD j 0):=by
 apply Ip.mp;rw[Et,YC,YC,TR hj,List.drop_append_of_le_length (by rw[Bp];show i<=min j a.size;lia)]
theorem JT(a:Array Nat)(i:Nat):a.extract i i= #[]:=by simp;exact Mi _ _
theorem Iv.swap{a b o:Array Nat}{ia ib:Nat}(h:Iv ky a b o ia ib):Iv ky b a o ib ia:=⟨h.1.trans Ea,h.2.2,h.2.1⟩
theorem Iv.pushB{a b o:Array Nat}{ia ib:Nat}(h:Iv ky a b o ia ib)(hb:ib<b.size)(hl:ia<a.size->kt ky b ib<=kt ky a ia):Iv ky a b (o.push (b.getD ib 0)) ia (ib+1):=by
 obtain⟨h1,h2,h3⟩:=h;have e:=UV hb;rw[e] at h3;refine⟨?_,?_,by rw[Et,Ay];exact h3⟩
 ·rw[TR hb,Et,<- Ay]
  exact h1.append_right _
 ·rw[Et,Ay]
  refine IU h2 (P2 h3).1 fun y hy=> ?_;by_cases ha:ia<a.size
  ·rw[UV ha] at h2 hy
   rcases Ak.mp hy with rfl|hy
   ·exact hl ha
   ·exact Bu (hl ha) ((P2 h2).2 y hy)
  ·rw [List.drop_eq_nil_of_le (by show a.size <= ia;lia)] at hy
   cases hy
theorem Iv.pushA{a b o:Array Nat}{ia ib:Nat}(h:Iv ky a b o ia ib)(ha:ia<a.size)(hl:ib<b.size->kt ky a ia<=kt ky b ib):Iv ky a b (o.push (a.getD ia 0)) (ia+1) ib:=(h.swap.pushB ha hl).swap
theorem Iv.extB{a b o:Array Nat}{ia ib:Nat}(h:Iv ky a b o ia ib): ∀d,ib+d<=b.size->(∀i,i<d->ia<a.size->kt ky b (ib+i)<=kt ky a ia)->Iv ky a b (o++b.extract ib (ib+d)) ia (ib+d)
 |0,_,_=>by rw[Pg,JT,Nz];exact h
 |d+1,h1,h2=>by
  have ih:=(Iv.extB h d (by lia) fun i hi=>h2 i (by lia)).pushB (by lia) (h2 d (by lia));rw[<- Ja,zC0 (by lia) (by lia),Ow];exact ih
theorem Iv.extA{a b o:Array Nat}{ia ib:Nat}(h:Iv ky a b o ia ib)(d:Nat)(h1:ia+d<=a.size)(h2: ∀i,i<d->ib<b.size->kt ky a (ia+i)<=kt ky b ib):Iv ky a b (o++a.extract ia (ia+d)) (ia+d) ib:=(h.swap.extB d h1 h2).swap
theorem QF(a:Array Nat)(i:Nat):(a.extract i a.size).toList=a.toList.drop i:=by rw[YC,show a.size=a.toList.length from rfl,Lm]
def Ms(ky:Nat->Nat)(a b t:Array Nat):Prop:=t.toList.Perm (a.toList++b.toList)/\Ss ky t.toList
theorem Iv.all{a b o:Array Nat}{ia ib:Nat}(h:Iv ky a b o ia ib):(o.toList++(a.toList.drop ia++b.toList.drop ib)).Perm (a.toList++b.toList):=by
 refine(h.1.append_right _).trans ?_;have e1:=Eb ia a.toList;have e2:=Eb ib b.toList;generalize a.toList.take ia=a1 at*;generalize a.toList.drop ia=a2 at*;generalize b.toList.take ib=b1 at*;generalize b.toList.drop ib=b2 at*;rw[<- e1,<- e2,Ay,Ay];refine Fi _ ?_;rw[<- Ay,<- Ay];exact Gi _ Ea
theorem Iv.done{a b o:Array Nat}{ia ib:Nat}(h:Iv ky a b o ia ib)(hx:ib=b.size∨ia=a.size):Ms ky a b (o++a.extract ia a.size++b.extract ib b.size):=by
 unfold Ms;rw[Dw,Dw,QF,QF,Ay];refine⟨h.all,?_⟩;rcases hx with rfl|rfl
 ·rw[show b.toList.drop b.size=[] from Di,Dn];exact h.2.1
 ·rw[show a.toList.drop a.size=[] from Di];exact h.2.2
theorem Iv.lastA{a b o:Array Nat}{ia ib:Nat}(h:Iv ky a b o ia ib)(hi:ia+1=a.size)(hL: ∀y∈b.toList,ky y<=kt ky a (a.size - 1)):Ms ky a b (o++b.extract ib b.size++a.extract ia a.size):=by
 unfold Ms;rw[Dw,Dw,QF,QF,Ay];refine⟨(Fi _ Ea).trans h.all,?_⟩;have h2:=h.2.1;rw[UV (show ia<a.size by lia),show a.toList.drop (ia+1)=[] by rw[hi];exact Di] at h2⊢;rw[<- Ay];refine Ep.mpr ⟨h.2.2,Lc _ _,fun y hy z hz=> ?_⟩;rw[Ar.mp hz];rcases Bo.mp hy with hy|hy
 ·exact(P2 h2).1 y hy
 ·have:=hL y (List.mem_of_mem_drop hy)
  rw[<- hi] at this;exact this
def Sd(x y:Pu):Prop:=y.p=x.p/\y.pd=x.pd
def Al(n:Nat)(a:Array Nat):Prop:= ∀i,i<a.size->a.getD i 0<n
def Lf(ky:Nat->Nat)(a b:Array Nat)(x:Pu)(m:Nat)(r:Option (Array Nat))(o:Array Nat)(ia ib:Nat)(y:Pu):Prop:=r=none/\Iv ky a b o ia ib/\ia+1<a.size/\ib<b.size/\m<=ia+ib/\Sd x y
def Td(ky:Nat->Nat)(a b:Array Nat)(x:Pu)(r:Option (Array Nat))(y:Pu):Prop:= ∃t,r=some t/\Ms ky a b t/\Sd x y
noncomputable def vG{β:Type}(t:Option (Array Nat)×Array Nat×β)(e:En):Option (Array Keyed)×Array Keyed×β:=(t.1.map e.of,e.of t.2.1,t.2.2)
theorem ZL(e:En)(o:Array Nat)(i:Nat):(e.of o).push (e.at i)=e.of (o.push i):=by simp[En.of,En.at]
theorem Y9(e:En)(o:Array Nat)(q:Array Nat):e.of o++e.of q=e.of (o++q):=by simp[En.of]
theorem ZS(e:En)(o:Array Nat)(i j:Nat):(e.of o).extract i j=e.of (o.extract i j):=by simp[En.of]
theorem VT(e:En)(o:Array Nat):(e.of o).size=o.size:=by simp[En.of]
theorem PJ(e:En)(o:Array Nat):(e.of o).reverse=e.of o.reverse:=by simp[En.of]
theorem RZ(e:En)(i:Nat): #[e.at i]=e.of #[i]:=by simp[En.of,En.at]
theorem Q4{O:En->Array Keyed}{o:Array Nat}{i:Nat}(h: ∀e:En,O e=e.of o)(e:En):(O e).push (e.at i)=e.of (o.push i):=by rw[h e];exact ZL e o i
theorem X.yieldG{ck:Nat->Nat->Bool}{β:Type}{tail:β}{o:Array Nat}{O:En->Array Keyed}{I J:Option (Array Nat)×Array Nat×β->Pu->Prop}{y:Pu}(h:I (none,o,tail) y)(hO: ∀e,O e=e.of o):X n ck (fun e=>Gu (Cm (none,O e,tail))) y (sv vG) (sR I J):=
 X.yield (none,o,tail) h fun e=>by rw[hO];rfl
theorem X.doneG{ck:Nat->Nat->Bool}{β:Type}{tail:β}{o:Array Nat}{O:En->Array Keyed}{I J:Option (Array Nat)×Array Nat×β->Pu->Prop}{y:Pu}(h:J (none,o,tail) y)(hO: ∀e,O e=e.of o):X n ck (fun e=>Gu (ForInStep.done (none,O e,tail))) y (sv vG) (sR I J):=
 X.done (none,o,tail) h fun e=>by rw[hO];rfl
theorem X.tellD{ck:Nat->Nat->Bool}{β:Type}{tail:β}{a b o:Array Nat}{ia ib:Nat}{O:En->Array Keyed}{I J:Option (Array Nat)×Array Nat×β->Pu->Prop}{x y:Pu}(q:Iv ky a b o ia ib)(hx:ib=b.size∨ia=a.size)(hs:Sd x y)(hO: ∀e,O e=e.of o)(hJ: ∀t,Td ky a b x t.1 y->J t y):
  X n ck (fun e=>Gu (ForInStep.done (some (O e++(e.of a).extract ia (e.of a).size++(e.of b).extract ib (e.of b).size),O e,tail))) y (sv vG) (sR I J):=
 X.done (some (o++a.extract ia a.size++b.extract ib b.size),o,tail) (hJ _ ⟨_,rfl,q.done hx,hs⟩) fun e=>by rw[hO,VT,VT,ZS,ZS,Y9,Y9];rfl
theorem X.tellL{ck:Nat->Nat->Bool}{β:Type}{tail:β}{a b o:Array Nat}{ia ib:Nat}{O:En->Array Keyed}{I J:Option (Array Nat)×Array Nat×β->Pu->Prop}{x y:Pu}(q:Iv ky a b o ia ib)(hL: ∀y∈b.toList,ky y<=kt ky a (a.size - 1))(hi:ia+1=a.size)(hs:Sd x y)(hO: ∀e,O e=e.of o)(hJ: ∀t,Td ky a b x t.1 y->J t y):
  X n ck (fun e=>Gu (ForInStep.done (some (O e++(e.of b).extract ib (e.of b).size++(e.of a).extract ia (e.of a).size),O e,tail))) y (sv vG) (sR I J):=
 X.done (some (o++b.extract ib b.size++a.extract ia a.size),o,tail) (hJ _ ⟨_,rfl,q.lastA hi hL,hs⟩) fun e=>by rw[hO,VT,VT,ZS,ZS,Y9,Y9];rfl
theorem zI5{a b:Array Nat}{x:Pu}(ha:Al n a)(hb:Al n b)(a1:1<=a.size)(b1:1<=b.size)(sa:So ky a 0 a.size)(sb:So ky b 0 b.size)(hF: ∀y∈a.toList,kt ky b 0<=ky y)(hL: ∀y∈b.toList,ky y<=kt ky a (a.size - 1)):X n (lk ky) (fun e=>J5 (e.of a) (e.of b)) x (fun t e=>e.of t) (fun t y=>Ms ky a b t/\Sd x y):=by
 have i1:Iv ky a b #[b.getD 0 0] 0 1:=by
  have e:Iv ky a b #[] 0 0:=⟨by simp,sa.ss,sb.ss⟩;exact e.pushB (by lia) fun h=>hF _ (by simp[Fv,h])
 refine X.go D.rule ?_;refine X.go (D.elem (q:=b) (i:=0) (by lia)) ?_;refine X.eqSize (fun h=>X.ret (#[b.getD 0 0]++a.extract 0 a.size++b.extract 1 b.size) ⟨i1.done (.inl h),rfl,rfl⟩ fun e=> ?_) fun h=> ?_
 ·simp only[<- Y9,<- ZS,VT,RZ]
 refine X.eqSize (fun h=>X.ret (#[b.getD 0 0]++b.extract 1 b.size++a.extract 0 a.size) ⟨i1.lastA h hL,rfl,rfl⟩ fun e=> ?_) fun h2=> ?_
 ·simp only[<- Y9,<- ZS,VT,RZ]
 refine X.go D.get ?_;have tot: ∀e:En,(e.of a).size+(e.of b).size=a.size+b.size:=fun e=>by simp only[VT]
 refine X.bind (u:=vG) (S:=fun t y=>Td ky a b x t.1 y) ?_ ?_
 ·refine X.rangeE (v := vG) (I := fun k t y => Lf ky a b x (a.size + b.size - k) t.1 t.2.1 t.2.2.1 t.2.2.2.1 y) (t := (none,#[b.getD 0 0],0,1,x.g)) (a.size + b.size) tot ?_ ⟨rfl,i1,by dsimp only;lia,by dsimp only;lia,by dsimp only;lia,rfl,rfl⟩ ?_ fun e => ?_
  ·rintro t y ⟨_,_,h3,h4,h5,_⟩
   exact absurd h5 (by lia)
  ·rintro k ⟨r,o,ia,ib,g⟩ y hk ⟨rfl,h2,h3,h4,h5,h6⟩ i
   dsimp only at h2 h3 h4 h5;dsimp only[vG];refine X.bind (u:=vG) (S:=fun t z=>Td ky a b x t.1 z∨Lf ky a b x (ia+ib+1) t.1 t.2.1 t.2.2.1 t.2.2.2.1 z) ?_ ?_
   ·refine X.rangeE (v := vG) (I := fun k t y => Lf ky a b x (ia + ib + if k < a.size + b.size then 1 else 0) t.1 t.2.1 t.2.2.1 t.2.2.2.1 y) (t := (none,o,ia,ib,0,0)) (a.size + b.size) tot ?_ ⟨rfl,h2,h3,h4,by rw [if_neg (by lia)];exact Ag _,h6⟩ ?_
    ·intro t y h
     rw[if_pos (by lia)] at h;exact .inr h
    ·rintro k ⟨r,o,ja,jb,ac,bc⟩ y hk ⟨rfl,g2,g3,g4,g5,g6⟩ i
     dsimp only at g2 g3 g4 g5;dsimp only[vG];have g5':ia+ib<=ja+jb:=by split at g5<;>lia
     refine X.go (D.elem (q:=b) (i:=jb) g4) (X.go (D.elem (q:=a) (i:=ja) (by lia)) (X.go (D.lt (hb _ g4) (ha _ (by lia))) ?_));refine X.ite (fun c=> ?_) fun c=> ?_
     ·refine X.go (D.elem (q:=b) (i:=jb) g4) ?_
      have q:=g2.pushB g4 fun _=>Db (of_decide_eq_true c);refine X.eqSize (fun z=>X.tellD q (.inl z) g6 (fun e=>ZL e _ _) fun t h=> .inl h) fun z=> ?_;exact X.ite (fun _=>X.doneG (.inr ⟨rfl,q,g3,by dsimp only;lia,by dsimp only;lia,g6⟩) fun e=>ZL e _ _) fun _=>X.yieldG ⟨rfl,q,g3,by dsimp only;lia,by dsimp only;rw[if_pos hk];lia,g6⟩ fun e=>ZL e _ _
     ·refine X.go (D.elem (q := a) (i := ja) (by lia)) ?_
      have q:=g2.pushA (show ja<a.size by lia) fun _=>Dt fun z=>c (decide_eq_true z);refine X.eqSize (fun z=>X.tellL q hL z g6 (fun e=>ZL e _ _) fun t h=> .inl h) fun z=> ?_;exact X.ite (fun _=>X.doneG (.inr ⟨rfl,q,by dsimp only;lia,g4,by dsimp only;lia,g6⟩) fun e=>ZL e _ _) fun _=>X.yieldG ⟨rfl,q,by dsimp only;lia,g4,by dsimp only;rw[if_pos hk];lia,g6⟩ fun e=>ZL e _ _
   ·rintro ⟨r,o,ja,jb,ac,bc⟩ z (⟨t,e1,ht⟩|⟨e1,g2,g3,g4,g5,g6⟩)
    ·dsimp only at e1
     subst e1;exact X.done (some t,o,ja,jb,g) ⟨t,rfl,ht⟩
    ·dsimp only at e1 g2 g3 g4 g5
     subst e1;dsimp only[vG];refine X.go D.rule ?_;refine X.bind (u:=vG) (S:=fun t z=>Td ky a b x t.1 z∨Lf ky a b x (ia+ib+1) t.1 t.2.1 t.2.2.1 t.2.2.2.1 z) ?_ ?_
     ·refine X.rangeE (v := vG) (I := fun _ t y => Lf ky a b x (ia + ib + 1) t.1 t.2.1 t.2.2.1 t.2.2.2.1 y) (t := (none,o,ja,jb,g + 1,ac,bc)) (a.size + b.size) tot (fun t y h => .inr h) ⟨rfl,g2,g3,g4,g5,g6⟩ ?_
      rintro k ⟨r,o,ja,jb,g,ac,bc⟩ y hk ⟨rfl,g2,g3,g4,g5,g6⟩ i;dsimp only at g2 g3 g4 g5;dsimp only[vG];refine X.ite (fun _=> ?_) fun _=> ?_
      all_goals
       refine X.go D.setMin (X.go (D.elem (q:=b) (i:=jb) g4) (X.bind (galE (a.size - ja) (fun e=>by simp only[VT]) (hb _ g4) (by lia) (by lia) ha sa) ?_));rintro d z ⟨⟨_,hd,c1,c2⟩,rfl⟩;have c1: ∀i,i<d->kt ky a (ja+i)<=kt ky b jb:=fun i hi=>Kp (c1 i hi);have c2:ja+d<a.size->kt ky b jb<=kt ky a (ja+d):=fun h=>Db (c2 d (Ag _) (by lia));refine X.ite (fun _=> ?_) fun h0=> ?_;have q:=g2.extA d (by lia) fun i hi _=>c1 i hi;have qO: ∀e:En,e.of o++(e.of a).extract ja (ja+d)=e.of (o++a.extract ja (ja+d)):=fun e=>by rw[ZS,Y9]
       refine X.eqSize (fun z=>X.tellL q hL z g6 qO fun t h=> .inl h) fun z1=>X.eqSize (fun z=>X.tellD q (.inr z) g6 qO fun t h=> .inl h) fun z2=> ?_;have g7:ja+d+1<a.size:=by lia
       have g8:ia+ib+1<=ja+d+jb:=by lia
       rotate_left;obtain rfl:d=0:=by lia
       have q:=g2;have qO: ∀e:En,e.of o=e.of o:=fun e=>rfl;have g7:=g3;have g8:=g5
       all_goals
        refine X.go (D.elem (q:=b) (i:=jb) g4) ?_;have r:=q.pushB g4 c2;have rO:=Q4 (i:=b.getD jb 0) qO;refine X.eqSize (fun z=>X.tellD r (.inl z) g6 rO fun t h=> .inl h) fun z3=> ?_;refine X.go (D.elem (q:=a) (Ii g7)) (X.bind (galE (b.size - (jb+1)) (fun e=>by simp only[VT]) (ha _ (Ii g7)) (by lia) (by lia) hb sb) ?_);rintro d2 z ⟨⟨_,hd2,c3,c4⟩,rfl⟩;refine X.ite (fun _=> ?_) fun h0=> ?_;have u:=r.extB d2 (by lia) fun i hi _=>Db (c3 i hi);have uO: ∀e:En,_=e.of _:=fun e=>((congrArg (fun O=>O++(e.of b).extract (jb+1) (jb+1+d2)) (rO e)).trans (by rw[ZS])).trans (Y9 e _ _);refine X.eqSize (fun z=>X.tellD u (.inl z) g6 uO fun t h=> .inl h) fun z4=> ?_;rotate_left;obtain rfl:d2=0:=by lia
        have u:=r;have uO:=rO;have z4:=z3
        all_goals
         refine X.go (D.elem (q:=a) (Ii g7)) ?_;have w:=u.pushA (Ii g7) fun h=>c4 _ (Ag _) (by lia);refine X.eqSize (fun z=>X.tellL w hL z g6 (Q4 uO) fun t h=> .inl h) fun z5=> ?_;exact X.ite (fun _=>X.doneG (.inr ⟨rfl,w,by dsimp only;lia,by dsimp only;lia,by dsimp only;lia,g6⟩) (Q4 uO)) fun _=>X.yieldG ⟨rfl,w,by dsimp only;lia,by dsimp only;lia,by dsimp only;lia,g6⟩ (Q4 uO)
     ·rintro ⟨r,o,ja,jb,g,ac,bc⟩ z (⟨t,e1,ht⟩|⟨e1,g2,g3,g4,g5,g6⟩)
      ·dsimp only at e1
       subst e1;exact X.done (some t,o,ja,jb,g) ⟨t,rfl,ht⟩
      ·dsimp only at e1 g2 g3 g4 g5
       subst e1;dsimp only[vG];refine X.go D.setMin ?_;exact X.yieldG ⟨rfl,g2,g3,g4,by dsimp only;lia,g6⟩ fun e=>rfl
  ·simp only[RZ]
   rfl
 ·rintro ⟨r,o,ia,ib,g⟩ y ⟨t,e1,h⟩
  dsimp only at e1;subst e1;exact X.ret t h
end
section
variable{n:Nat}{ky:Nat->Nat}
def Iw(ky:Nat->Nat)(a b o:Array Nat)(na nb:Nat):Prop:=o.toList.Perm (a.toList.drop na++b.toList.drop nb)/\Ss ky (a.toList.take na++o.toList.reverse)/\Ss ky (b.toList.take nb++o.toList.reverse)
theorem zAD{a:Array Nat}{i:Nat}(h:i<a.size):a.getD i 0∈a.toList:=by
 rw[show a.getD i 0=a[i] by simp[Fv,h]];simp
theorem Iw.swap{a b o:Array Nat}{na nb:Nat}(h:Iw ky a b o na nb):Iw ky b a o nb na:=⟨h.1.trans Ea,h.2.2,h.2.1⟩
theorem NN{a:Array Nat}{i:Nat}(h0:0<i)(h:i<=a.size):a.toList.take i=a.toList.take (i - 1)++[a.getD (i - 1) 0]:=by
 have e:=TR (a:=a) (i:=i - 1) (by lia);rw[show i - 1+1=i by lia] at e;exact e
theorem zGT{x:Nat}{o l r:List Nat}(h:Ss ky (o++[x]++r)): ∀y∈o++[x],ky y<=ky x:=fun y hy=>by
 have h:=(Ep.mp h).1;rcases Bo.mp hy with hy|hy
 ·exact(Ep.mp h).2.2 y hy x Au
 ·rw[Ar.mp hy];exact Ag _
theorem Iw.pushA{a b o:Array Nat}{na nb:Nat}(h:Iw ky a b o na nb)(h0:0<na)(h1:na<=a.size)(h2:nb<=b.size)(hl:0<nb->kt ky b (nb - 1)<=kt ky a (na - 1)):Iw ky a b (o.push (a.getD (na - 1) 0)) (na - 1) nb:=by
 obtain⟨g1,g2,g3⟩:=h;rw[NN h0 h1,Ay] at g2;unfold Iw;rw[Et,List.reverse_append];refine⟨?_,g2,IU g3 (fun y hy=> ?_) (P2 g2).2⟩
 ·rw [UV (show na - 1 < a.size by lia),show na - 1 + 1 = na by lia,Gd]
  exact Ea.trans (List.Perm.cons _ g1)
 ·by_cases hb:0<nb
  ·rw[NN hb h2] at g3 hy
   exact Bu (zGT (l:=[]) g3 y hy) (hl hb)
  ·rw [show nb = 0 by lia] at hy
   cases hy
theorem Iw.pushB{a b o:Array Nat}{na nb:Nat}(h:Iw ky a b o na nb)(h0:0<nb)(h1:nb<=b.size)(h2:na<=a.size)(hl:0<na->kt ky a (na - 1)<=kt ky b (nb - 1)):Iw ky a b (o.push (b.getD (nb - 1) 0)) na (nb - 1):=(h.swap.pushA h0 h1 h2 hl).swap
theorem zA3{a:Array Nat}{t m:Nat}(h0:0<t)(h1:t<=m)(h2:m<=a.size):(a.extract (t - 1) m).reverse=(a.extract t m).reverse.push (a.getD (t - 1) 0):=by
 apply Ip.mp;have e:a.getD (t - 1) 0=a[t - 1]'(by lia):=by simp[Fv,show t - 1<a.size by lia]
 rw[Et,Hd,Hd,YC,YC,Cn (i:=t - 1) (by rw[Bp];show t - 1<min m a.size;lia),show t - 1+1=t by lia,List.reverse_cons,List.getElem_take,e];simp
theorem Iw.extA'{a b o:Array Nat}{na nb:Nat}(h:Iw ky a b o na nb)(h1:na<=a.size)(h2:nb<=b.size): ∀d,d<=na->(∀i,na - d<=i->i<na->0<nb->kt ky b (nb - 1)<=kt ky a i)->Iw ky a b (o++(a.extract (na - d) na).reverse) (na - d) nb
 |0,_,_=>by rw[Nat.sub_zero,JT,Array.reverse_empty,Nz];exact h
 |d+1,h3,h4=>by
  have ih:=(Iw.extA' h h1 h2 d (by lia) fun i hi=>h4 i (by lia)).pushA (by lia) (by lia) h2 (h4 _ (by lia) (by lia));rw[show na - (d+1)=na - d - 1 by lia,zA3 (by lia) (by lia) h1,Ow];exact ih
theorem Iw.extA{a b o:Array Nat}{na nb:Nat}(h:Iw ky a b o na nb)(h1:na<=a.size)(h2:nb<=b.size){t:Nat}(ht:t<=na)(h4: ∀i,t<=i->i<na->kt ky b (nb - 1)<=kt ky a i):Iw ky a b (o++(a.extract t na).reverse) t nb:=by
 have e:na - (na - t)=t:=by lia
 have:=h.extA' h1 h2 (na - t) (by lia) fun i h5 h6 _=>h4 i (by lia) h6;rw[e] at this;exact this
theorem Iw.extB{a b o:Array Nat}{na nb:Nat}(h:Iw ky a b o na nb)(h1:nb<=b.size)(h2:na<=a.size){t:Nat}(ht:t<=nb)(h4: ∀i,t<=i->i<nb->kt ky a (na - 1)<=kt ky b i):Iw ky a b (o++(b.extract t nb).reverse) na t:=(h.swap.extA h1 h2 ht h4).swap
theorem Iw.all{a b o:Array Nat}{na nb:Nat}(h:Iw ky a b o na nb):((a.toList.take na++b.toList.take nb)++o.toList.reverse).Perm (a.toList++b.toList):=by
 refine(Fi _ ((List.reverse_perm _).trans h.1)).trans ?_;have e1:=Eb na a.toList;have e2:=Eb nb b.toList;generalize a.toList.take na=a1 at*;generalize a.toList.drop na=a2 at*;generalize b.toList.take nb=b1 at*;generalize b.toList.drop nb=b2 at*;rw[<- e1,<- e2,Ay,Ay];refine Fi _ ?_;rw[<- Ay,<- Ay];exact Gi _ Ea
theorem LV(a:Array Nat)(i:Nat):(a.extract 0 i).toList=a.toList.take i:=by rw[YC];rfl
theorem Iw.done{a b o:Array Nat}{na nb:Nat}(h:Iw ky a b o na nb)(hx:na=0∨nb=0):Ms ky a b (a.extract 0 na++b.extract 0 nb++o.reverse):=by
 unfold Ms;rw[Dw,Dw,LV,LV,Hd];refine⟨h.all,?_⟩;rcases hx with rfl|rfl
 ·exact h.2.2
 ·rw[Rf,Dn];exact h.2.1
theorem Iw.first{a b o:Array Nat}{na nb:Nat}(h:Iw ky a b o na nb)(hn:nb=1)(hb:1<=b.size)(hF: ∀y∈a.toList,kt ky b 0<=ky y):Ms ky a b (b.extract 0 nb++a.extract 0 na++o.reverse):=by
 unfold Ms;rw[Dw,Dw,LV,LV,Hd];refine⟨(Gi _ Ea).trans h.all,?_⟩;subst hn;have h3:=h.2.2;rw[TR (i:=0) (by lia)] at h3⊢;rw[Ay];refine IU (o:=[]) h.2.1 (fun _ h=>by cases h) fun y hy=> ?_;rcases Bo.mp hy with hy|hy
 ·exact hF y (List.mem_of_mem_take hy)
 ·exact(P2 (o:=[]) h3).2 y hy
def Lh(ky:Nat->Nat)(a b:Array Nat)(x:Pu)(m:Nat)(r:Option (Array Nat))(o:Array Nat)(na nb:Nat)(y:Pu):Prop:=r=none/\Iw ky a b o na nb/\0<na/\na<=a.size/\1<nb/\nb<=b.size/\na+nb<=m/\Sd x y
abbrev HT(β:Type):=Option (Array Nat)×Nat×Nat×Array Nat×β
noncomputable def vH{β:Type}(t:HT β)(e:En):Option (Array Keyed)×Nat×Nat×Array Keyed×β:=(t.1.map e.of,t.2.1,t.2.2.1,e.of t.2.2.2.1,t.2.2.2.2)
theorem X.yieldH{ck:Nat->Nat->Bool}{β:Type}{tail:β}{o:Array Nat}{na nb:Nat}{O:En->Array Keyed}{I J:HT β->Pu->Prop}{y:Pu}(h:I (none,na,nb,o,tail) y)(hO: ∀e,O e=e.of o):X n ck (fun e=>Gu (Cm (none,na,nb,O e,tail))) y (sv vH) (sR I J):=
 X.yield (none,na,nb,o,tail) h fun e=>by rw[hO];rfl
theorem X.doneH{ck:Nat->Nat->Bool}{β:Type}{tail:β}{o:Array Nat}{na nb:Nat}{O:En->Array Keyed}{I J:HT β->Pu->Prop}{y:Pu}(h:J (none,na,nb,o,tail) y)(hO: ∀e,O e=e.of o):X n ck (fun e=>Gu (ForInStep.done (none,na,nb,O e,tail))) y (sv vH) (sR I J):=
 X.done (none,na,nb,o,tail) h fun e=>by rw[hO];rfl
theorem X.tellE{ck:Nat->Nat->Bool}{β:Type}{tail:β}{a b o:Array Nat}{na nb:Nat}{O:En->Array Keyed}{I J:HT β->Pu->Prop}{x y:Pu}(q:Iw ky a b o na nb)(hx:na=0∨nb=0)(hs:Sd x y)(hO: ∀e,O e=e.of o)(hJ: ∀t,Td ky a b x t.1 y->J t y):
  X n ck (fun e=>Gu (ForInStep.done (some ((e.of a).extract 0 na++(e.of b).extract 0 nb++(O e).reverse),na,nb,O e,tail))) y (sv vH) (sR I J):=
 X.done (some (a.extract 0 na++b.extract 0 nb++o.reverse),na,nb,o,tail) (hJ _ ⟨_,rfl,q.done hx,hs⟩) fun e=>by rw[hO,ZS,ZS,PJ,Y9,Y9];rfl
theorem X.tellF{ck:Nat->Nat->Bool}{β:Type}{tail:β}{a b o:Array Nat}{na nb:Nat}{O:En->Array Keyed}{I J:HT β->Pu->Prop}{x y:Pu}(q:Iw ky a b o na nb)(hb:1<=b.size)(hF: ∀y∈a.toList,kt ky b 0<=ky y)(hn:nb=1)(hs:Sd x y)(hO: ∀e,O e=e.of o)(hJ: ∀t,Td ky a b x t.1 y->J t y):
  X n ck (fun e=>Gu (ForInStep.done (some ((e.of b).extract 0 nb++(e.of a).extract 0 na++(O e).reverse),na,nb,O e,tail))) y (sv vH) (sR I J):=
 X.done (some (b.extract 0 nb++a.extract 0 na++o.reverse),na,nb,o,tail) (hJ _ ⟨_,rfl,q.first hn hb hF,hs⟩) fun e=>by rw[hO,ZS,ZS,PJ,Y9,Y9];rfl
theorem X.is{ck:Nat->Nat->Bool}{α τ:Type}{m k:Nat}{dc:En->Decidable ((m==k)=true)}{a b:En->StateT Ez Sem α}{x:Pu}{v:τ->En->α}{R:τ->Pu->Prop}(h1:m=k->X n ck a x v R)(h2:m≠k->X n ck b x v R):X n ck (fun e=> @_root_.ite _ ((m==k)=true) (dc e) (a e) (b e)) x v R:=
 X.ite (fun h=>h1 (by simpa using h)) fun h=>h2 (by simpa using h)
theorem X.iteE{ck:Nat->Nat->Bool}{α τ:Type}{c:En->Prop}{dc:(e:En)->Decidable (c e)}{a b:En->StateT Ez Sem α}{x:Pu}{v:τ->En->α}{R:τ->Pu->Prop}{c0:Prop}(hc: ∀e,c e=c0)(h1:c0->X n ck a x v R)(h2: ¬c0->X n ck b x v R):X n ck (fun e=> @_root_.ite _ (c e) (dc e) (a e) (b e)) x v R:=by
 obtain rfl:c=fun _=>c0:=funext hc;exact X.ite h1 h2
theorem revO{O:En->Array Keyed}{o a:Array Nat}{i j:Nat}(h: ∀e:En,O e=e.of o)(e:En):O e++((e.of a).extract i j).reverse=e.of (o++(a.extract i j).reverse):=by rw[h e,ZS,PJ,Y9]
theorem zI6{a b:Array Nat}{x:Pu}(ha:Al n a)(hb:Al n b)(a1:1<=a.size)(b1:1<=b.size)(sa:So ky a 0 a.size)(sb:So ky b 0 b.size)(hF: ∀y∈a.toList,kt ky b 0<=ky y)(hL: ∀y∈b.toList,ky y<=kt ky a (a.size - 1)):X n (lk ky) (fun e=>J4 (e.of a) (e.of b)) x (fun t e=>e.of t) (fun t y=>Ms ky a b t/\Sd x y):=by
 have i1:Iw ky a b #[a.getD (a.size - 1) 0] (a.size - 1) b.size:=by
  have e:Iw ky a b #[] a.size b.size:=by
   unfold Iw;rw[show a.size=a.toList.length from rfl,show b.size=b.toList.length from rfl,Di,Di,Lm,Lm];exact⟨.refl _,by rw[Ps,Dn];exact sa.ss,by rw[Ps,Dn];exact sb.ss⟩
  exact e.pushA (by lia) (Ag _) (Ag _) fun h=>hL _ (zAD (by lia))
 refine X.go D.rule ?_;simp only[VT];refine X.go (D.elem (q:=a) (i:=a.size - 1) (by lia)) ?_;refine X.is (fun h=>X.ret (a.extract 0 (a.size - 1)++b.extract 0 b.size++ #[a.getD (a.size - 1) 0].reverse) ⟨i1.done (.inl h),rfl,rfl⟩ fun e=> ?_) fun h=> ?_
 ·simp only[<- Y9,<- ZS,<- PJ,RZ]
 refine X.is (fun h=>X.ret (b.extract 0 b.size++a.extract 0 (a.size - 1)++ #[a.getD (a.size - 1) 0].reverse) ⟨i1.first h b1 hF,rfl,rfl⟩ fun e=> ?_) fun h2=> ?_
 ·simp only[<- Y9,<- ZS,<- PJ,RZ]
 refine X.go D.get ?_;refine X.bind (u:=vH) (S:=fun t y=>Td ky a b x t.1 y) ?_ ?_
 ·refine X.rangeE (v := vH) (I := fun k t y => Lh ky a b x k t.1 t.2.2.2.1 t.2.1 t.2.2.1 y) (t := (none,a.size - 1,b.size,#[a.getD (a.size - 1) 0],x.g)) (a.size + b.size) (fun e => rfl) ?_ ⟨rfl,i1,by dsimp only;lia,by dsimp only;lia,by dsimp only;lia,Ag _,by dsimp only;lia,rfl,rfl⟩ ?_ fun e => ?_
  ·rintro t y ⟨_,_,h3,h4,h5,h6,h7,_⟩
   exact absurd h7 (by lia)
  ·rintro k ⟨r,na,nb,o,g⟩ y hk ⟨rfl,h2,h3,h3',h4,h4',h5,h6⟩ i
   dsimp only at h2 h3 h3' h4 h4' h5;dsimp only[vH];refine X.bind (u:=vH) (S:=fun t z=>Td ky a b x t.1 z∨Lh ky a b x k t.1 t.2.2.2.1 t.2.1 t.2.2.1 z) ?_ ?_
   ·refine X.rangeE (v := vH) (I := fun j t y => Lh ky a b x (if j < a.size + b.size then k else k + 1) t.1 t.2.2.2.1 t.2.1 t.2.2.1 y) (t := (none,na,nb,o,0,0)) (a.size + b.size) (fun e => rfl) ?_ ⟨rfl,h2,h3,h3',h4,h4',by rw [if_neg (by lia)];exact h5,h6⟩ ?_
    ·intro t y h
     rw[if_pos (by lia)] at h;exact .inr h
    ·rintro j ⟨r,ka,kb,o,ac,bc⟩ y hk ⟨rfl,g2,g3,g3',g4,g4',g5,g6⟩ i
     dsimp only at g2 g3 g3' g4 g4' g5;dsimp only[vH];have g5':ka+kb<=k+1:=by split at g5<;>lia
     refine X.go (D.elem (q:=b) (i:=kb - 1) (by lia)) (X.go (D.elem (q:=a) (i:=ka - 1) (by lia)) (X.go (D.lt (hb _ (by lia)) (ha _ (by lia))) ?_));refine X.ite (fun c=> ?_) fun c=> ?_
     ·refine X.go (D.elem (q := a) (i := ka - 1) (by lia)) ?_
      have q:=g2.pushA g3 g3' g4' fun _=>Db (of_decide_eq_true c);refine X.is (fun z=>X.tellE q (.inl z) g6 (fun e=>ZL e _ _) fun t h=> .inl h) fun z=> ?_;exact X.ite (fun _=>X.doneH (.inr ⟨rfl,q,by dsimp only;lia,by dsimp only;lia,g4,g4',by dsimp only;lia,g6⟩) fun e=>ZL e _ _) fun _=>X.yieldH ⟨rfl,q,by dsimp only;lia,by dsimp only;lia,g4,g4',by dsimp only;rw[if_pos hk];lia,g6⟩ fun e=>ZL e _ _
     ·refine X.go (D.elem (q := b) (i := kb - 1) (by lia)) ?_
      have q:=g2.pushB (by lia) g4' g3' fun _=>Dt fun z=>c (decide_eq_true z);refine X.is (fun z=>X.tellF q b1 hF z g6 (fun e=>ZL e _ _) fun t h=> .inl h) fun z=> ?_;exact X.ite (fun _=>X.doneH (.inr ⟨rfl,q,g3,g3',by dsimp only;lia,by dsimp only;lia,by dsimp only;lia,g6⟩) fun e=>ZL e _ _) fun _=>X.yieldH ⟨rfl,q,g3,g3',by dsimp only;lia,by dsimp only;lia,by dsimp only;rw[if_pos hk];lia,g6⟩ fun e=>ZL e _ _
   ·rintro ⟨r,ka,kb,o,ac,bc⟩ z (⟨t,e1,ht⟩|⟨e1,g2,g3,g3',g4,g4',g5,g6⟩)
    ·dsimp only at e1
     subst e1;exact X.done (some t,ka,kb,o,g) ⟨t,rfl,ht⟩
    ·dsimp only at e1 g2 g3 g3' g4 g4' g5
     subst e1;dsimp only[vH];refine X.go D.rule ?_;refine X.bind (u:=vH) (S:=fun t z=>Td ky a b x t.1 z∨Lh ky a b x k t.1 t.2.2.2.1 t.2.1 t.2.2.1 z) ?_ ?_
     ·refine X.rangeE (v := vH) (I := fun _ t y => Lh ky a b x k t.1 t.2.2.2.1 t.2.1 t.2.2.1 y) (t := (none,ka,kb,o,g + 1,ac,bc)) (a.size + b.size) (fun e => rfl) (fun t y h => .inr h) ⟨rfl,g2,g3,g3',g4,g4',g5,g6⟩ ?_
      rintro j ⟨r,ka,kb,o,g,ac,bc⟩ y hk ⟨rfl,g2,g3,g3',g4,g4',g5,g6⟩ i;dsimp only at g2 g3 g3' g4 g4' g5;dsimp only[vH];refine X.ite (fun _=> ?_) fun _=> ?_
      all_goals
       refine X.go D.setMin (X.go (D.elem (q:=b) (i:=kb - 1) (by lia)) (X.bind (galE ka (fun _=>rfl) (hb _ (by lia)) (by lia) (by lia) ha sa) ?_));rintro d z ⟨⟨_,hd,c1,c2⟩,rfl⟩;have c1: ∀i,i<d->kt ky a i<=kt ky b (kb - 1):=fun i hi=>by have:=c1 i hi;rw[Fw] at this;exact Kp this
       have c2: ∀i,d<=i->i<ka->kt ky b (kb - 1)<=kt ky a i:=fun i h1 h2=>by have:=c2 i h1 h2;rw[Fw] at this;exact Db this
       refine X.ite (fun _=> ?_) fun h0=> ?_;have q:=g2.extA g3' g4' hd c2;have qO:=revO (o:=o) (a:=a) (i:=d) (j:=ka) fun e=>rfl;refine X.is (fun z=>X.tellE q (.inl z) g6 qO fun t h=> .inl h) fun z1=> ?_;rotate_left;obtain rfl:d=ka:=by lia
       have q:=g2;have qO: ∀e:En,e.of o=e.of o:=fun e=>rfl;have z1:d≠0:=by lia
       all_goals
        have d1:d - 1<a.size:=by lia
        refine X.go (D.elem (q:=b) (i:=kb - 1) (by lia)) ?_;have r:=q.pushB (show 0<kb by lia) g4' (by lia) fun h=>c1 (d - 1) (by lia);have rO:=Q4 (i:=b.getD (kb - 1) 0) qO;refine X.is (fun z=>X.tellF r b1 hF z g6 rO fun t h=> .inl h) fun z3=> ?_;refine X.go (D.elem (q:=a) (i:=d - 1) d1) (X.bind (galE (kb - 1) (fun _=>rfl) (ha _ d1) (by lia) (by lia) hb sb) ?_);rintro d2 z ⟨⟨_,hd2,c3,c4⟩,rfl⟩;have c3: ∀i,i<d2->kt ky b i<=kt ky a (d - 1):=fun i hi=>by have:=c3 i hi;rw[Fw] at this;exact Db this
        have c4: ∀i,d2<=i->i<kb - 1->kt ky a (d - 1)<=kt ky b i:=fun i h1 h2=>by have:=c4 i h1 h2;rw[Fw] at this;exact this
        refine X.ite (fun _=> ?_) fun h0=> ?_;have u:=r.extB (by lia) (by lia) hd2 c4;have uO:=revO (a:=b) (i:=d2) (j:=kb - 1) rO;refine X.is (fun z=>X.tellF u b1 hF z g6 uO fun t h=> .inl h) fun z4=>X.is (fun z=>X.tellE u (.inr z) g6 uO fun t h=> .inl h) fun z4'=> ?_;rotate_left;obtain rfl:d2=kb - 1:=by lia
        have u:=r;have uO:=rO;have z4:=z3;have z4':kb - 1≠0:=by lia
        all_goals
         refine X.go (D.elem (q:=a) (i:=d - 1) d1) ?_;have w:=u.pushA (show 0<d by lia) (by lia) (by lia) fun h=>c3 _ (by lia);refine X.is (fun z=>X.tellE w (.inl z) g6 (Q4 uO) fun t h=> .inl h) fun z5=> ?_;exact X.iteE (c0:=(decide (_<7) && decide (_<7))=true) (fun e=>rfl) (fun _=>X.doneH (.inr ⟨rfl,w,by dsimp only;lia,by dsimp only;lia,by dsimp only;lia,by dsimp only;lia,by dsimp only;lia,g6⟩) (Q4 uO)) fun _=>X.yieldH ⟨rfl,w,by dsimp only;lia,by dsimp only;lia,by dsimp only;lia,by dsimp only;lia,by dsimp only;lia,g6⟩ (Q4 uO)
     ·rintro ⟨r,ka,kb,o,g,ac,bc⟩ z (⟨t,e1,ht⟩|⟨e1,g2,g3,g3',g4,g4',g5,g6⟩)
      ·dsimp only at e1
       subst e1;exact X.done (some t,ka,kb,o,g) ⟨t,rfl,ht⟩
      ·dsimp only at e1 g2 g3 g3' g4 g4' g5
       subst e1;dsimp only[vH];refine X.go D.setMin ?_;exact X.yieldH ⟨rfl,g2,g3,g3',g4,g4',g5,g6⟩ fun e=>rfl
  ·simp only[RZ]
   rfl
 ·rintro ⟨r,na,nb,o,g⟩ y ⟨t,e1,h⟩
  dsimp only at e1;subst e1;exact X.ret t h
end
section
variable{n:Nat}{ky:Nat->Nat}
theorem So.keep{p q:Array Nat}{i j:Nat}(h:So ky p i j)(e: ∀t,i<=t->t<j->q.getD t 0=p.getD t 0):So ky q i j:=fun a b h1 h2 h3=>by
 unfold kt;rw[e a h1 (by lia),e b (by lia) h3];exact h a b h1 h2 h3
theorem So.sub{p:Array Nat}{i j i' j':Nat}(h:So ky p i j)(h1:i<=i')(h2:j'<=j):So ky p i' j':=fun a b g1 g2 g3=>h a b (by lia) g2 (by lia)
theorem So.le{p:Array Nat}{i j a b:Nat}(h:So ky p i j)(h1:i<=a)(h2:a<=b)(h3:b<j):kt ky p a<=kt ky p b:=by
 by_cases e:a=b
 ·rw[e];exact Ag _
 ·exact h a b h1 (by lia) h3
theorem So.cat{p:Array Nat}{i m j:Nat}(h1:So ky p i m)(h2:So ky p m j)(h: ∀a b,i<=a->a<m->m<=b->b<j->kt ky p a<=kt ky p b):So ky p i j:=fun a b g1 g2 g3=>by
 by_cases e:b<m
 ·exact h1 a b g1 g2 e
 ·by_cases e2:a<m
  ·exact h a b g1 e2 (by lia) g3
  ·exact h2 a b (by lia) g2 g3
def Ch(ky:Nat->Nat)(p:Array Nat):List (Nat×Nat×Nat)->Nat->Nat->Prop
 |[],s,e=>s=e
 |u::l,s,e=>u.1=s/\1<=u.2.1/\So ky p s (s+u.2.1)/\Ch ky p l (s+u.2.1) e
theorem Ch.len{p:Array Nat}: ∀{l:List (Nat×Nat×Nat)} {s e:Nat},Ch ky p l s e->s+l.length<=e
 |[],s,e,h=>Nat.le_of_eq h
 |u::l,s,e,h=>by
  have:=Ch.len h.2.2.2;have:=h.2.1;rw[Bm];lia
theorem Ch.keep{p q:Array Nat}: ∀{l:List (Nat×Nat×Nat)} {s e:Nat},Ch ky p l s e->(∀t,s<=t->t<e->q.getD t 0=p.getD t 0)->Ch ky q l s e
 |[],s,e,h,_=>h
 |u::l,s,e,h,k=>by
  have:=Ch.len h.2.2.2;exact⟨h.1,h.2.1,h.2.2.1.keep fun t h1 h2=>k t h1 (by lia),Ch.keep h.2.2.2 fun t h1 h2=>k t (by lia) h2⟩
theorem Ch.two{p:Array Nat}: ∀{l:List (Nat×Nat×Nat)} {s e i:Nat} {u v:Nat×Nat×Nat},Ch ky p l s e->l[i]? =some u->l[i+1]? =some v->v.1=u.1+u.2.1/\1<=u.2.1/\1<=v.2.1/\v.1+v.2.1<=e/\s<=u.1/\So ky p u.1 v.1/\So ky p v.1 (v.1+v.2.1)
 |[],s,e,i,u,v,h,h1,h2=>by simp at h1
 |[w],s,e,i,u,v,h,h1,h2=>by simp at h2
 |w::w'::l,s,e,0,u,v,h,h1,h2=>by
  simp at h1 h2;subst h1 h2;obtain⟨a1,a2,a3,a4,a5,a6,a7⟩:=h;have:=a7.len;rw[a1,a4];exact⟨rfl,a2,a5,by lia,Ag _,a3,a6⟩
 |w::w'::l,s,e,i+1,u,v,h,h1,h2=>by
  have ih:=Ch.two (l:=w'::l) h.2.2.2 (by simpa using h1) (by simpa using h2);exact⟨ih.1,ih.2.1,ih.2.2.1,ih.2.2.2.1,by lia,ih.2.2.2.2.2⟩
theorem Ch.join{p q:Array Nat}: ∀{l:List (Nat×Nat×Nat)} {s e i:Nat} {u v:Nat×Nat×Nat},Ch ky p l s e->l[i]? =some u->l[i+1]? =some v->(∀t,t<u.1∨v.1+v.2.1<=t->q.getD t 0=p.getD t 0)->So ky q u.1 (v.1+v.2.1)->Ch ky q ((l.set i (u.1,u.2.1+v.2.1,u.2.2)).eraseIdx (i+1)) s e
 |[],s,e,i,u,v,h,h1,h2,_,_=>by simp at h1
 |[w],s,e,i,u,v,h,h1,h2,_,_=>by simp at h2
 |w::w'::l,s,e,0,u,v,h,h1,h2,k,hs=>by
  simp at h1 h2;subst h1 h2;obtain⟨a1,a2,a3,a4,a5,a6,a7⟩:=h;rw[a1,a4,Ja] at hs;rw[Ja] at a7;exact⟨a1,by dsimp only;lia,hs,a7.keep fun t h1 h2=>k t (by lia)⟩
 |w::w'::l,s,e,i+1,u,v,h,h1,h2,k,hs=>by
  have h1:(w'::l)[i]? =some u:=by simpa using h1
  have h2:(w'::l)[i+1]? =some v:=by simpa using h2
  have le:=(Ch.two h.2.2.2 h1 h2).2.2.2.2.1;exact⟨h.1,h.2.1,h.2.2.1.keep fun t h1 h2=>k t (by lia),Ch.join h.2.2.2 h1 h2 k hs⟩
theorem Ch.more{p:Array Nat}: ∀{l:List (Nat×Nat×Nat)} {s e m:Nat},Ch ky p l s e->1<=m->So ky p e (e+m)->Ch ky p (l++[(e,m,0)]) s (e+m)
 |[],s,e,m,h,h1,hs=>⟨h.symm,h1,by rw[h];exact hs,by rw[h];rfl⟩
 |u::l,s,e,m,h,h1,hs=>⟨h.1,h.2.1,h.2.2.1,Ch.more h.2.2.2 h1 hs⟩
theorem Ch.mod{p:Array Nat}{f:Nat×Nat×Nat->Nat×Nat×Nat}(hf: ∀u,(f u).1=u.1/\(f u).2.1=u.2.1): ∀{l:List (Nat×Nat×Nat)} {s e:Nat} (i:Nat),Ch ky p l s e->Ch ky p (l.modify i f) s e
 |[],s,e,i,h=>by simpa using h
 |u::l,s,e,0,h=>by
  rw[List.modify_zero_cons];exact⟨(hf u).1.trans h.1,by rw[(hf u).2];exact h.2.1,by rw[(hf u).2];exact h.2.2⟩
 |u::l,s,e,i+1,h=>by
  rw[List.modify_succ_cons];exact⟨h.1,h.2.1,h.2.2.1,Ch.mod hf i h.2.2.2⟩
noncomputable def put{α:Type}(p:Array α)(s:Nat)(l:List α)(k:Nat):Array α:=(l.zipIdx k).foldl (fun a x=>a.setIfInBounds (s+x.2) x.1) p
theorem GZ{α β:Type}(f:α->β)(s:Nat): ∀(l:List α) (k:Nat) (p:Array α),put (p.map f) s (l.map f) k=(put p s l k).map f
 |[],k,p=>rfl
 |q::l,k,p=>by
  have e:(p.map f).setIfInBounds (s+k) (f q)=(p.setIfInBounds (s+k) q).map f:=by simp
  show put ((p.map f).setIfInBounds (s+k) (f q)) s (l.map f) (k+1)=_;rw[e];exact GZ f s l (k+1) _
theorem PQ{α:Type}(s:Nat): ∀(l:List α) (k:Nat) (p:Array α),s+k+l.length<=p.size->(put p s l k).toList=p.toList.take (s+k)++l++p.toList.drop (s+k+l.length)
 |[],k,p,h=>by simp[put]
 | q :: l,k,p,h => by
  simp only[Bm] at h;have ih:=PQ s l (k+1) (p.setIfInBounds (s+k) q) (by simp;lia);show(put (p.setIfInBounds (s+k) q) s l (k+1)).toList=_;have hk:s+k<p.toList.length:=by simp;lia
  rw[ih,Array.toList_setIfInBounds,show s+(k+1)=s+k+1 by lia,List.drop_set_of_lt (by lia),List.take_set,Rb,Cg hk];simp only[Bm,Option.toList_some];rw[show s+k+(l.length+1)=s+k+1+l.length by lia];have e2:(p.toList.take (s+k)++[p.toList[s+k]]).set (s+k) q=p.toList.take (s+k)++[q]:=by
   have ae:(p.toList.take (s+k)).length=s+k:=by rw[Bp];lia
   rw[Fj _ _ (by lia),ae,Nat.sub_self];rfl
  rw[e2];simp
theorem zE4{p t:Array Nat}{s:Nat}(h:s+t.size<=p.size)(i:Nat):(put p s t.toList 0).getD i 0=if s<=i/\i<s+t.size then t.getD (i - s) 0 else p.getD i 0:=by
 have e:=PQ s t.toList 0 p (by simpa using h);simp only[Gv,<- Array.getElem?_toList];rw[e,Pg,Ay];have l1:(p.toList.take s).length=s:=by rw[Bp];show min s p.size=s;lia
 by_cases h1:i<s
 ·rw[if_neg (by lia),Ai (by lia),Cb h1]
 ·rw [Bt (by lia),l1]
  by_cases h2:i<s+t.size
  ·rw[if_pos (by lia),Ai (by show i - s<t.size;lia)]
  ·rw [if_neg (by lia),Bt (by show t.size <= i - s;lia),List.getElem?_drop]
   congr 2;show s+t.size+(i - s - t.size)=i;lia
def Wf(ky:Nat->Nat)(n:Nat)(lo:Nat)(x:Pu):Prop:=Pm n x.p/\Ch ky x.p x.pd.toList 0 lo/\lo<=n
theorem ED(l:List Nat)(i j:Nat)(h:i<=j):l.drop i=(l.take j).drop i++l.drop j:=by
 have e:=Eb (j - i) (l.drop i);rw[Rg,show i+(j - i)=j by lia,<- Rc] at e;exact e.symm
theorem Pm.put{p:Array Nat}(hp:Pm n p){s m e:Nat}{t:Array Nat}(h1:s<=m)(h2:m<=e)(h3:e<=n)(ht:t.toList.Perm ((p.extract s m).toList++(p.extract m e).toList)):t.size=e - s/\Pm n (TS.put p s t.toList 0):=by
 have hs:=hp.sz;have hl:t.toList.length=e - s:=by
  rw[ht.length_eq];simp;lia
 refine⟨hl,?_⟩;unfold Pm;rw[PQ s t.toList 0 p (by lia)];refine Jo ?_ hp;rw[hl,show s+0+(e - s)=e by lia,Pg];have e0:=Eb e p.toList;have e1:=Eb s (p.toList.take e);have e2:=ED (p.toList.take e) s m h1;rw[Rh,Jq h2] at e2;rw[Rh,Jq (by lia)] at e1;rw[YC,YC,<- e2] at ht;have e3:p.toList=p.toList.take s++(p.toList.take e).drop s++p.toList.drop e:=by rw[e1,e0]
 refine Jo (Gi _ (Fi _ ht)) ?_;rw[<- e3]
theorem D.set{ck:Nat->Nat->Bool}{F:En->Ez}{x y:Pu}(h: ∀e,F e=FC e y):D n ck (fun e=>(MonadStateOf.set (F e):StateT Ez Sem PUnit)) x (fun _=>⟨⟩) y:=fun e _ E Q q=>by
 show kasC _ _ _ (MonadStateOf.set (F e):StateT Ez Sem PUnit) Q _ _;rw[h e];unfold kasC;exact Ah q
theorem Pm.al{p:Array Nat}(h:Pm n p):Al n p:=fun i hi=>h.lt (by rw[<- h.sz];exact hi)
theorem RN{p:Array Nat}{i j k:Nat}(hj:j<=p.size)(hk:i+k<j):(p.extract i j).getD k 0=p.getD (i+k) 0:=by
 have h1:i+k<p.size:=by lia
 have hk':k<min j p.size - i:=by lia
 have e1:p.getD (i+k) 0=p[i+k]:=by simp[Fv,h1]
 have e2:(p.extract i j).getD k 0=(p.extract i j)[k]'(by simpa using hk'):=by simp[Fv,hk']
 rw[e1,e2,Array.getElem_extract]
theorem W0{p:Array Nat}{i j:Nat}(hj:j<=p.size):(p.extract i j).size=j - i:=by simp;lia
theorem Al.ext{p:Array Nat}(h:Al n p){i j:Nat}(hj:j<=p.size):Al n (p.extract i j):=fun k hk=>by
 rw[W0 hj] at hk;rw[RN hj (by lia)];exact h _ (by lia)
theorem So.ext{p:Array Nat}{i j:Nat}(h:So ky p i j)(hj:j<=p.size):So ky (p.extract i j) 0 (p.extract i j).size:=fun a b h1 h2 h3=>by
 rw[W0 hj] at h3;unfold kt;rw[RN hj (by lia),RN hj (by lia)];exact h _ _ (by lia) (by lia) (by lia)
theorem zFM{p:Array Nat}{y:Nat}(h:y∈p.toList): ∃c,c<p.size/\y=p.getD c 0:=by
 obtain⟨c,hc,e⟩:=Nh h;have hc:c<p.size:=hc;refine⟨c,hc,?_⟩;rw[<- e];simp[Fv,hc]
theorem QK{p:Array Nat}{i j y:Nat}(hj:j<=p.size)(h:y∈(p.extract i j).toList): ∃c,i<=c/\c<j/\y=p.getD c 0:=by
 obtain⟨c,hc,e⟩:=zFM h;rw[W0 hj] at hc;rw[RN hj (by lia)] at e;exact⟨i+c,by lia,by lia,e⟩
theorem merE{a b:Array Nat}{x:Pu}{A B:En->Array Keyed}{c:Prop}{dc:En->Decidable c}(hA: ∀e,A e=e.of a)(hB: ∀e,B e=e.of b)(ha:Al n a)(hb:Al n b)(a1:1<=a.size)(b1:1<=b.size)(sa:So ky a 0 a.size)(sb:So ky b 0 b.size)(hF: ∀y∈a.toList,kt ky b 0<=ky y)(hL: ∀y∈b.toList,ky y<=kt ky a (a.size - 1)){τ α:Type}{k:En->Array Keyed->StateT Ez Sem α}{v:τ->En->α}{R:τ->Pu->Prop}(h: ∀t y,Ms ky a b t->Sd x y->X n (lk ky) (fun e=>k e (e.of t)) y v R):X n (lk ky) (fun e=> @_root_.ite _ c (dc e) (J5 (A e) (B e)>>=k e) (J4 (A e) (B e)>>=k e)) x v R:=by
 rw[show A=fun e=>e.of a from funext hA,show B=fun e=>e.of b from funext hB];exact X.ite (fun _=>X.bind (zI5 ha hb a1 b1 sa sb hF hL) fun t y q=>h t y q.1 q.2) fun _=>X.bind (zI6 ha hb a1 b1 sa sb hF hL) fun t y q=>h t y q.1 q.2
theorem zCS{i lo:Nat}{x:Pu}(h:Wf ky n lo x)(hi:i+1<x.pd.size):X n (lk ky) (fun _=>mergeAt' i) x (fun(_:Unit) _=>true) (fun _ y=>Wf ky n lo y/\y.pd.size+1=x.pd.size/\ ∀t,lo<=t->y.p.getD t 0=x.p.getD t 0):=by
 obtain⟨hp,hc,hl⟩:=h;have hsz:=hp.sz;obtain⟨sa,na,pw,hu⟩: ∃sa na pw,x.pd[i]'(by lia)=(sa,na,pw):=⟨_,_,_,rfl⟩;obtain⟨sb,nb,qw,hv⟩: ∃sb nb qw,x.pd[i+1]'hi=(sb,nb,qw):=⟨_,_,_,rfl⟩;have eu:x.pd[i]? =some (sa,na,pw):=by rw[<- hu];simp
 have ev:x.pd[i+1]? =some (sb,nb,qw):=by rw[<- hv];simp
 have eu':x.pd.toList[i]? =some (sa,na,pw):=by rw[<- eu];simp
 have ev':x.pd.toList[i+1]? =some (sb,nb,qw):=by rw[<- ev];simp
 obtain⟨c1,c2,c3,c4,c5,s1,s2⟩:=hc.two eu' ev';dsimp only at c1 c2 c3 c4 c5 s1 s2;have hj:=fun q=>hc.join (q:=q) eu' ev';dsimp only at hj;have hy1:((x.pd.setIfInBounds i (sa,na+nb,pw)).eraseIdxIfInBounds (i+1)).toList=(x.pd.toList.set i (sa,na+nb,pw)).eraseIdx (i+1):=by simp[Km,hi]
 have hy2:((x.pd.setIfInBounds i (sa,na+nb,pw)).eraseIdxIfInBounds (i+1)).size+1=x.pd.size:=by
  rw[<- Ei,hy1,List.length_eraseIdx_of_lt (by simpa using hi),Cc,Ei];lia
 rw[<- hy1] at hj;generalize hpd:(x.pd.setIfInBounds i (sa,na+nb,pw)).eraseIdxIfInBounds (i+1)=pd at hj hy2;have hW:So ky x.p sa (sb+nb)->Wf ky n lo {x with pd:=pd}/\pd.size+1=x.pd.size/\ ∀t,lo<=t->x.p.getD t 0=x.p.getD t 0:=fun q=>⟨⟨hp,hj x.p (fun _ _=>rfl) q,hl⟩,hy2,fun _ _=>rfl⟩;refine X.go D.get ?_;have epd: ∀e:En,pendingOf (FC e x)=x.pd:=fun e=>rfl;simp only[epd,eu,ev];refine X.go (D.set (y:={x with pd:=pd}) fun e=>by rw[<- hpd];rfl) ?_;refine X.go (D.elem (q:=x.p) (i:=sb) (by lia)) (X.bind (gal (hp.lt (by lia)) (by lia) (by lia) hp.al (by rw[<- c1];exact s1)) ?_);rintro k z ⟨⟨_,hk,f1,f2⟩,rfl⟩;have f1: ∀c,sa<=c->c<sa+k->kt ky x.p c<=kt ky x.p sb:=fun c h1 h2=>by
  have:=f1 (c - sa) (by lia);rw[show sa+(c - sa)=c by lia] at this;exact Kp this
 have f2: ∀c,sa+k<=c->c<sb->kt ky x.p sb<=kt ky x.p c:=fun c h1 h2=>by
  have:=f2 (c - sa) (by lia) (by lia);rw[show sa+(c - sa)=c by lia] at this;exact Db this
 refine X.is (fun e=>X.ret () (hW (s1.cat s2 fun a b g1 g2 g3 g4=>Bu (f1 a g1 (by lia)) (s2.le (Ag _) g3 g4)))) fun hk2=> ?_;rw[show sa+k+(na - k) - 1=sb - 1 by lia];refine X.go (D.elem (q:=x.p) (i:=sb - 1) (by lia)) (X.bind (gal (hp.lt (by lia)) (by lia) (by lia) hp.al s2) ?_);rintro m z ⟨⟨_,hm,f3,f4⟩,rfl⟩;have f3: ∀c,sb<=c->c<sb+m->kt ky x.p c<=kt ky x.p (sb - 1):=fun c h1 h2=>by
  have:=f3 (c - sb) (by lia);rw[show sb+(c - sb)=c by lia] at this;exact Db this
 have f4: ∀c,sb+m<=c->c<sb+nb->kt ky x.p (sb - 1)<=kt ky x.p c:=fun c h1 h2=>by
  have:=f4 (c - sb) (by lia) (by lia);rw[show sb+(c - sb)=c by lia] at this;exact this
 refine X.is (fun e=>X.ret () (hW (s1.cat s2 fun a b g1 g2 g3 g4=>Bu (s1.le g1 (by lia) (by lia)) (f4 b (by lia) g4)))) fun hm2=> ?_;refine merE (a:=x.p.extract (sa+k) sb) (b:=x.p.extract sb (sb+m)) (fun e=>ZS e _ _ _) (fun e=>ZS e _ _ _) (hp.al.ext (by lia)) (hp.al.ext (by lia)) (by rw[W0 (by lia)];lia) (by rw[W0 (by lia)];lia) ((s1.sub (by lia) (Ag _)).ext (by lia)) ((s2.sub (Ag _) (by lia)).ext (by lia)) (fun y hy=> ?_) (fun y hy=> ?_) fun t z' ht hs=> ?_
 ·obtain ⟨c,h1,h2,rfl⟩ := QK (by lia) hy
  unfold kt;rw[RN (by lia) (by lia)];exact f2 c h1 h2
 ·obtain ⟨c,h1,h2,rfl⟩ := QK (by lia) hy
  unfold kt;rw[W0 (by lia),RN (by lia) (by lia),show sa+k+(sb - (sa+k) - 1)=sb - 1 by lia];exact f3 c h1 h2
 ·obtain ⟨t1,t2⟩ := hp.put (by lia) (by lia) (by lia) ht.1
  have pa:=zE4 (p:=x.p) (t:=t) (s:=sa+k) (by lia);have mid: ∀i,sa+k<=i->i<sb+m-> ∃c,sa+k<=c/\c<sb+m/\(TS.put x.p (sa+k) t.toList 0).getD i 0=x.p.getD c 0:=fun i h1 h2=>by
   rw[pa,if_pos (by lia)];rcases Bo.mp (ht.1.mem_iff.mp (zAD (a:=t) (i:=i - (sa+k)) (by lia))) with hy|hy
   ·obtain ⟨c,h1,h2,e⟩ := QK (by lia) hy
    exact⟨c,by lia,by lia,e⟩
   ·obtain ⟨c,h1,h2,e⟩ := QK (by lia) hy
    exact⟨c,by lia,by lia,e⟩
  have out: ∀i,i<sa+k∨sb+m<=i->(TS.put x.p (sa+k) t.toList 0).getD i 0=x.p.getD i 0:=fun i h=>by rw[pa,if_neg (by lia)]
  have so:So ky (TS.put x.p (sa+k) t.toList 0) sa (sb+nb):=by
   refine So.cat (m:=sa+k) ((s1.sub (Ag _) (by lia)).keep fun i _ h=>out i (.inl h)) (So.cat (m:=sb+m) (fun a b g1 g2 g3=> ?_) ((s2.sub (by lia) (Ag _)).keep fun i h _=>out i (.inr h)) fun a b g1 g2 g3 g4=> ?_) fun a b g1 g2 g3 g4=> ?_
   ·unfold kt
    rw[pa,pa,if_pos (by lia),if_pos (by lia)];have q:=Ke.mp ht.2 (a - (sa+k)) (b - (sa+k)) (show _<t.size by lia) (show _<t.size by lia) (by lia);have e: ∀i,(h:i<t.toList.length)->t.toList[i]=t.getD i 0:=fun i h=>by simp[Fv,show i<t.size from h]
    rw[e,e] at q;exact q
   ·obtain⟨c,h1,h2,e⟩:=mid a g1 g2
    unfold kt;rw[e,out b (.inr g3)];by_cases hc:c<sb
    ·exact Bu (s1.le (by lia) (by lia) (by lia)) (f4 b g3 g4)
    ·exact s2.le (by lia) (by lia) g4
   ·unfold kt
    rw[out a (.inl g2)];refine Bu (f1 a g1 g2) ?_;by_cases hb:b<sb+m
    ·obtain⟨c,h1,h2,e⟩:=mid b g3 hb
     rw[e];by_cases hc:c<sb
     ·exact f2 c h1 hc
     ·exact s2.le (Ag _) (by lia) (by lia)
    ·rw [out b (.inr (by lia))]
     exact s2.le (Ag _) (by lia) g4
  refine X.go (D.modify (y:={z' with p:=TS.put z'.p (sa+k) t.toList 0}) fun e=> ?_) (X.go D.get (X.ret () ?_))
  ·show Ih e.κ ((e.of t).toList.zipIdx.foldl (fun a x => a.setIfInBounds (sa + k + x.2) x.1) (e.of z'.p)) z'.pd z'.g none = _
   have h:=GZ (Iz e.it) (sa+k) t.toList 0 z'.p;rw[show t.toList.map (Iz e.it)=(e.of t).toList by simp[En.of]] at h;exact congrArg (fun u=>Ih e.κ u z'.pd z'.g none) h
  ·unfold Wf
   dsimp only;rw[hs.1,hs.2];exact⟨⟨t2,hj _ (fun i h=>out i (by lia)) so,hl⟩,hy2,fun i h=>out i (by lia)⟩
end
section
variable{n:Nat}{ky:Nat->Nat}
theorem Wf.pw{x:Pu}{lo:Nat}(h:Wf ky n lo x)(i pw:Nat):Wf ky n lo {x with pd:=x.pd.modify i fun u=>(u.1,u.2.1,pw)}:=by
 refine⟨h.1,?_,h.2.2⟩;show Ch ky x.p (x.pd.modify i fun u=>(u.1,u.2.1,pw)).toList 0 lo;rw[Array.toList_modify];exact Ch.mod (f:=fun u=>(u.1,u.2.1,pw)) (fun u=>⟨rfl,rfl⟩) i h.2.1
theorem Wf.more{x:Pu}{lo m:Nat}(h:Wf ky n lo x)(h1:1<=m)(h2:lo+m<=n)(hs:So ky x.p lo (lo+m)):Wf ky n (lo+m) {x with pd:=x.pd.push (lo,m,0)}:=by
 refine⟨h.1,?_,h2⟩;show Ch ky x.p (x.pd.push (lo,m,0)).toList 0 (lo+m);rw[Et];exact h.2.1.more h1 hs
theorem Wf.kept{x y:Pu}{lo:Nat}(h:Wf ky n lo x)(k:Kq n lo x y):Wf ky n lo y:=⟨k.1,by rw[k.2.1];exact h.2.1.keep fun t _ ht=>k.2.2 t ht,h.2.2⟩
theorem runs{x:Pu}(h:Wf ky n 0 x):X n (lk ky) (fun _=>sortRuns') x (fun(_:Unit) _=>()) (fun _ y=>Pm n y.p/\So ky y.p 0 n):=by
 refine X.go D.get ?_;have esz: ∀e:En,(arrOf (FC e x)).size=n:=fun e=>by
  show(e.of x.p).size=n;rw[VT,h.1.sz]
 have epd: ∀(e:En) (y:Pu),pendingOf (FC e y)=y.pd:=fun e y=>rfl;simp only[esz];generalize (sortPriv% PySem.Builtin.minRun) n n 0=mr;refine X.bind (u:=fun(t:Nat) _=>(none,t)) (S:=fun t y=>Wf ky n t y/\t=n) ?_ ?_
 ·refine X.range (I := fun c t y => Wf ky n t y /\ n <= t + c) (t := 0) (fun t y h => ⟨h.1,by have := h.1.2.2;lia⟩) ⟨h,by lia⟩ fun i _ _ c lo y ⟨hw,hc⟩ => ?_
  have hl:=hw.2.2;refine X.ite (fun q=>X.done lo ⟨hw,by dsimp only at q;lia⟩) fun q=> ?_;dsimp only at q;refine X.bind (zIT hw.1 (by dsimp only;lia) (by dsimp only;lia)) ?_;rintro m z ⟨m1,m2,hz,hs⟩;have hz':=hw.kept hz;dsimp only at m2;refine X.ite (fun q2=>X.go D.rule (X.bind (bin hz'.1 (by dsimp only;lia) m1 (by dsimp only at q2⊢;lia) hs) fun _ z2 hz2=>X.ite (fun hf=>absurd hf (by simp)) fun _=>X.st (P:=fun _ Z=>Wf ky n lo Z/\So ky Z.p lo (lo+min (n - lo) mr)) (x:=x) ?_ ⟨hz'.kept hz2.1,hz2.2⟩)) fun _=>X.st (P:=fun _ Z=>Wf ky n lo Z/\So ky Z.p lo (lo+m)) (x:=x) ?_ ⟨hz',hs⟩;have w1:1<=min (n - lo) mr:=by lia
  have w2:lo+min (n - lo) mr<=n:=by lia
  generalize min (n - lo) mr=M at w1 w2⊢;rotate_left;have w1:=m1;have w2:lo+m<=n:=by lia
  generalize m=M at w1 w2⊢
  all_goals
   rintro Z ⟨w3,w4⟩;refine X.go D.get ?_;simp only[epd];cases hb:Z.pd.back? with
   |none=>exact X.go (D.modify (y:={Z with pd:=Z.pd.push (lo,M,0)}) fun e=>rfl) (X.yield (lo+M) ⟨w3.more w1 w2 w4,by lia⟩)
   |some u=>
    obtain⟨s1,n1,q1⟩:=u;dsimp only;generalize hpw:(sortPriv% PySem.Builtin.power) n (2*s1+n1) (2*s1+n1+n1+M) n=pw;refine X.bind (u:=fun(_:Unit) _=>(none,())) (S:=fun _ y=>Wf ky n lo y/\So ky y.p lo (lo+M)) ?_ fun _ y hy=> ?_
    ·refine X.range (I := fun _ _ y => Wf ky n lo y /\ So ky y.p lo (lo + M)) (t := ()) (fun t y h => h) ⟨w3,w4⟩ fun i _ _ k _ y hy => ?_
     refine X.go D.get ?_;simp only[epd];by_cases hs:y.pd.size>1
     ·rw[if_pos hs]
      cases ho:y.pd[y.pd.size - 2]? with
      |none=>exact X.done () hy
      |some u=>
       obtain⟨o1,o2,o3⟩:=u;dsimp only;exact X.ite (fun _=>X.done () hy) fun _=>X.bind (zCS hy.1 (by lia)) fun _ y h=>X.ite (fun hf=>absurd hf (by simp)) fun _=>X.yield () ⟨h.1,hy.2.keep fun t ht _=>h.2.2 t ht⟩
     ·rw[if_neg hs]
      exact X.done () hy
    ·refine X.go (D.modify (y := { y with pd := y.pd.modify (y.pd.size - 1) fun u => (u.1,u.2.1,pw) }) fun e => rfl) ?_
     exact X.go (D.modify (y:={y with pd:=(y.pd.modify (y.pd.size - 1) fun u=>(u.1,u.2.1,pw)).push (lo,M,0)}) fun e=>rfl) (X.yield (lo+M) ⟨(hy.1.pw _ pw).more w1 w2 hy.2,by lia⟩)
 ·rintro lo y ⟨hw,rfl⟩
  refine X.bind (u:=fun(_:Unit) _=>(none,())) (S:=fun _ y=>Wf ky lo lo y/\y.pd.size<=1) ?_ fun _ y h=>X.ret () ⟨h.1.1,?_⟩
  ·refine X.range (I := fun c _ y => Wf ky lo lo y /\ y.pd.size <= c + 1) (t := ()) (fun t y h => h) ⟨hw,by have := hw.2.1.len;rw [Ei] at this;lia⟩ fun i _ _ k _ y ⟨hw,hc⟩ => ?_
   refine X.go D.get ?_;simp only[epd];refine X.ite (fun q=>X.done () ⟨hw,q⟩) fun q=> ?_;have hle: ∀(c:Prop) [Decidable c],(if c then y.pd.size - 2 - 1 else y.pd.size - 2)+1<y.pd.size:=by
    intro c _;split<;>lia
   exact X.bind (zCS hw (hle _)) fun _ y h=>X.ite (fun hf=>absurd hf (by simp)) fun _=>X.yield () ⟨h.1,by lia⟩
  ·obtain⟨⟨_,hc,_⟩,h1⟩:=h
   rw[<- Ei] at h1;generalize y.pd.toList=l at hc h1;match l,hc,h1 with
   |[],hc,_=>exact fun a b _ _ h=>by rw[<- show 0=lo from hc] at h;lia
   |[u],hc,_=>
    obtain⟨_,_,h2,h3⟩:=hc;rw[show 0+u.2.1=lo from h3] at h2;exact h2
   |_::_::_,_,h1=>simp at h1
end
theorem Pm.id(n:Nat):Pm n (At n).toArray:=by
 unfold Pm;simp
def xS(n:Nat):Pu:=⟨(At n).toArray,#[],7⟩
theorem NH(n:Nat)(ky:Nat->Nat): ∃y:Pu,(Pm n y.p/\So ky y.p 0 n)/\D n (lk ky) (fun _=>sortRuns') (xS n) (fun _=>()) y:=by
 obtain⟨t,y,h,d⟩:=runs (n:=n) (ky:=ky) (x:=xS n) ⟨Pm.id n,rfl,Cr _⟩;exact⟨y,h,d⟩
noncomputable def srt(n:Nat)(ky:Nat->Nat):List Nat:=if 2<=n then(NH n ky).choose.p.toList else At n
theorem K0(n:Nat)(ky:Nat->Nat):(srt n ky).Perm (At n):=by
 unfold srt;split
 ·exact(NH n ky).choose_spec.1.1
 ·exact .refl _
theorem zDI(n:Nat)(ky:Nat->Nat):Ss ky (srt n ky):=by
 unfold srt;split
 ·have h:=(NH n ky).choose_spec.1
  refine So.ss ?_;rw[h.1.sz];exact h.2
 ·match n with
  |0=>exact .nil
  |1=>exact Lc _ _
  |n+2=>lia
section
variable{prog:Bk}{w:World}{A:Cz}{E:Value->Af->Prop}{s:Af}
theorem E6(vs:List Value):(At vs.length).map (fun i=>vs.getD i Value.none)=vs:=by
 refine Kk fun i=> ?_;by_cases h:i<vs.length
 ·simp[h]
 ·simp[h]
theorem FA{a:Addr}{vs:List Value}{nn:Nat}{κ:Qa}{ky:Nat->Nat}{P:PySem.Fin->Af->Prop}(ho:s.heap.get? a=some (Hn "list" vs.toArray nn)) (hz:vs.length<=sizeLine)
  (hk:2<=vs.length-> ∀h':Heap,(∀b o,b≠a->s.heap.get? b=some o->h'.get? b=some o)-> ∀Q':Qa->Af->Prop,Q' κ {s with heap:=h'}->wpAny (model prog w) A (keyKind' vs.toArray) Q' E {s with heap:=h'})
  (hc: ∀h':Heap,(∀b o,b≠a->s.heap.get? b=some o->h'.get? b=some o)-> ∀i j,i<vs.length->j<vs.length-> ∀C:Bool->Af->Prop,C (lk ky i j) {s with heap:=h'}->wpAny (model prog w) A (keyLt' κ (vs.getD i Value.none) (vs.getD j Value.none)) C (fun _ _=>False) {s with heap:=h'})
  (h:P (.done (.ret .none)) {s with heap:=sortedHeap s.heap a vs ((srt vs.length ky).map fun i=>vs.getD i Value.none).toArray}):
  wpAny (model prog w) A (La.«list.sort» ⟨[.ref a],[]⟩) P E s:=by
 have lt:=Am ho;have hsz:vs.toArray.size=vs.length:=by simp
 obtain⟨e1,ho1⟩: ∃k,(s.heap.update a (Ft fun _=> #[])).get? a=some (Hn "list" #[] k):=⟨_,get?_update_seq ho (fun _=> #[])⟩;have keep: ∀b o,b≠a->s.heap.get? b=some o->(((s.heap.update a (Ft fun _=> #[])).push (Hn "tuple" vs.toArray 0)).push (Hn "list" #[] 0)).get? b=some o:=fun b o hb hbo=>
  Ac _ (Ac _ (by rw[Nj _ _ _ _ hb];exact hbo))
 have ho6:(((s.heap.update a (Ft fun _=> #[])).push (Hn "tuple" vs.toArray 0)).push (Hn "list" #[] 0)).get? a=some (Hn "list" #[] e1):=Ac _ (Ac _ ho1);have o6: ∀l:List Value,l.length=vs.length->l.toArray.size<=sizeLine+1:=fun l hl=>by rw[As];lia
 rw[list_sort_plain];refine(Aa (listItems_at ho rfl ?_));refine(Aa (Oa ho rfl ?_ (by rw[As];lia) (Cr _)));refine(Aa (Qv ho1 rfl ?_));refine(Aa (wpAny_newTuple ?_ (by show vs.length<=_;exact hz)));refine(Aa (wpAny_newList (Ck ?_) (Cr _)))
 ·show (wpAny (model prog w) A _ P E { s with heap := (((s.heap.update a (Ft fun _ => #[])).push (Hn "tuple" vs.toArray 0)).push (Hn "list" #[] 0)) })
  dsimp only;have ae:((srt vs.length ky).map fun i=>vs.getD i Value.none).length=vs.length:=by rw[Bz,(K0 _ _).length_eq,Hb]
  by_cases h2:vs.toArray.size<2
  ·have he : ((srt vs.length ky).map fun i => vs.getD i Value.none) = vs := by
    unfold srt;rw[if_neg (by lia)];exact E6 vs
   rw[he] at h;rw[if_pos h2,if_pos h2];refine(Aa (Ah ?_));rw[StateT.run_pure];refine(Aa (Ah ?_));dsimp only;have hm:(vs.toArray.zip vs.toArray).map (·.2)=vs.toArray:=by
    apply Ip.mp;simp;exact List.map_snd_zip (Ag _)
   rw[hm];refine(Aa (Qv ho6 rfl (Aa (Oa ho6 rfl ?_ (hsz2:=by rw[As];lia)))));simp only[bne_self_eq_false,Ef,if_false];exact Ah h
  ·rw[if_neg h2,if_neg h2]
   refine(Aa (hk (by lia) _ keep _ ?_));have n2:2<=vs.length:=by lia
   have spec:=(NH vs.length ky).choose_spec;have li:srt vs.length ky=(NH vs.length ky).choose.p.toList:=by unfold srt;rw[if_pos n2]
   generalize (NH vs.length ky).choose=y at spec li;let e:En:=⟨prog,w,A,{s with heap:=(((s.heap.update a (Ft fun _=> #[])).push (Hn "tuple" vs.toArray 0)).push (Hn "list" #[] 0))},κ,Ox vs⟩
   have eok:e.Ok vs.length (lk ky):=fun i j hi hj C q=>by
    show wpAny (model prog w) A (keyLt' κ (Iz (Ox vs) i).1 (Iz (Ox vs) j).1) C _ _;rw[Qw,Qw];exact hc _ keep i j hi hj C q
   have est:Ih κ (vs.toArray.zip vs.toArray) #[] 7 none=FC e (xS vs.length):=by
    have q:=kas_range (Ox vs);rw[pairsOf_size] at q;show Ih κ (Ox vs) #[] 7 none=Ih κ ((List.toArray (At vs.length)).map (Iz (Ox vs))) #[] 7 none;rw[q]
   rw[est];have nh:(e.of y.p).map (·.2)=((srt vs.length ky).map fun i=>vs.getD i Value.none).toArray:=by
    apply Ip.mp;rw[li,Array.map_map,Array.toList_map];exact Ex fun i _=>by show(Iz (Ox vs) i).2=_;rw[Qw]
   have run:=spec.2 e eok E (fun _ st' s'=>st'=FC e y/\s'=e.s) ⟨rfl,rfl⟩;refine(Aa (Aw run ?_ fun _ _ x=>x));rintro ⟨⟨⟩,st'⟩ s' ⟨rfl,rfl⟩;show(wpAny (model prog w) A _ P E {s with heap:=(((s.heap.update a (Ft fun _=> #[])).push (Hn "tuple" vs.toArray 0)).push (Hn "list" #[] 0))});dsimp only;rw[show(arrOf (FC e y))=e.of y.p from rfl,nh];refine(Aa (Qv ho6 rfl (Aa (Oa ho6 rfl ?_ (hsz2:=by rw[As];lia)))));rw[show failedOf (FC e y)=none from rfl];simp only[bne_self_eq_false,Ef,if_false];exact Ah h
end
section
variable{prog:Bk}{w:World}{A:Cz}{E:Value->Af->Prop}{s:Af}
theorem KZ{l:Addr}{vs:List Value}{κ:Qa}{ky:Nat->Nat}{Q:Value->Af->Prop}(hl:s.heap.IsList l vs.toArray)(hz:vs.length<=sizeLine)
  (hk:2<=vs.length-> ∀(A:Cz) (E:Value->Af->Prop) (h':Heap),(∀b o,s.heap.get? b=some o->h'.get? b=some o)-> ∀Q':Qa->Af->Prop,Q' κ {s with heap:=h'}->wpAny (model prog w) A (keyKind' vs.toArray) Q' E {s with heap:=h'})
  (hc: ∀(A:Cz) (h':Heap),(∀b o,s.heap.get? b=some o->h'.get? b=some o)-> ∀i j,i<vs.length->j<vs.length-> ∀C:Bool->Af->Prop,C (lk ky i j) {s with heap:=h'}->wpAny (model prog w) A (keyLt' κ (vs.getD i Value.none) (vs.getD j Value.none)) C (fun _ _=>False) {s with heap:=h'})
  (h:Q (.ref (s.heap.objs.size+1)) {s with heap:=sortedAll s.heap vs ((srt vs.length ky).map fun i=>vs.getD i Value.none).toArray}):
  wpAny (model prog w) A (call (.builtin "sorted") [.ref l]) Q E s:=by
 refine(Calls.call_function_entry kind_sorted plain_sorted entry_sorted (args_sorted1 _) ?_);unfold La.«sorted»;refine(Aa (m:=checkCount "sorted" 1 1 _) (Ah (Aa (collect_list hl (Aa (wpAny_newList ?_ (by exact hz))) hz))));have hs1:((s.heap.push (Hn "list" #[] 0)).update s.heap.objs.size (Ft (· ++vs.toArray))).objs.size=s.heap.objs.size+1:=by rw[Heap.size_update,size_push']
 have hoL:(((s.heap.push (Hn "list" #[] 0)).update s.heap.objs.size (Ft (· ++vs.toArray))).push (Hn "list" vs.toArray 0)).get? (s.heap.objs.size+1)=some (Hn "list" vs.toArray 0):=by rw[<- hs1];exact Aq _ rfl
 have keep: ∀b o,s.heap.get? b=some o->(((s.heap.push (Hn "list" #[] 0)).update s.heap.objs.size (Ft (· ++vs.toArray))).push (Hn "list" vs.toArray 0)).get? b=some o/\b≠s.heap.objs.size+1:=fun b o q=>by
  have hlt:b<s.heap.objs.size:=Am q;refine⟨?_,Bd (Oy hlt)⟩;rw[Ie _ _ _ (by rw[hs1];exact(Bd (Oy hlt))),Nj _ _ _ _ (Bd hlt),Ie _ _ _ (Bd hlt)];exact q
 show(wpAny _ _ _ _ _ {s with heap:=((s.heap.push (Hn "list" #[] 0)).update s.heap.objs.size (Ft (· ++vs.toArray))).push (Hn "list" vs.toArray 0)});rw[hs1];refine(Aa (Ck (Ds slot_list_sort ⟨_,hoL,rfl⟩ entry_list_sort (FA (κ:=κ) (ky:=ky) hoL hz (fun n2 h' k'=>hk n2 _ _ h' fun b o q=>k' b o (keep b o q).2 (keep b o q).1) (fun h' k'=>hc _ h' fun b o q=>k' b o (keep b o q).2 (keep b o q).1) ⟨_,rfl,?_⟩) (args_list_sort _))));exact(Ah ⟨_,rfl,h⟩)
noncomputable def lexP(p q:Int×Int):Bool:=if p.1=q.1 then decide (p.2<q.2) else decide (p.1<q.1)
theorem AL{x y:Addr}{a b c d:Int}{t u t' u':Tok}{C:Bool->Af->Prop}(hx:IsTup s.heap x #[.int a t,.int b u])(hy:IsTup s.heap y #[.int c t',.int d u'])(h:C (lexP (a,b) (c,d)) s):wpAny (model prog w) A (keyLt' (tuples' true) (.ref x) (.ref y)) C E s:=by
 obtain⟨ox,hx,_,n,dx⟩:=hx;obtain⟨oy,hy,_,m,dy⟩:=hy;refine kat_lt hx dx hy dy ?_;refine kat_cons (Li (kat_go (fun e=>kat_yes ?_) fun e=>kat_no ?_))
 ·have e : a = c := by simpa using e
  refine kat_cons (Li (kat_go (fun e2=>kat_yes (kat_nil ?_)) fun e2=>kat_no ?_))
  ·have e2 : b = d := by simpa using e2
   have:lexP (a,b) (c,d)=false:=by simp[lexP,e,e2]
   rw[this] at h;exact h
  ·refine kat_one _ _ (lt_int ?_)
   have:lexP (a,b) (c,d)=decide (b<d):=by simp[lexP,e]
   rw[this] at h;exact h
 ·have e : ¬ a = c := by simpa using e
  have:lexP (a,b) (c,d)=decide (a<c):=by simp[lexP,e]
  rw[this] at h;exact oneLt_int h
def PrI(h:Heap):List Value->List (Int×Int)->Prop
 |[],[]=>True
 |v::vs,p::ps=>(∃a t u,v= .ref a/\IsTup h a #[.int p.1 t,.int p.2 u])/\PrI h vs ps
 |_,_=>False
theorem PrI.keep{h h':Heap}(k: ∀b o,h.get? b=some o->h'.get? b=some o): ∀{vs:List Value} {ps:List (Int×Int)},PrI h vs ps->PrI h' vs ps
 |[],[],_=>trivial
 |_::_,_::_,⟨⟨a,t,u,e,q⟩,r⟩=>⟨⟨a,t,u,e,q.keeps k⟩,PrI.keep k r⟩
 |[],_::_,r=>r.elim
 |_::_,[],r=>r.elim
theorem PrI.at{h:Heap}: ∀{vs:List Value} {ps:List (Int×Int)} {i:Nat},PrI h vs ps->i<vs.length-> ∃a t u,vs.getD i Value.none= .ref a/\IsTup h a #[.int (ps.getD i (0,0)).1 t,.int (ps.getD i (0,0)).2 u]
 |[],[],i,_,hi=>by simp at hi
 |_::_,_::_,0,r,_=>r.1
 |v::vs,p::ps,i+1,r,hi=>by
  have:=PrI.at (i:=i) r.2 (by simpa using hi);simpa using this
 |[],_::_,i,r,_=>r.elim
 |_::_,[],i,r,_=>r.elim
theorem PrI.tups{h:Heap}: ∀{vs:List Value} {ps:List (Int×Int)},PrI h vs ps-> ∃fs,KatTups h vs fs/\fs.length=vs.length/\ ∀v∈fs,∃i t,v= .int i t
 |[],[],_=>⟨[],trivial,rfl,fun _ h=>by cases h⟩
 |_::_,_::_,⟨⟨a,t,u,e,o,ho,hcl,n,hd⟩,r⟩=>by
  obtain⟨fs,h1,h2,h3⟩:=PrI.tups r;subst e;refine⟨.int _ t::fs,KatTups.cons ho hcl hd rfl h1,by simp[h2],fun v hv=> ?_⟩;rcases Ak.mp hv with rfl|hv
  ·exact⟨_,_,rfl⟩
  ·exact h3 v hv
 |[],_::_,r=>r.elim
 |_::_,[],r=>r.elim
theorem HQ{α:Type}{p q:α->Bool}(h: ∀x,p x=true->q x=true){a:α}(h1:p a=false)(h2:q a=true): ∀{l:List α},a∈l->l.countP p<l.countP q
 |[],h=>by cases h
 | x :: l,hm => by
  rw[Pt,Pt];have le:=List.countP_mono_left (p:=p) (q:=q) (l:=l) fun x _=>h x;rcases Ak.mp hm with rfl|hm
  ·rw[h1,h2]
   simp;lia
  ·have ih:=HQ h h1 h2 hm
   cases e:p x with
   |true=>rw[h x e];lia
   |false=>cases q x<;>simp<;>lia
def rk{α:Type}(lt:α->α->Bool)(L:List α)(p:α):Nat:=L.countP fun r=>lt r p
theorem zHA{α:Type}{lt:α->α->Bool}(h1: ∀p,lt p p=false)(h2: ∀p q r,lt p q=true->lt q r=true->lt p r=true)(h3: ∀p q,lt p q=false->lt q p=false->p=q){L:List α}{p q:α}(hp:p∈L)(hq:q∈L):decide (rk lt L p<rk lt L q)=lt p q:=by
 cases e:lt p q with
 |true=>exact decide_eq_true (HQ (fun x hx=>h2 x p q hx e) (h1 p) e hp)
 |false=>
  refine decide_eq_false (Nat.not_lt.mpr ?_);cases e2:lt q p with
  |true=>exact Db (HQ (fun x hx=>h2 x q p hx e2) (h1 q) e2 hq)
  |false=>rw[h3 p q e e2];exact Ag _
theorem JW{α:Type}(ps:List α)(i:Nat)(z:α):ps.getD i z∈z::ps:=by
 by_cases h:i<ps.length
 ·rw [show ps.getD i z = ps[i] by simp [h]]
  exact Ao _ (Hh _)
 ·rw [show ps.getD i z = z by simp [h]]
  exact Au
noncomputable def kyP(ps:List (Int×Int))(i:Nat):Nat:=rk lexP ((0,0)::ps) (ps.getD i (0,0))
theorem AO(ps:List (Int×Int))(i j:Nat):lk (kyP ps) i j=lexP (ps.getD i (0,0)) (ps.getD j (0,0)):=by
 refine zHA (fun p=>by simp[lexP]) (fun p q r h1 h2=> ?_) (fun p q h1 h2=> ?_) (JW _ _ _) (JW _ _ _)
 ·unfold lexP at h1 h2⊢
  split at h1<;>split at h2<;>simp only[decide_eq_true_eq] at h1 h2<;>split<;>simp only[decide_eq_true_eq]<;>lia
 ·unfold lexP at h1 h2
  split at h1<;>split at h2<;>simp only[decide_eq_false_iff_not] at h1 h2<;>refine Sy ?_ ?_<;>lia
theorem MC{l:Addr}{vs:List Value}{ps:List (Int×Int)}{Q:Value->Af->Prop}(hl:s.heap.IsList l vs.toArray)(hz:vs.length<=sizeLine)(hp:PrI s.heap vs ps)
  (h:Q (.ref (s.heap.objs.size+1)) {s with heap:=sortedAll s.heap vs ((srt vs.length (kyP ps)).map fun i=>vs.getD i Value.none).toArray}):
  wpAny (model prog w) A (call (.builtin "sorted") [.ref l]) Q E s:=by
 refine KZ (κ:=tuples' true) hl hz (fun n2 A E h' k' Q' q=> ?_) (fun A h' k' i j hi hj C q=> ?_) h
 ·obtain⟨fs,h1,h2,h3⟩:=(hp.keep k').tups
  refine kat_kind (s:={s with heap:=h'}) (T:= .type "int") h1 (by lia) (fun v hv=> ?_) (by decide) q;obtain⟨i,t,rfl⟩:=h3 v hv;exact Looks.now
 ·obtain⟨a,t,u,e1,t1⟩:=(hp.keep k').at hi
  obtain⟨b,t',u',e2,t2⟩:=(hp.keep k').at hj;rw[e1,e2];rw[AO] at q;exact AL (s:={s with heap:=h'}) t1 t2 q
end
end TS
namespace L2
open PySem PySem.Spec PyProof.Rows
variable{X:Cx}{K:Ap}
noncomputable def prD:dF->Option (Int×Int)
 | .tup [.int a,.int b]=>some (a,b)
 |_=>none
noncomputable def PN:List dF->Option (List (Int×Int))
 |[]=>some []
 |d::ds=>(prD d).bind fun p=>(PN ds).map fun ps=>p::ps
def PrV(K:Ap)(H:Hp):List V->List (Int×Int)->Prop
 |[],[]=>True
 |v::vs,p::ps=>(∃a,v= .ref a/\W9 K H a [.int p.1,.int p.2])/\PrV K H vs ps
 |_,_=>False
theorem zEA{d:dF}{p:Int×Int}(h:prD d=some p):d= .tup [.int p.1,.int p.2]:=by
 unfold prD at h;split at h
 ·cases h;rfl
 ·cases h
theorem GW{H:Hp}{N:Addr->Prop}: ∀{xs:List V} {ds:List dF} {ps:List (Int×Int)},cR K N H xs ds->PN ds=some ps->PrV K H xs ps
 |_,_,_,.nil,h=>by cases h;trivial
 | _,_,ps,@cR.cons _ _ _ v vs d ds h t,e => by
  have e:(prD d).bind (fun p=>(PN ds).map fun ps=>p::ps)=some ps:=e;cases h1:prD d with
  |none=>rw[h1] at e;cases e
  |some p=>
   rw[h1] at e;have e:(PN ds).map (fun ps=>p::ps)=some ps:=e;cases h2:PN ds with
   |none=>rw[h2] at e;cases e
   |some qs=>
    rw[h2] at e;cases e;have:=zEA h1;subst this;refine⟨?_,GW t h2⟩;cases h with
    |tup sq r=>
     cases r with
     |cons r1 r=>
      cases r1;cases r with
      |cons r2 r=>
       cases r2;cases r;exact⟨_,rfl,sq⟩
theorem PrV.prI{H:Hp}{aa:List (Addr×Obj)}{σ:St}{s:Af}(I:cT X aa σ H s): ∀{xs:List V} {us:List Value} {ps:List (Int×Int)},PrV X.K H xs ps->b6 xs us->TS.PrI s.heap us ps
 |[],_,[],_,.nil=>trivial
 | _ :: _,_,_ :: _,⟨⟨a,e,q⟩,r⟩,.cons h t => by
  subst e;cases h;obtain⟨its,rv,ht,_⟩:=I.tuple q;cases rv with
  |cons r1 rv=>
   obtain⟨t1,rfl⟩:=r1;cases rv with
   |cons r2 rv=>
    obtain⟨t2,rfl⟩:=r2;cases rv;exact⟨⟨a,t1,t2,rfl,ht⟩,PrV.prI I r t⟩
 |[],_,_::_,h,_=>h.elim
 |_::_,_,[],h,_=>h.elim
theorem PrV.len{H:Hp}: ∀{xs:List V} {ps:List (Int×Int)},PrV K H xs ps->xs.length=ps.length
 |[],[],_=>rfl
 |_::_,_::_,r=>by simp[PrV.len r.2]
 |[],_::_,r=>r.elim
 |_::_,[],r=>r.elim
theorem NQ{xs:List V}{us:List Value}(r:b6 xs us): ∀l:List Nat,(∀i∈l,i<xs.length)->b6 (l.map fun i=>xs.getD i .non) (l.map fun i=>us.getD i Value.none)
 |[],_=> .nil
 |i::l,h=>by
  have hi:=h i Au;obtain⟨u,h1,h2⟩:=b6.get (i:=i) (x:=xs[i]) r (by simp[hi]);refine .cons ?_ (NQ r l fun j hj=>h j (Ao _ hj));have e1:xs.getD i .non=xs[i]:=by simp[hi]
  have e2:us.getD i Value.none=u:=by simp[h1]
  show cB (xs.getD i .non) (us.getD i Value.none);rw[e1,e2];exact h2
noncomputable def OB(ps:List (Int×Int)):List Nat:=TS.srt ps.length (TS.kyP ps)
theorem U2(ps:List (Int×Int)):(OB ps).Perm (At ps.length):=TS.K0 _ _
def BY(K:Ap):RC:=fun xs H Q=> ∃(p:Addr) (ys:List V) (ps:List (Int×Int)),xs=[.ref p]/\X9 K H p ys/\PrV K H ys ps/\ ∀l:Addr,H l=none->Q (.ref l) (bH H l (.lst ((OB ps).map fun i=>ys.getD i .non)))
theorem zFW(h:X.K=K):aY X (.builtin "sorted") (BY K):=by
 subst h;intro aa s σ H xs us Q I r h;obtain⟨p,ys,ps,rfl,hq,hp,q⟩:=h;obtain⟨u,rfl,rx⟩:=WB r;cases rx;obtain⟨its,rv,pl,hz⟩:=I.list hq;have ae:=rv.length;have hpl:=hp.len;have hn:H (s.heap.objs.size+1)=none:=I.hok.fresh (Ew _);refine TS.MC pl.isList (by lia) (hp.prI I rv) ?_;rw[show its.length=ps.length by lia];obtain⟨e,he⟩:=sortedAll_at s.heap its ((TS.srt ps.length (TS.kyP ps)).map fun i=>its.getD i Value.none).toArray;refine⟨.ref (s.heap.objs.size+1),_,I.laid (a:=s.heap.objs.size+1) (o:= .lst ((OB ps).map fun i=>ys.getD i .non)) (t':=s.toks) (fun b o=>sortedAll_old) (Ew _) ?_,rfl,q _ hn⟩;refine⟨by rw[Bz,(U2 ps).length_eq,Hb];lia,(OB ps).map fun i=>its.getD i Value.none,e,NQ rv _ fun i hi=> ?_,?_⟩
 ·have:=Ci.mp ((U2 ps).mem_iff.mp hi)
  lia
 ·rw[he]
  rfl
noncomputable def IB:dF->Option dF
 | .lst ds=>(PN ds).bind fun ps=>some (.lst ((OB ps).map fun i=>ds.getD i .non))
 |_=>none
theorem NF{H:Hp}{N:Addr->Prop}{xs:List V}{ds:List dF}(r:cR K N H xs ds): ∀l:List Nat,cR K N H (l.map fun i=>xs.getD i .non) (l.map fun i=>ds.getD i .non)
 |[]=> .nil
 | i :: l => by
  have one: ∀{xs:List V} {ds:List dF} (i:Nat),cR K N H xs ds->bU K N H N (xs.getD i .non) (ds.getD i .non):=by
   intro xs ds i r;induction r using cR.rec (motive_1:=fun _ _ _ _=>True) generalizing i with
   |nil=>simpa using bU.non
   |cons h t _ ih=>cases i with
    |zero=>simpa using h
    |succ i=>simpa using ih i
   |_=>trivial
  exact .cons (one i r) (NF r l)
theorem zBL:DR K (BY K) IB:=by
 intro H N M x d c Q hx h k;cases d with
 |lst ds=>
  have h:((PN ds).bind fun ps=>some (dF.lst ((OB ps).map fun i=>ds.getD i .non)))=some c:=h;cases h1:PN ds with
  |none=>rw[h1] at h;cases h
  |some ps=>
   rw[h1] at h;cases h;obtain⟨a,xs,rfl,sq,r⟩:=hx.lstE;exact⟨a,xs,ps,rfl,sq,GW r h1,fun l hl'=>k l _ _ hl' (NF r _) rfl⟩
 |_=>cases h
theorem ES:typeLookup (.type "list") ("keys":Str)=pure none:=am_miss_of_fast (by decide+kernel)
section
variable{prog:Bk}{w:World}{A:Cz}{E:Value->Af->Prop}{s:Af}
theorem EO{a:Addr}{o:Obj}{xs:Array Value}{k:Nat}{Q:Option Value->Af->Prop}(hx:s.heap.get? a=some o)(hc:o.cls= .type "list") (cy:o.data= .seq xs k) (hd:o.dict=none) (hA:A.handled=none)
  (h: ∀h' tk,(∀b ob,s.heap.get? b=some ob->h'.get? b=some ob)->Q none {s with heap:=h',toks:=tk}):wpAny (model prog w) A (getAttr? (.ref a) "keys") Q E s:=by
 obtain⟨c,dct,dat,sl⟩:=o;simp only at hc cy hd;subst hc cy hd;obtain⟨hp,g,d,tk,os⟩:=s;have hT: ∀tk',(⟨hp,g,d,tk',os⟩:Af).TypeIs (.ref a) "list":=fun _=>⟨_,hx,rfl⟩;have f1:=sub_AttributeError;have f3:=F.slot_list_getattribute.lookup;have f4:=F.slot_list_getattribute.bind (.ref a);have f5:=am_list_getattr_none;unfold getAttr? getAttrBy? getAttrBy
 (repeat (any_goals (first|assumption|exact hT _|((with_reducible show wpAny _ _ (call (Rz "list.__getattribute__") _ _) _ _ _);refine Oj F.slot_list_getattribute (hT _) am_entry_list_getattribute (F.args_list_getattribute_2 _ _) (meets_getattribute_miss_list a xs k sl "keys" _ ES (by decide) (by size_fits)) ⟨hx,hA,fun h' tk' e hx'=> ?_⟩)|wp_step)))
 obtain⟨t1,u1,he⟩:=hx'.there;show(wpAny _ _ (Ob _ _ _ _ _ _ _) _ _ _);unfold Ob
 (repeat (any_goals (first|assumption|wp_step)))
 exact h _ _ hx'.keeps
end
theorem MX:entryFor table "dict.update.loop"=some La.«dict.update.loop» :=entryFor_of_tree (by kernel_rfl)
theorem U0:plainId "dict.update.loop"=true:=by decide+kernel
def PrK(prog:Bk)(w:World)(h:Heap):List Value->List (a0×Value)->Prop
 |[],[]=>True
 |v::vs,p::ps=>(∃a key,v= .ref a/\IsTup h a #[key,p.2]/\(bG prog w).is p.1 key=true)/\PrK prog w h vs ps
 |_,_=>False
section
variable{prog:Bk}{w:World}{A:Cz}{E:Value->Af->Prop}{s:Af}
theorem PrK.keep{h h':Heap}{C:Addr->Prop}(k: ∀b o,C b->h.get? b=some o->h'.get? b=some o): ∀{vs:List Value} {ps:List (a0×Value)},(∀a,Bn a∈vs->C a)->PrK prog w h vs ps->PrK prog w h' vs ps
 |[],[],_,_=>trivial
 |_::_,_::_,hC,⟨⟨a,key,e,⟨o,ho,r⟩,q⟩,r2⟩=>⟨⟨a,key,e,⟨o,k a o (hC a (by rw[e];exact Au)) ho,r⟩,q⟩,PrK.keep k (fun a ha=>hC a (Ao _ ha)) r2⟩
 |[],_::_,_,r=>r.elim
 |_::_,[],_,r=>r.elim
theorem ID{a:Addr}{k v:Value}{Q:List Value->Af->Prop}(h:IsTup s.heap a #[k,v])(q:Q [k,v] s):wpAny (model prog w) A (Ls (.ref a)) Q E s:=by
 obtain⟨o,ho,hc,n,hd⟩:=h;unfold Ls;refine(Aa (Jy (T:= "tuple") ⟨o,ho,hc⟩ ?_));rw[if_pos (by decide)];exact(Aa (Es ho hd (Ah q)))
theorem zD0{R:Qi->Af->Prop}{I D:Addr}{fp wr:List Addr}{items:Array Value}{St:Nat->Heap->Prop}(W:Walks prog w A.in1 I fp wr items.size (fun i v=>items[i]? =some v) St)(hDf:D∉fp): ∀(vs:List Value) (ps:List (a0×Value)) (j:Nat) (i:Int) (s:Af) (kvs:List (a0×Value)),items.toList.drop j=vs->j+vs.length=items.size->St j s.heap->s.heap.DictOf (bG prog w) D kvs->kvs.length+vs.length<=sizeLine->PrK prog w s.heap vs ps->(∀a,Bn a∈vs->a∉wr/\a≠D)→
  (∀g tk,g.DictOf (bG prog w) D (ps.foldl (fun l p=>Sf l p.1 p.2) kvs)->(∀b o,b∉wr->b≠D->s.heap.get? b=some o->g.get? b=some o)->R (.ok (.ret .none)) {s with heap:=g,toks:=tk})→
  Gg (model prog w) A (.builtin "dict.update.loop" ⟨[.ref D,.ref I,rawInt i,.none],[]⟩) R s
 | [],ps,j,i,s,kvs,e,hj,hst,hd,hz,hp,ha,hR => by
  have nDw:D∉wr:=fun z=>hDf (W.sub _ z);cases ps with
  |cons p ps=>exact hp.elim
  |nil=>
   refine Mk MX (by
    rw[Ir U0 _];show(wpAny _ A.in1 (pyNext (.ref I)>>=_) _ _ s);refine(Aa (W.done s _ _ (by rw[show items.size=j by simpa using hj.symm];exact hst) fun g tk kept=> ?_));show(wpAny _ A.in1 (Builtin.Dict.addKeywords D []>>=_) _ _ _);refine(Aa (Ah (Ah ?_)));obtain⟨o,es,ep,ho,r⟩:=hd;exact hR g tk ⟨o,es,ep,kept _ _ nDw ho,r⟩ fun b o z1 _ e=>kept b o z1 e)
 | v :: vs,ps,j,i,s,kvs,e,hj,hst,hd,hz,hp,ha,hR => by
  have nDw:D∉wr:=fun z=>hDf (W.sub _ z);cases ps with
  |nil=>exact hp.elim
  |cons p ps=>
   obtain⟨⟨a,key,rfl,ht,hk⟩,hp⟩:=hp;obtain⟨na,nD⟩:=ha a Au;simp only[Bm] at hj hz;have ei:items[j]? =some (.ref a):=by
    have:=congrArg (fun l=>l[0]?) e;simpa using this
   have ed:items.toList.drop (j+1)=vs:=by
    have:=congrArg List.tail e;simpa using this
   refine Mk MX (by
    rw[Ir U0 _];show(wpAny _ A.in1 (pyNext (.ref I)>>=_) _ _ s);refine(Aa (W.item j s _ _ (by lia) hst fun v g tk pv mz kept=> ?_));obtain rfl:v= .ref a:=by rw[ei] at pv;cases pv;rfl
    obtain⟨o,ho,r⟩:=ht;obtain⟨o2,es,ep,ho2,r2⟩:=hd;refine(Aa (Ck (Aa (wpAny_tryCatch (ID (s:={s with heap:=g,toks:=tk}) ⟨o,kept _ _ na ho,r⟩ ?_)))));refine(Ck (wpAny_dictSet_pairs (s:={s with heap:=g,toks:=tk}) (kvs:=kvs) hk ⟨o2,es,ep,kept _ _ nDw ho2,r2⟩ (fun g2 hd2 hs2=> ?_) (by lia)));have im: ∀b o,b∉wr->b≠D->s.heap.get? b=some o->g2.get? b=some o:=fun b o z1 z2 e=>(hs2.2 b z2).trans (kept b o z1 e);refine(Ah ⟨Od U0 _,zD0 W hDf vs ps (j+1) (i+1) _ (Sf kvs p.1 p.2) ed (by lia) (W.frame _ _ _ mz fun b hb o e=>(hs2.2 b (fun z=>hDf (by rw[<- z];exact hb))).trans e) hd2 ?_ (PrK.keep (C:=fun b=>b∉wr/\b≠D) (fun b o hb e=>im b o hb.1 hb.2 e) (fun a h=>ha a (Ao _ h)) hp) (fun a h=>ha a (Ao _ h)) ?_⟩)
    ·have:=stored_length_le kvs p.1 p.2
     lia
    ·exact fun g3 tk3 hd3 lf=>hR g3 tk3 hd3 fun b o z1 z2 e=>lf b o z1 z2 (im b o z1 z2 e))
end
section
variable{prog:Bk}{w:World}{A:Cz}{E:Value->Af->Prop}{s:Af}
theorem HV{l:Addr}{vs:List Value}{ps:List (a0×Value)}{Q:Value->Af->Prop}(hh:A.handled=none)(pl:PlainL s.heap l vs.toArray)(hz:vs.length<=sizeLine)(hp:PrK prog w s.heap vs ps)
  (h: ∀g tk,g.DictOf (bG prog w) s.heap.objs.size (ps.foldl (fun l p=>Sf l p.1 p.2) [])->(∀b o,s.heap.get? b=some o->g.get? b=some o)->Q (.ref s.heap.objs.size) {s with heap:=g,toks:=tk}):
  wpAny (model prog w) A (call (.type "dict") [.ref l]) Q E s:=by
 refine(callType_codes (Q₁:=fun obj s₁=>obj= .ref s.heap.objs.size/\s₁={s with heap:=s.heap.push {cls:= .type "dict",data:= .dict #[]}}) F.kt_called_dict (F.kt_typeCall_dict_1 _) F.entry_dict_init (kt_code_dict_new _ ⟨rfl,rfl⟩) ?_);rintro obj s₁ ⟨rfl,rfl⟩;have dq:(s.heap.push {cls:= .type "dict",data:= .dict #[]}).DictOf (bG prog w) s.heap.objs.size []:=Qk s.heap;obtain⟨o,n,ho,hc,hd,cy⟩:=pl;have ho':(s.heap.push {cls:= .type "dict",data:= .dict #[]}).get? l=some o:=Ac _ ho;refine⟨dq.typeIs,F.args_dict_init_2 _ _,?_⟩;unfold La.«dict.__init__»;refine(Aa ?_);unfold Builtin.Dict.selfAndRest;refine(Aa (wpAny_notOrdered_dict dq.typeIs ?_));show(wpAny _ _ (pure (s.heap.objs.size,[Bn l])) _ _ _);refine(Ah ?_);show(wpAny _ _ (Ld "dict.__init__" s.heap.objs.size (.ref l) [] .none) _ _ _);unfold Ld;refine(Aa (Jy (T:= "list") ⟨o,ho',hc⟩ ?_));rw[if_pos (by decide)];refine(Aa (EO ho' hc cy hd (by simp[hh]) fun g1 tk1 k1=> ?_));simp only[Option.isNone_none,if_true];refine(Aa (Ge ?_));have o1:g1.get? l=some o:=k1 _ _ ho';have od:g1.get? s.heap.objs.size=some {cls:= .type "dict",data:= .dict #[]}:=k1 _ _ (Aq _ rfl);have lts:s.heap.objs.size<g1.objs.size:=Am od;have ltl:l<s.heap.objs.size:=Am ho;have hl1:g1.IsList l vs.toArray:=⟨o,o1,hc,n,cy⟩;have kr: ∀b ob,s.heap.get? b=some ob->g1.get? b=some ob:=fun b ob q=>k1 b ob (Ac _ q);have ne1: ∀b ob,s.heap.get? b=some ob->b∉[g1.objs.size]/\b≠s.heap.objs.size:=fun b ob q=>by
  have:=Am q;exact⟨fun z=>by rw[Ar.mp z] at this;exact absurd (Pc this lts) (Ca _),fun z=>by rw[z] at this;exact Ca _ this⟩
 have hin: ∀{vs:List Value} {ps:List (a0×Value)},PrK prog w s.heap vs ps-> ∀a,Bn a∈vs-> ∃ob,s.heap.get? a=some ob:=by
  intro vs;induction vs with
  |nil=>intro ps _ a ha;cases ha
  |cons v vs ih=>
   intro ps hp a ha;cases ps with
   |nil=>exact hp.elim
   |cons p ps=>
    rcases Ak.mp ha with e|ha
    ·obtain⟨⟨b,key,e2,⟨ob,hob,_⟩,_⟩,_⟩:=hp
     rw[e2] at e;cases e;exact⟨ob,hob⟩
    ·exact ih hp.2 a ha
 refine(Aa (Fp (s:={s with heap:=g1,toks:=tk1}) hl1 ?_));have W:=Rs (prog:=prog) (w:=w) (A:=A.in1.in1) (by simp[hh]) g1.objs.size l (Bd (Pc ltl lts)) vs.toArray;refine(Ah ⟨Od U0 _,zD0 (A:=A.in1) W (fun z=> ?_) vs ps 0 0 _ [] (by simp) (by simp) ⟨⟨_,Aq _ rfl,rfl,rfl⟩,hl1.push _⟩ ?_ (by simpa using hz) (PrK.keep (C:=fun _=>True) (fun b ob _ q=>Ac _ (kr b ob q)) (fun _ _=>trivial) hp) (fun a ha=> ?_) fun g tk hdd kept=>⟨rfl,h g tk hdd fun b ob q=> ?_⟩⟩)
 ·rcases Ak.mp z with z|z
  ·exact absurd lts (by rw[<- z];exact Ca _)
  ·rw[<- Ar.mp z] at ltl
   exact Ca _ ltl
 ·obtain⟨o2,es,ep,ho2,r2⟩:=dq
  exact⟨o2,es,ep,Ac _ (k1 _ _ ho2),r2⟩
 ·obtain⟨ob,hob⟩:=hin hp a ha
  exact ne1 a ob hob
 ·exact kept b ob (ne1 b ob q).1 (ne1 b ob q).2 (Ac _ (kr b ob q))
end
variable{X:Cx}{K:Ap}{H:Hp}{σ:St}{s:Af}{aa:List (Addr×Obj)}{ml:List Nat}{pa ta ia:Bool}{fa:VF}{a:Expr}{p' pos:Pos}
noncomputable def EQ:dF->Option (a0×dF)
 | .tup [k,v]=>(XE k).map fun kk=>(kk,v)
 |_=>none
noncomputable def VO:List dF->Option (List (a0×dF))
 |[]=>some []
 |d::ds=>(EQ d).bind fun p=>(VO ds).map fun ps=>p::ps
def LF(K:Ap)(H:Hp):List V->List (a0×V)->Prop
 |[],[]=>True
 |v::vs,p::ps=>(∃a,v= .ref a/\W9 K H a [kV p.1,p.2])/\LF K H vs ps
 |_,_=>False
theorem zBS{d:dF}{p:a0×dF}(h:EQ d=some p): ∃k,d= .tup [k,p.2]/\XE k=some p.1:=by
 unfold EQ at h;split at h
 ·rename_i k v
  cases e:XE k with
  |none=>rw[e] at h;cases h
  |some kk=>rw[e] at h;cases h;exact⟨k,rfl,e⟩
 ·cases h
theorem JZ{N:Addr->Prop}: ∀{xs:List V} {ds:List dF} {kds:List (a0×dF)},cR K N H xs ds->VO ds=some kds-> ∃kvs:List (a0×V),LF K H xs kvs/\kvs.map Dh=kds.map Dh/\cR K N H (kvs.map Eh) (kds.map Eh)
 |_,_,_,.nil,h=>by cases h;exact⟨[],trivial,rfl,.nil⟩
 | _,_,kds,@cR.cons _ _ _ v vs d ds h t,e => by
  have e:(EQ d).bind (fun p=>(VO ds).map fun ps=>p::ps)=some kds:=e;cases h1:EQ d with
  |none=>rw[h1] at e;cases e
  |some p=>
   rw[h1] at e;have e:(VO ds).map (fun ps=>p::ps)=some kds:=e;cases h2:VO ds with
   |none=>rw[h2] at e;cases e
   |some qs=>
    rw[h2] at e;cases e;obtain⟨kvs,r1,r2,r3⟩:=JZ t h2;obtain⟨k,rfl,hk⟩:=zBS h1;cases h with
    |tup sq r=>
     cases r with
     |cons w1 r=>
      cases r with
      |cons w2 r=>
       cases r;have ek:=w1.key hk;subst ek;exact⟨(p.1,_)::kvs,⟨⟨_,rfl,sq⟩,r1⟩,by simp[r2],.cons w2 r3⟩
theorem LF.prK(I:cT X aa σ H s): ∀{xs:List V} {us:List Value} {kvs:List (a0×V)},LF X.K H xs kvs->b6 xs us-> ∃ps:List (a0×Value),KV kvs ps/\PrK X.prog X.w s.heap us ps
 |[],_,[],_,.nil=>⟨[],.nil,trivial⟩
 | _ :: _,_,p :: _,⟨⟨b,e,q⟩,r⟩,.cons h t => by
  subst e;cases h;obtain⟨ps,r1,r2⟩:=LF.prK I r t;obtain⟨its,rv,ht,_⟩:=I.tuple q;cases rv with
  |cons w1 rv=>
   cases rv with
   |cons w2 rv=>
    cases rv;exact⟨(p.1,_)::ps,.cons ⟨rfl,w2⟩ r1,⟨b,_,rfl,ht,M6 w1⟩,r2⟩
 |[],_,_::_,h,_=>h.elim
 |_::_,_,[],h,_=>h.elim
theorem LF.len: ∀{xs:List V} {ps:List (a0×V)},LF K H xs ps->xs.length=ps.length
 |[],[],_=>rfl
 |_::_,_::_,r=>by simp[LF.len r.2]
 |[],_::_,r=>r.elim
 |_::_,[],r=>r.elim
def BU(K:Ap):RC:=fun xs H Q=> ∃(p:Addr) (ys:List V) (kvs:List (a0×V)),xs=[.ref p]/\X9 K H p ys/\LF K H ys kvs/\(kvs.map Dh).Nodup/\ ∀l:Addr,H l=none->Q (.ref l) (bH H l (.dK kvs))
theorem zFY(h:X.K=K)(hc:X.calm=true):aY X (.type "dict") (BU K):=by
 subst h;intro aa s σ H xs us Q I r h;obtain⟨p,ys,kvs,rfl,hq,hp,nd,q⟩:=h;obtain⟨u,rfl,rx⟩:=WB r;cases rx;obtain⟨its,rv,pl,hz⟩:=I.list hq;have ae:=rv.length;have hpl:=hp.len;obtain⟨ps,r1,r2⟩:=hp.prK I rv;refine HV (I.ok.hd hc) pl (by lia) r2 fun g tk hd kept=> ?_;have hm:O9 [] kvs=kvs:=M8 (acc:=[]) (by simpa using nd);have rel:=KV.merge r1 (kvs:=[]) (vs:=[]) .nil;rw[hm] at rel;exact⟨.ref s.heap.objs.size,_,I.laid (a:=s.heap.objs.size) (o:= .dK kvs) (t':=tk) kept (Ag _) (zA8 (by lia) (beq_eq_false_iff_ne.mpr (Dk (Bd I.big))) rel hd),rfl,q _ (I.hok.fresh (Ag _))⟩
noncomputable def GH:dF->Option dF
 | .lst ds=>(VO ds).bind fun kds=>if(kds.map Dh).Nodup then some (.dct (kds.map Dh) (kds.map Eh)) else none
 |_=>none
def CalD(K:Ap)(r:RC)(o:dF->Option dF):Prop:= ∀(H:Hp) (N M:Addr->Prop) (x:V) (d c:dF) (Q:VK),bU K N H M x d->o d=some c→
 (∀p (kvs:List (a0×V)) ds,H p=none->cR K N H (kvs.map Eh) ds->c= .dct (kvs.map Dh) ds->Q (.ref p) (bH H p (.dK kvs)))->r [x] H Q
theorem zBM:CalD K (BU K) GH:=by
 intro H N M x d c Q hx h k;cases d with
 |lst ds=>
  have h:((VO ds).bind fun kds=>if(kds.map Dh).Nodup then some (dF.dct (kds.map Dh) (kds.map Eh)) else none)=some c:=h;cases h1:VO ds with
  |none=>rw[h1] at h;cases h
  |some kds=>
   rw[h1] at h;have h:(if(kds.map Dh).Nodup then some (dF.dct (kds.map Dh) (kds.map Eh)) else none)=some c:=h;split at h
   ·rename_i nd
    cases h;obtain⟨a,xs,rfl,sq,r⟩:=hx.lstE;obtain⟨kvs,r1,r2,r3⟩:=JZ r h1;exact⟨a,xs,kvs,rfl,sq,r1,by rw[r2];exact nd,fun l hl'=>k l kvs _ hl' r3 (by rw[r2])⟩
   ·cases h
 |_=>cases h
theorem mkDK{B:Bs}{O:Nat->Option Addr}{H1:Hp}{δ':Ev}{p:Addr}{pu:Bool}{kvs:List (a0×V)}{ds:List dF}(S:aX K ml B O H1 σ δ')(f:Fr (OA O) H H1)(s:pu=true->bL H H1)(hp:H1 p=none)(r:cR K (Nn B O) H1 (kvs.map Eh) ds):ResN K ml B O H σ pu (bH H1 p (.dK kvs)) δ' p (.dct (kvs.map Dh) ds):=
 ⟨S.laid hp,f.trans (c6 hp).fr,fun z=>(s z).trans (c6 hp),.dct cO ((r.away hp _ _ XJ).same (c6 hp)),S.new hp,S.fresh hp⟩
theorem FM(hK:X.K=K)(hc:X.calm=true)(hg:Gl X "dict") (hm:X.mg "dict"=none) (hv:Bh "dict"=some (.type "dict")) (ha:PE X a (TV K ml pa ta true fa)) (hn:("dict":Str)≠ "__name__":=by decide) (hdb:(("dict":Str)==("__debug__":Str))=false:=by decide)
  (he:Aj (a::[]) X.env=(false,eval a X.env)::Aj [] X.env:=by rfl):PE X (.Call (.Name "dict" p') [a] [] pos) (TN K ml pa (f1 GH fa)):=
 (W3 (zFY hK hc) hg hm hv (b5 ha Z8 he) hn hdb he).imp fun σ H Q h => by
  obtain⟨B,O,δ,d,δ',S,q,k⟩:=h;obtain⟨x,h1,h2⟩:=OO q;refine⟨B,O,δ,x,δ',S,h1,fun v1 H1 R1=>zBM H1 _ _ v1 x d Q R1.rep h2 fun p kvs ds hp hr he=> ?_⟩;subst he;exact k p _ (mkDK R1.sta R1.frm R1.pur hp hr)
section
variable{prog:Bk}{w:World}{A:Cz}{E:Value->Af->Prop}{s:Af}
theorem SD:isSubtype (.type "range_iterator") (.type "reversed")=pure false:=by rw[isSubtype_type];kernel_rfl
theorem zAW{r:Addr}{n:Int}{t u v:Tok}{Q:Value->Af->Prop}(hn: -(2 ^ 62)<=n/\n<2 ^ 62)(hr:s.heap.get? r=some {cls:= .type "range",data:= .fields #[.int 0 t,.int n u,.int 1 v]})
  (h:Q (.ref s.heap.objs.size) {s with heap:=s.heap.push {cls:= .type "range_iterator",data:= .fields #[rawInt ((n.toNat:Int) - 1),rawInt (n.toNat:Int),rawInt (-1)]}}):wpAny (model prog w) A (call (.builtin "range.__reversed__") [.ref r]) Q E s:=by
 refine Ds F.slot_range_reversed ⟨_,hr,rfl⟩ F.entry_range_reversed ?_ (F.args_range_reversed_1 _);unfold La.«range.__reversed__»;refine Aa (Hi (a:=Bn r) rfl ?_);have sz:Fz 0 n 1=(n.toNat:Int):=by rw[rangeSize_one];split<;>lia
 have fl:(Cs 0 && Cs n && Cs 1 && Cs (-1) && Cs (0 - 1) && Cs (n.toNat:Int))=true:=by
  simp only[Cs,Ad,decide_eq_true_eq];lia
 obtain⟨hh,g,d,tk,os⟩:=s;unfold Ri;repeat (any_goals (first|with_reducible refine Du hr rfl rfl ?_|wp_step))
 dsimp only;rw[sz,fl];refine Aa (Co (Ah ⟨_,rfl,?_⟩));rw[show(0:Int)+((n.toNat:Int) - 1)*1=(n.toNat:Int) - 1 by lia];exact h
theorem LS{r:Addr}{n:Int}{t u v:Tok}{Q:Value->Af->Prop}(hn: -(2 ^ 62)<=n/\n<2 ^ 62)(hr:s.heap.get? r=some {cls:= .type "range",data:= .fields #[.int 0 t,.int n u,.int 1 v]})
  (h:Q (.ref s.heap.objs.size) {s with heap:=s.heap.push {cls:= .type "range_iterator",data:= .fields #[rawInt ((n.toNat:Int) - 1),rawInt (n.toNat:Int),rawInt (-1)]}}):
  Gg (model prog w) A (.call (.builtin "reversed.__new__") ⟨[.type "reversed",.ref r],[]⟩) (wants Q E) s:=by
 refine codeAny_of_tree (show wpAny _ A.in1 (do checkBuiltinCall "reversed.__new__" ⟨[.type "reversed",.ref r],[]⟩;Qr (.builtin "reversed.__new__" ⟨[.type "reversed",.ref r],[]⟩)) _ _ s from ?_);refine Aa (Hi (F.newCall_reversed_1 _) (Ah ⟨Od Mr _,Mk F.entry_reversed_new ?_⟩));rw[Ir Mr _];unfold La.«reversed.__new__»;refine Aa (Hi (newClass_reversed _) (Aa (Hi (a:=()) (by first|rfl|kernel_rfl) (Aa (Hi (a:=()) (by first|rfl|kernel_rfl) ?_)))));refine Aa (Mf (⟨_,hr,rfl⟩:s.TypeIs (.ref r) "range") F.slot_range_reversed.lookup ?_);refine Aa (Hi (F.slot_range_reversed.bind _) ?_);show wpAny _ _ (if(Rz "range.__reversed__"==Value.none)=true then _ else _) _ _ _;rw[if_neg (by decide)];refine Aa (Ge (Aa (m:=runValue (.call (.builtin "range.__reversed__") ⟨[.ref r],[]⟩)) (show wpAny _ _ (call (.builtin "range.__reversed__") [.ref r]) _ _ _ from zAW hn hr ?_)));first
 |exact Ah h
 |exact Aa (Ah (Ah h))
theorem LN{r:Addr}{n:Int}{t u v:Tok}{Q:Value->Af->Prop}(hn: -(2 ^ 62)<=n/\n<2 ^ 62)(hr:s.heap.get? r=some {cls:= .type "range",data:= .fields #[.int 0 t,.int n u,.int 1 v]})
  (h:Q (.ref s.heap.objs.size) {s with heap:=s.heap.push {cls:= .type "range_iterator",data:= .fields #[rawInt ((n.toNat:Int) - 1),rawInt (n.toNat:Int),rawInt (-1)]}}):wpAny (model prog w) A (call (.type "reversed") [.ref r]) Q E s:=
 callType_other (U:= "range_iterator") (Q₁:=fun obj s₁=>s₁.TypeIs obj "range_iterator" /\Q obj s₁) (by decide+kernel) F.create_reversed ⟨_,_,F.mro_reversed⟩ F.made_reversed SD (F.typeCall_reversed_1 _) (LS hn hr ⟨⟨_,Aq _ rfl,rfl⟩,h⟩) fun _ _ z=>z
end
def ItB(n:Nat):It:=⟨fun i _=>i<n,fun i H x H'=>H'=H/\x= .int ((n:Int) - 1 - i),fun i _=>n<=i⟩
theorem CU{P:Bk}{w:World}{K:Ap}{tg:Expr}(it:Addr)(n:Nat):LG P w K tg (ItB n) [it] it (fun i h=>Kv h it ((n:Int) - 1+(i:Nat)*(-1)) ((n:Int) - (i:Nat)) (-1)) where
 mem:=by simp
 obj:=fun i h st b hb=>by
  have e:b=it:=by simpa using hb
  subst e;exact⟨_,st,fun v z=>by
   have z':Data.fields _=Data.cell v:=z;cases z'⟩
 keep:=fun i h h' st k=>k it (by simp) _ st
 item:=by
  intro X hP hw hK hc i aa s σ H E I hf st hg;subst hP hw hK;obtain⟨f0,f1,f2,f3,f4,f5⟩:=hf it (by simp);refine(Sr (prog:=X.prog) (w:=X.w) (I.ok.hd hc) it ((n:Int) - 1) (-1) n).item i s _ _ hg st fun v h' tk hv st' kk=> ?_;obtain⟨t,rfl⟩:=hv;have I1:cT X aa σ H {s with heap:=h',toks:=tk}:=I.turned (fun b o hb e=>kk b o (by simpa using hb) e) f0 f1 f3 f4 f5;exact⟨_,rfl,F3 (s:={s with heap:=h',toks:=tk}) (n:= "range_iterator") st' rfl rfl (by decide) ⟨.int ((n:Int) - 1 - i),H,I1,⟨t,by congr 1;lia⟩,⟨rfl,rfl⟩,st',fun b hb=>(hf b hb).1⟩⟩
 done:=by
  intro X hP hw hK hc i aa s σ H E I hf st hg;subst hP hw hK;obtain⟨f0,f1,f2,f3,f4,f5⟩:=hf it (by simp);exact Lp (I.ok.hd hc) st (by have:n<=i:=hg;lia) fun h' eb=>⟨rfl,I.turned (t':=s.toks) (fun b o hb e=>eb b o hb e) f0 f1 f3 f4 f5⟩
 self:=fun _ _ _ _ _ st h=>Hy st h
theorem NW:Bh "reversed"=some (.type "reversed"):=by decide+kernel
section
variable{X:Cx}{K:Ap}{ml:List Nat}{a:Expr}{pa ta ia:Bool}{fa:VF}{pos f8:Pos}{tg:Expr}
def zIG(ta:TA):TI:=fun σ H R=>ta σ H fun vs H1=> ∃j:Int,vs=[.int j]/\ -(2 ^ 62)<=j/\j<2 ^ 62/\R (ItB j.toNat) H1
theorem zED{ta:TA}{p p2:Pos}(hg:Gl X "range") (hm:X.mg "range"=none) (hg2:Gl X "reversed") (hm2:X.mg "reversed"=none) (ha:PA X [a] ta) (hs:Aj [a] X.env=[(false,eval a X.env)]:=by rfl)
  (hs2:Aj [.Call (.Name "range" p) [a] [] pos] X.env=[(false,eval (.Call (.Name "range" p) [a] [] pos) X.env)]:=by rfl):
  PI X tg (.Call (.Name "reversed" p2) [.Call (.Name "range" p) [a] [] pos] [] f8) (zIG ta):=by
 intro aa s σ H R I h;refine Call_ (WM I hg2 hm2 NW (Cp ?_ hs2 rfl));rw[hs2];refine Fe (Call_ (WM I hg hm Rq (Cp (ZX (ha pos aa s σ H _ I h) fun us s1 ⟨vs,H1,I1,r1,q1⟩=> ?_) hs rfl)));obtain⟨j,e,q1,q2,q⟩:=q1;subst e;cases r1 with
 |cons r rr=>
  cases rr;obtain⟨t,rfl⟩:=r;refine Pb (Gy (LN ⟨q1,q2⟩ (Aq _ rfl) (Hy (show Kv _ _ _ _ _ from Aq _ rfl) ?_)));have I2:cT X aa σ H1 {s1 with heap:=s1.heap.push {cls:= .type "range",data:= .fields #[.int 0 s1.toks,.int j t,.int 1 (s1.toks+1)]},toks:=s1.toks+1+1}:=I1.kept fun b o e=>Ac _ e;refine⟨_,[_],_,_,H1,rfl,I2.kept (t':=s1.toks+1+1) fun b o e=>Ac _ e,CU _ j.toNat,?_,fun b hb=> ?_,q⟩
  ·have e1 : ((j.toNat : Int) - 1) + ((0 : Nat) : Int) * (-1) = (j.toNat : Int) - 1 := by simp
   have e2:(j.toNat:Int) - ((0:Nat):Int)=(j.toNat:Int):=by simp
   show Kv _ _ (((j.toNat:Int) - 1)+((0:Nat):Int)*(-1)) ((j.toNat:Int) - ((0:Nat):Int)) (-1);rw[e1,e2];exact Aq _ rfl
  ·have e:=Ar.mp hb
   subst e;exact I2.fpOk (Ag _) (I2.hok.fresh (Ag _))
def UN(n:Nat):List dF:=(At n).map fun k:Nat=> .int ((n:Int) - 1 - k)
theorem FO{n:Nat}:D2 K (ItB n) [] (UN n):=by
 intro N H _;refine⟨fun i d e=> ?_,by simp[ItB,UN]⟩;unfold UN at e;rw[Cq] at e;cases h1:(At n)[i]? with
 |none=>rw[h1] at e;cases e
 |some k=>
  rw[h1] at e;cases e;obtain⟨hl,e⟩:=Ae.mp h1;rw[Hb] at hl;rw[Nv] at e;subst e;refine⟨hl,fun x H' hy=> ?_⟩;obtain⟨rfl,rfl⟩:=hy;exact⟨bL.refl _,.int _⟩
noncomputable def iRB(f:VF):VI:=fun δ=>(f δ).bind fun p=>match p.1 with
 | .int j=>if -4611686018427387904<=j/\j<4611686018427387904 then some (UN j.toNat,p.2) else none
 |_=>none
theorem C5{p' p2:Pos}(hg:Gl X "range") (hm:X.mg "range"=none) (hg2:Gl X "reversed") (hm2:X.mg "reversed"=none) (h:PE X a (TV K ml pa ta ia fa)) (hs:Aj [a] X.env=[(false,eval a X.env)]:=by rfl) (hs1:Aj (a::[]) X.env=(false,eval a X.env)::Aj [] X.env:=by rfl)
  (hs2:Aj [.Call (.Name "range" p') [a] [] pos] X.env=[(false,eval (.Call (.Name "range" p') [a] [] pos) X.env)]:=by rfl):
  PI X tg (.Call (.Name "reversed" p2) [.Call (.Name "range" p') [a] [] pos] [] f8) (FR K ml pa (iRB fa)):=(zED hg hm hg2 hm2 (b5 h Z8 hs1) hs hs2).imp fun σ H R ⟨B,O,δ,ds,δ',S,q,k⟩=>by
 unfold iRB at q;cases h1:fa δ with
 |none=>rw[h1] at q;cases q
 |some p=>
  obtain⟨x,δ1⟩:=p;rw[h1] at q;cases x with
  |int j=>
   have q:(if -4611686018427387904<=j/\j<4611686018427387904 then some (UN j.toNat,δ1) else none)=some (ds,δ'):=q;split at q
   ·rename_i hj
    cases q;have p62:(2:Int) ^ 62=4611686018427387904:=by decide
    refine⟨B,O,δ,_,_,S,h1,fun v H1 R1=>⟨j,?_,by rw[p62];exact hj.1,by rw[p62];exact hj.2,k _ [] H1 (R1.sta.keepV fun _ z=>nomatch z) R1.frm R1.pur FO⟩⟩;have r:=R1.rep;cases r;rfl
   ·cases q
  |_=>cases q
end
end L2
namespace L2
open PySem
section
variable{α β:Type}{d x y z c:dF}{δ δ1 δ':Ev}{fa fb fc:VF}{o o':dF->dF->Option dF}{i j k n:Nat}{s:Sl}{b:Bool}{ds:List dF}
noncomputable def q0(r:Option α)(δ:Ev):Option (α×Ev):=r.map fun c=>(c,δ)
@[simp] theorem q0_s{a:α}:q0 (some a) δ=some (a,δ):=rfl
@[simp] theorem fC_e:fC d δ=some (d,δ):=rfl
noncomputable def qV:Option Sl->Ev->Option (dF×Ev)
 |some (.va d),δ=>some (d,δ)
 |_,_=>none
noncomputable def qO:Option Sl->Ev->Option (dF×Ev)
 |some (.va d),δ=>some (d,δ)
 |some (.ow d),δ=>some (d,δ)
 |_,_=>none
@[simp] theorem fV_e:fV i δ=qV δ[i]? δ:=by unfold fV qV;split<;>simp_all
@[simp] theorem fO_e:fO i δ=qO δ[i]? δ:=by unfold fO qO;split<;>simp_all
@[simp] theorem qV_s:qV (some (.va d)) δ=some (d,δ):=rfl
@[simp] theorem qO_v:qO (some (.va d)) δ=some (d,δ):=rfl
@[simp] theorem qO_o:qO (some (.ow d)) δ=some (d,δ):=rfl
noncomputable def q1(o:dF->Option dF)(r:Option (dF×Ev)):Option (dF×Ev):=r.bind fun p=>q0 (o p.1) p.2
@[simp] theorem f1_e{o:dF->Option dF}:f1 o fa δ=q1 o (fa δ):=rfl
@[simp] theorem q1_s{o:dF->Option dF}:q1 o (some (x,δ))=q0 (o x) δ:=rfl
noncomputable def q2(o:dF->dF->Option dF)(r:Option (dF×Ev))(fb:VF):Option (dF×Ev):=r.bind fun p=>(fb p.2).bind fun q=>q0 (o p.1 q.1) q.2
noncomputable def q2b(o:dF->dF->Option dF)(x:dF)(r:Option (dF×Ev)):Option (dF×Ev):=r.bind fun q=>q0 (o x q.1) q.2
@[simp] theorem f2_e:f2 o fa fb δ=q2 o (fa δ) fb:=rfl
@[simp] theorem q2_s:q2 o (some (x,δ)) fb=q2b o x (fb δ):=rfl
@[simp] theorem zNE:q2b o x (some (y,δ))=q0 (o x y) δ:=rfl
noncomputable def q3(o o':dF->dF->Option dF)(r:Option (dF×Ev))(fb fc:VF):Option (dF×Ev):=r.bind fun p=>(fb p.2).bind fun q=>(o p.1 q.1).bind fun z=>match z with
 | .bl true=>(fc q.2).bind fun s=>(o' q.1 s.1).map fun u=>(u,s.2)
 | .bl false=>some (.bl false,q.2)
 |_=>none
noncomputable def q3b(o o':dF->dF->Option dF)(x:dF)(r:Option (dF×Ev))(fc:VF):Option (dF×Ev):=q3 o o' (some (x,[])) (fun _=>r) fc
noncomputable def q3c(o':dF->dF->Option dF)(y:dF)(δ:Ev)(fc:VF):Option dF->Option (dF×Ev)
 |some (.bl true)=>q2b o' y (fc δ)
 |some (.bl false)=>some (.bl false,δ)
 |_=>none
@[simp] theorem f3_e:f3 o o' fa fb fc δ=q3 o o' (fa δ) fb fc:=rfl
@[simp] theorem q3_s:q3 o o' (some (x,δ)) fb fc=q3b o o' x (fb δ) fc:=rfl
@[simp] theorem zND:q3b o o' x (some (y,δ)) fc=q3c o' y δ fc (o x y):=by
 simp only[q3b,q3,An];cases o x y with
 |none=>rfl
 |some z=>cases z with
  |bl b=>cases b<;>rfl
  |_=>rfl
@[simp] theorem zNB:q3c o' y δ fc (some (.bl true))=q2b o' y (fc δ):=rfl
@[simp] theorem zNC:q3c o' y δ fc (some (.bl false))=some (.bl false,δ):=rfl
noncomputable def qc(r:Option (dF×Ev))(fs:OC):Option (List dF×Ev):=r.bind fun p=>(fs p.2).map fun q=>(p.1::q.1,q.2)
noncomputable def qcb(x:dF)(r:Option (List dF×Ev)):Option (List dF×Ev):=r.map fun q=>(x::q.1,q.2)
@[simp] theorem zM8:cD δ=some ([],δ):=rfl
@[simp] theorem zJT{fs:OC}:c9 fa fs δ=qc (fa δ) fs:=rfl
@[simp] theorem qc_s{fs:OC}:qc (some (x,δ)) fs=qcb x (fs δ):=rfl
@[simp] theorem zMV:qcb x (some (ds,δ))=some (x::ds,δ):=rfl
noncomputable def qT(g:List dF->dF)(r:Option (List dF×Ev)):Option (dF×Ev):=r.bind fun p=>if p.1.length<=16777216 then some (g p.1,p.2) else none
@[simp] theorem zM6{fs:OC}:Z4 fs δ=qT .tup (fs δ):=rfl
@[simp] theorem zM9{fs:OC}:Y7 fs δ=qT .lst (fs δ):=rfl
@[simp] theorem qT_s{g:List dF->dF}:qT g (some (ds,δ))=if ds.length<=16777216 then some (g ds,δ) else none:=rfl
noncomputable def qB:Option (dF×Ev)->Option (Bool×Ev)
 |some (.bl k,δ)=>some (k,δ)
 |_=>none
@[simp] theorem fB_e:fB fa δ=qB (fa δ):=by
 unfold fB qB;cases fa δ with
 |none=>rfl
 |some p=>
  obtain⟨d,e⟩:=p;cases d<;>rfl
@[simp] theorem qB_s:qB (some (.bl b,δ))=some (b,δ):=rfl
variable{tb tb':VB}{g g':VS}
noncomputable def qAnd(r:Option (Bool×Ev))(y:VB):Option (Bool×Ev):=r.bind fun p=>if p.1=true then y p.2 else some (false,p.2)
noncomputable def qOr(r:Option (Bool×Ev))(y:VB):Option (Bool×Ev):=r.bind fun p=>if p.1=true then some (true,p.2) else y p.2
noncomputable def qNot(r:Option (Bool×Ev)):Option (Bool×Ev):=r.map fun p=>(!p.1,p.2)
@[simp] theorem zMG:SM tb tb' δ=qAnd (tb δ) tb':=rfl
@[simp] theorem zNW:FT tb tb' δ=qOr (tb δ) tb':=rfl
@[simp] theorem zMF:RG tb δ=qNot (tb δ):=rfl
@[simp] theorem zAC:V5 δ=some (true,δ):=rfl
@[simp] theorem zL4:qAnd (some (true,δ)) tb=tb δ:=rfl
@[simp] theorem zL5:qAnd (some (false,δ)) tb=some (false,δ):=rfl
@[simp] theorem zN0:qOr (some (true,δ)) tb=some (true,δ):=rfl
@[simp] theorem zN1:qOr (some (false,δ)) tb=tb δ:=rfl
@[simp] theorem zKY:qNot (some (b,δ))=some (!b,δ):=rfl
noncomputable def qA(r:Option (dF×Ev))(y:VF):Option (dF×Ev):=r.bind fun p=>match p.1 with
 | .bl true=>y p.2
 | .bl false=>some (.bl false,p.2)
 |_=>none
noncomputable def qR(r:Option (dF×Ev))(y:VF):Option (dF×Ev):=r.bind fun p=>match p.1 with
 | .bl false=>y p.2
 | .bl true=>some (.bl true,p.2)
 |_=>none
noncomputable def qN(r:Option (dF×Ev)):Option (dF×Ev):=r.bind fun p=>match p.1 with
 | .bl k=>some (.bl (!k),p.2)
 |_=>none
@[simp] theorem zMA:VA fa fb δ=qA (fa δ) fb:=rfl
@[simp] theorem zNU:fOr fa fb δ=qR (fa δ) fb:=rfl
@[simp] theorem zM7:fNot fa δ=qN (fa δ):=rfl
@[simp] theorem qA_t:qA (some (.bl true,δ)) fb=fb δ:=rfl
@[simp] theorem qA_f:qA (some (.bl false,δ)) fb=some (.bl false,δ):=rfl
@[simp] theorem qR_t:qR (some (.bl true,δ)) fb=some (.bl true,δ):=rfl
@[simp] theorem qR_f:qR (some (.bl false,δ)) fb=fb δ:=rfl
@[simp] theorem qN_s:qN (some (.bl b,δ))=some (.bl (!b),δ):=rfl
noncomputable def qI(r:Option (Bool×Ev))(x y:VF):Option (dF×Ev):=r.bind fun p=>if p.1=true then x p.2 else y p.2
@[simp] theorem zNV:fIf tb fa fb δ=qI (tb δ) fa fb:=rfl
@[simp] theorem qI_t:qI (some (true,δ)) fa fb=fa δ:=rfl
@[simp] theorem qI_f:qI (some (false,δ)) fa fb=fb δ:=rfl
noncomputable def qS(r:Option Ou)(g:VS):Option Ou:=r.bind fun o=>match o with
 | .nx δ'=>g δ'
 |o=>some o
@[simp] theorem zKF:aF δ=some (.nx δ):=rfl
@[simp] theorem CA:cL g g' δ=qS (g δ) g':=rfl
@[simp] theorem qS_n:qS (some (.nx δ)) g=g δ:=rfl
@[simp] theorem qS_r:qS (some (.rt d δ)) g=some (.rt d δ):=rfl
@[simp] theorem qS_b:qS (some (.bk δ)) g=some (.bk δ):=rfl
@[simp] theorem qS_c:qS (some (.ct δ)) g=some (.ct δ):=rfl
noncomputable def qJ(r:Option (Bool×Ev))(x y:VS):Option Ou:=r.bind fun p=>if p.1=true then x p.2 else y p.2
@[simp] theorem zMH:XA tb g g' δ=qJ (tb δ) g g':=rfl
@[simp] theorem qJ_t:qJ (some (true,δ)) g g'=g δ:=rfl
@[simp] theorem qJ_f:qJ (some (false,δ)) g g'=g' δ:=rfl
noncomputable def qRet(r:Option (dF×Ev)):Option Ou:=r.map fun p=> .rt p.1 p.2
noncomputable def zCK(r:Option (dF×Ev)):Option Ou:=r.map fun p=> .nx p.2
@[simp] theorem zKE:bX fa δ=qRet (fa δ):=rfl
@[simp] theorem zKU:qRet (some (d,δ))=some (.rt d δ):=rfl
@[simp] theorem zJ5:KQ fa δ=zCK (fa δ):=rfl
@[simp] theorem zJ7:zCK (some (d,δ))=some (.nx δ):=rfl
noncomputable def qx(f:dF->Sl)(r:Option (dF×Ev)):Option (Sl×Ev):=r.map fun p=>(f p.1,p.2)
@[simp] theorem xV_e:xV fa δ=qx .va (fa δ):=rfl
@[simp] theorem xO_e:xO fa δ=qx .ow (fa δ):=rfl
@[simp] theorem qx_s{f:dF->Sl}:qx f (some (d,δ))=some (f d,δ):=rfl
noncomputable def qSet(i:Nat)(r:Option (Sl×Ev)):Option Ou:=r.bind fun p=>if i<p.2.length then some (.nx (p.2.set i p.1)) else none
@[simp] theorem zKD{x:VX}:aG i x δ=qSet i (x δ):=rfl
@[simp] theorem zKR:qSet i (some (s,δ))=if i<δ.length then some (.nx (δ.set i s)) else none:=rfl
noncomputable def qP2(i j:Nat)(r:Option (Sl×Ev))(y:VX):Option Ou:=r.bind fun p=>(y p.2).bind fun q=>if i<q.2.length/\j<q.2.length then some (.nx ((q.2.set j q.1).set i p.1)) else none
noncomputable def qP2b(i j:Nat)(s:Sl)(r:Option (Sl×Ev)):Option Ou:=r.bind fun q=>if i<q.2.length/\j<q.2.length then some (.nx ((q.2.set j q.1).set i s)) else none
@[simp] theorem zJ4{x y:VX}:KS i j x y δ=qP2 i j (x δ) y:=rfl
@[simp] theorem zMZ{y:VX}:qP2 i j (some (s,δ)) y=qP2b i j s (y δ):=rfl
@[simp] theorem zKX{s':Sl}:qP2b i j s (some (s',δ))=if i<δ.length/\j<δ.length then some (.nx ((δ.set j s').set i s)) else none:=rfl
noncomputable def qP3(i j k:Nat)(r:Option (Sl×Ev))(y z:VX):Option Ou:=r.bind fun p=>(y p.2).bind fun q=>(z q.2).bind fun r=>if i<r.2.length/\j<r.2.length/\k<r.2.length then some (.nx (((r.2.set k r.1).set j q.1).set i p.1)) else none
noncomputable def qP3b(i j k:Nat)(s:Sl)(r:Option (Sl×Ev))(z:VX):Option Ou:=r.bind fun q=>(z q.2).bind fun r=>if i<r.2.length/\j<r.2.length/\k<r.2.length then some (.nx (((r.2.set k r.1).set j q.1).set i s)) else none
noncomputable def qP3c(i j k:Nat)(s s':Sl)(r:Option (Sl×Ev)):Option Ou:=r.bind fun r=>if i<r.2.length/\j<r.2.length/\k<r.2.length then some (.nx (((r.2.set k r.1).set j s').set i s)) else none
@[simp] theorem zJ3{x y z:VX}:PV i j k x y z δ=qP3 i j k (x δ) y z:=rfl
@[simp] theorem zMY{y z:VX}:qP3 i j k (some (s,δ)) y z=qP3b i j k s (y δ) z:=rfl
@[simp] theorem zKW{s':Sl}{z:VX}:qP3b i j k s (some (s',δ)) z=qP3c i j k s s' (z δ):=rfl
@[simp] theorem zKV{s' s'':Sl}:qP3c i j k s s' (some (s'',δ))=if i<δ.length/\j<δ.length/\k<δ.length then some (.nx (((δ.set k s'').set j s').set i s)) else none:=rfl
@[simp] theorem N4:gN i d δ=some (δ.set i (.va d)):=rfl
def qg(r:Option Ev)(gs:DK)(ds:List dF):Option Ev:=r.bind fun δ1=>gs ds δ1
@[simp] theorem zJS:X5 [] δ=some δ:=rfl
@[simp] theorem zIK{gg:VG}{gs:DK}:bS gg gs (d::ds) δ=qg (gg d δ) gs ds:=rfl
@[simp] theorem qg_s{gs:DK}:qg (some δ) gs ds=gs ds δ:=rfl
@[simp] theorem zNR{gs:DK}:LC n gs (.tup ds) δ=if ds.length=n then gs ds δ else none:=rfl
@[simp] theorem zNS{gs:DK}:LC n gs (.lst ds) δ=if ds.length=n then gs ds δ else none:=rfl
noncomputable def qAsg(r:Option (dF×Ev))(gg:VG):Option Ou:=r.bind fun p=>(gg p.1 p.2).map Ou.nx
@[simp] theorem zKH{gg:VG}:E8 fa gg δ=qAsg (fa δ) gg:=rfl
@[simp] theorem zL3{gg:VG}:qAsg (some (d,δ)) gg=(gg d δ).map Ou.nx:=rfl
noncomputable def qM(i:Nat)(m:List dF->List dF->Option (List dF))(r:Option (List dF))(δ:Ev)(fs:OC):Option Ou:=r.bind fun _=>(fs δ).bind fun p=>(TH p.2 i).bind fun ds=>(m ds p.1).map fun ds'=> .nx (p.2.set i (.ow (.lst ds')))
noncomputable def qMb(i:Nat)(m:List dF->List dF->Option (List dF))(r:Option (List dF×Ev)):Option Ou:=r.bind fun p=>(TH p.2 i).bind fun ds=>(m ds p.1).map fun ds'=> .nx (p.2.set i (.ow (.lst ds')))
noncomputable def qMc(i:Nat)(m:List dF->List dF->Option (List dF))(es:List dF)(δ:Ev)(r:Option (List dF)):Option Ou:=r.bind fun ds=>(m ds es).map fun ds'=> .nx (δ.set i (.ow (.lst ds')))
noncomputable def qMd(i:Nat)(δ:Ev)(r:Option (List dF)):Option Ou:=r.map fun ds'=> .nx (δ.set i (.ow (.lst ds')))
@[simp] theorem zKG{m:List dF->List dF->Option (List dF)}{fs:OC}:V7 i m fs δ=qM i m (TH δ i) δ fs:=rfl
@[simp] theorem qM_s{m:List dF->List dF->Option (List dF)}{fs:OC}:qM i m (some ds) δ fs=qMb i m (fs δ):=rfl
@[simp] theorem zN6{m:List dF->List dF->Option (List dF)}{es:List dF}:qMb i m (some (es,δ))=qMc i m es δ (TH δ i):=rfl
@[simp] theorem zN5{m:List dF->List dF->Option (List dF)}{es:List dF}:qMc i m es δ (some ds)=qMd i δ (m ds es):=rfl
@[simp] theorem zN4:qMd i δ (some ds)=some (.nx (δ.set i (.ow (.lst ds)))):=rfl
noncomputable def qOl:Option Sl->Option (List dF)
 |some (.ow (.lst ds))=>some ds
 |_=>none
@[simp] theorem zL8:TH δ i=qOl δ[i]? :=by unfold TH qOl;split<;>simp_all
@[simp] theorem zN2:qOl (some (.ow (.lst ds)))=some ds:=rfl
@[simp] theorem zLT:VQ ds [d]=if ds.length<16777216 then some (ds++[d]) else none:=rfl
noncomputable def qOd:Option Sl->Option (List a0×List dF)
 |some (.ow (.dct ks ds))=>some (ks,ds)
 |_=>none
@[simp] theorem zL9:X7 δ i=qOd δ[i]? :=by unfold X7 qOd;split<;>simp_all
@[simp] theorem zN3{ks:List a0}:qOd (some (.ow (.dct ks ds)))=some (ks,ds):=rfl
noncomputable def qi(r:Option (dF×Ev)):Option (List dF×Ev):=r.bind fun p=>(YZ p.1).map fun ds=>(ds,p.2)
@[simp] theorem zM4:VM fa δ=qi (fa δ):=rfl
@[simp] theorem qi_t:qi (some (.tup ds,δ))=some (ds,δ):=rfl
@[simp] theorem qi_l:qi (some (.lst ds,δ))=some (ds,δ):=rfl
noncomputable def qr1:Option (dF×Ev)->Option (List dF×Ev)
 |some (.int j,δ)=>if -4611686018427387904<=j/\j<4611686018427387904 then some (bD 0 j.toNat,δ) else none
 |_=>none
@[simp] theorem zNQ:iR1 fa δ=qr1 (fa δ):=by
 unfold iR1 qr1;cases fa δ with
 |none=>rfl
 |some p=>
  obtain⟨d,e⟩:=p;cases d<;>rfl
@[simp] theorem zMO{j:Int}:qr1 (some (.int j,δ))=if -4611686018427387904<=j/\j<4611686018427387904 then some (bD 0 j.toNat,δ) else none:=rfl
noncomputable def qe(r:Option (dF×Ev)):Option (List dF×Ev):=r.bind fun p=>(YZ p.1).map fun ds=>(YU 0 ds,p.2)
@[simp] theorem zJR:OV fa δ=qe (fa δ):=rfl
@[simp] theorem qe_t:qe (some (.tup ds,δ))=some (YU 0 ds,δ):=rfl
@[simp] theorem qe_l:qe (some (.lst ds,δ))=some (YU 0 ds,δ):=rfl
noncomputable def qz(r:Option (dF×Ev))(g:VF):Option (List dF×Ev):=r.bind fun p=>(g p.2).bind fun q=>(YZ p.1).bind fun ds=>(YZ q.1).map fun es=>(UP ds es,q.2)
noncomputable def qzb(x:dF)(r:Option (dF×Ev)):Option (List dF×Ev):=r.bind fun q=>(YZ x).bind fun ds=>(YZ q.1).map fun es=>(UP ds es,q.2)
@[simp] theorem zM3:AD fa fb δ=qz (fa δ) fb:=rfl
@[simp] theorem qz_s:qz (some (x,δ)) fb=qzb x (fb δ):=rfl
@[simp] theorem zMI:qzb x (some (y,δ))=(YZ x).bind fun ds=>(YZ y).map fun es=>(UP ds es,δ):=rfl
@[simp] theorem zKB:YZ (.tup ds)=some ds:=rfl
@[simp] theorem zKC:YZ (.lst ds)=some ds:=rfl
noncomputable def qF(r:Option (List dF×Ev))(gg:VG)(g:VS):Option Ou:=r.bind fun p=>YD gg g p.1 p.2
@[simp] theorem zDW{fi:VI}{gg:VG}:QV fi gg g δ=qF (fi δ) gg g:=rfl
@[simp] theorem qF_s{gg:VG}:qF (some (ds,δ)) gg g=YD gg g ds δ:=rfl
noncomputable def qK(ix:List Nat)(nl:Nat)(r:Option (List dF×Ev))(gg:VG)(tb:VB)(fe:VF):Option (dF×Ev):=r.bind fun p=>(aQ ix.length nl gg tb fe p.1 [] (cC ix p.2)).map fun q=>(.lst q.1,Z1 ix q.2 p.2)
noncomputable def qKb(ix:List Nat)(δ:Ev)(r:Option (List dF×Ev)):Option (dF×Ev):=r.map fun q=>(.lst q.1,Z1 ix q.2 δ)
@[simp] theorem zJU{ix:List Nat}{nl:Nat}{fi:VI}{gg:VG}:Z3 ix nl fi gg tb fa δ=qK ix nl (fi δ) gg tb fa:=rfl
@[simp] theorem qK_s{ix:List Nat}{nl:Nat}{gg:VG}:qK ix nl (some (ds,δ)) gg tb fa=qKb ix δ (aQ ix.length nl gg tb fa ds [] (cC ix δ)):=rfl
@[simp] theorem zN7{ix:List Nat}:qKb ix δ (some (ds,δ1))=some (.lst ds,Z1 ix δ1 δ):=rfl
variable{as:List AV}{fs:HK}{mF:List Nat}{F:bF}
noncomputable def qa(r:Option (dF×Ev))(fs:HK):Option (List AV×Ev):=r.bind fun p=>(fs p.2).map fun q=>(.d p.1::q.1,q.2)
noncomputable def qab(x:AV)(r:Option (List AV×Ev)):Option (List AV×Ev):=r.map fun q=>(x::q.1,q.2)
@[simp] theorem zGH:cG δ=some ([],δ):=rfl
@[simp] theorem JJ:aE fa fs δ=qa (fa δ) fs:=rfl
@[simp] theorem BP:qa (some (x,δ)) fs=qab (.d x) (fs δ):=rfl
@[simp] theorem BQ{a:AV}:qab a (some (as,δ))=some (a::as,δ):=rfl
noncomputable def qao(j:Nat)(r:Option dF)(δ:Ev)(fs:HK):Option (List AV×Ev):=r.bind fun _=>qab (.o j) (fs δ)
@[simp] theorem aO_e:aO j fs δ=qao j (slot δ j) δ fs:=rfl
@[simp] theorem zHF:qao j (some d) δ fs=qab (.o j) (fs δ):=rfl
noncomputable def qsl:Option Sl->Option dF
 |some (.va d)=>some d
 |some (.ow d)=>some d
 |_=>none
@[simp] theorem zKA:slot δ j=qsl δ[j]? :=by unfold slot qsl;split<;>simp_all
@[simp] theorem zMM:qsl (some (.va d))=some d:=rfl
@[simp] theorem zMN:qsl (some (.ow d))=some d:=rfl
@[simp] theorem zK4:XS δ []=some []:=rfl
@[simp] theorem zK5:XS δ (.d d::as)=(XS δ as).map fun ds=>d::ds:=rfl
@[simp] theorem zK3:XS δ (.o j::as)=(slot δ j).bind fun d=>(XS δ as).map fun ds=>d::ds:=rfl
noncomputable def zCL(n:Nat)(mF:List Nat)(F:bF)(r:Option (List AV×Ev)):Option (dF×Ev):=r.bind fun p=>(XS p.2 p.1).bind fun ds=>if ds.length=n/\WE mF p.1 p.2=true then(F ds).bind fun q=>if XC mF p.1 q.1 q.2=true then some (q.1,W5 p.1 mF q.2 p.2) else none else none
noncomputable def qCb(n:Nat)(mF:List Nat)(F:bF)(as:List AV)(δ:Ev)(r:Option (List dF)):Option (dF×Ev):=r.bind fun ds=>if ds.length=n/\WE mF as δ=true then(F ds).bind fun q=>if XC mF as q.1 q.2=true then some (q.1,W5 as mF q.2 δ) else none else none
noncomputable def qCc(mF:List Nat)(as:List AV)(δ:Ev)(r:Option (dF×List dF)):Option (dF×Ev):=r.bind fun q=>if XC mF as q.1 q.2=true then some (q.1,W5 as mF q.2 δ) else none
@[simp] theorem QG:cV n mF F fs δ=zCL n mF F (fs δ):=rfl
@[simp] theorem zAY:zCL n mF F (some (as,δ))=qCb n mF F as δ (XS δ as):=rfl
@[simp] theorem zHH:qCb n mF F as δ (some ds)=if ds.length=n/\WE mF as δ=true then qCc mF as δ (F ds) else none:=rfl
@[simp] theorem zHG{os:List dF}:qCc mF as δ (some (d,os))=if XC mF as d os=true then some (d,W5 as mF os δ) else none:=rfl
@[simp] theorem zJQ:GC δ as i=(match as[i]? with
 |some (.o j)=>match δ[j]? with
  |some (.ow _)=>true
  |_=>false
 |_=>false):=rfl
@[simp] theorem zLX:V6 []=[]:=rfl
@[simp] theorem zLY:V6 (.d d::as)=V6 as:=rfl
@[simp] theorem zLW:V6 (.o j::as)=j::V6 as:=rfl
@[simp] theorem zIU:WE mF as δ=(mF.all (GC δ as) && decide (V6 as).Nodup):=rfl
@[simp] theorem zK7:XQ mF [] i=true:=rfl
@[simp] theorem zK8:XQ mF (.d d::as) i=XQ mF as (i+1):=rfl
@[simp] theorem zK6:XQ mF (.o j::as) i=(decide (i∈mF) && XQ mF as (i+1)):=rfl
@[simp] theorem zIX{os:List dF}:XC mF as d os=((XQ mF as 0 || d.hard) && (XQ mF as 0 || os.all VN) && decide (mF.length=os.length)):=rfl
@[simp] theorem zL6{os:List dF}:W5 as [] os δ=δ:=by cases os<;>rfl
@[simp] theorem zL7{os:List dF}{is:List Nat}:W5 as (i::is) (d::os) δ=(match as[i]? with
  |some (.o j)=>W5 as is os (δ.set j (.ow d))
  |_=>W5 as is os δ):=rfl
@[simp] theorem zNG:A8 δ=some (none,δ):=rfl
noncomputable def qpS:Option (dF×Ev)->Option (Option Int×Ev)
 |some (.int i,δ)=>some (some i,δ)
 |_=>none
@[simp] theorem zNF:EX fa δ=qpS (fa δ):=by
 unfold EX qpS;cases fa δ with
 |none=>rfl
 |some p=>
  obtain⟨d,e⟩:=p;cases d<;>rfl
@[simp] theorem zMP{i:Int}:qpS (some (.int i,δ))=some (some i,δ):=rfl
noncomputable def qSl(r:Option (dF×Ev))(fl fh:VP):Option (dF×Ev):=r.bind fun p=>(fl p.2).bind fun l=>(fh l.2).bind fun u=>(oSl p.1 l.1 u.1).map fun c=>(c,u.2)
noncomputable def qSlb(x:dF)(r:Option (Option Int×Ev))(fh:VP):Option (dF×Ev):=r.bind fun l=>(fh l.2).bind fun u=>(oSl x l.1 u.1).map fun c=>(c,u.2)
noncomputable def qSlc(x:dF)(l:Option Int)(r:Option (Option Int×Ev)):Option (dF×Ev):=r.bind fun u=>q0 (oSl x l u.1) u.2
@[simp] theorem zNT{fl fh:VP}:EH fa fl fh δ=qSl (fa δ) fl fh:=rfl
@[simp] theorem zMX{fl fh:VP}:qSl (some (x,δ)) fl fh=qSlb x (fl δ) fh:=rfl
@[simp] theorem zKQ{l:Option Int}{fh:VP}:qSlb x (some (l,δ)) fh=qSlc x l (fh δ):=rfl
@[simp] theorem zKP{l u:Option Int}:qSlc x l (some (u,δ))=q0 (oSl x l u) δ:=rfl
@[simp] theorem zNK{l u:Option Int}:oSl (.tup ds) l u=some (.tup (WZ ds l u)):=rfl
@[simp] theorem zNL{l u:Option Int}:oSl (.lst ds) l u=some (.lst (WZ ds l u)):=rfl
noncomputable def qSt(i j:Nat):Option (dF×Ev)->Option Ou
 |some (.tup (d::ds),δ)=>some (.nx ((δ.set i (.va d)).set j (.va (.lst ds))))
 |_=>none
@[simp] theorem zJ2:NJ i j fa δ=qSt i j (fa δ):=by
 unfold NJ qSt;cases fa δ with
 |none=>rfl
 |some p=>
  obtain⟨d,e⟩:=p;cases d with
  |tup ds=>cases ds<;>rfl
  |_=>rfl
@[simp] theorem zMW:qSt i j (some (.tup (d::ds),δ))=some (.nx ((δ.set i (.va d)).set j (.va (.lst ds)))):=rfl
noncomputable def qDg(i:Nat)(r:Option (List a0×List dF))(δ:Ev)(fk fx:VF):Option (dF×Ev):=r.bind fun _=>(fk δ).bind fun p=>(fx p.2).bind fun q=>(XE p.1).bind fun k=>(X7 q.2 i).map fun z=>((bQ z.1 z.2 k).getD q.1,q.2)
noncomputable def qDgb(i:Nat)(r:Option (dF×Ev))(fx:VF):Option (dF×Ev):=r.bind fun p=>(fx p.2).bind fun q=>(XE p.1).bind fun k=>(X7 q.2 i).map fun z=>((bQ z.1 z.2 k).getD q.1,q.2)
noncomputable def qDgc(i:Nat)(x:dF)(r:Option (dF×Ev)):Option (dF×Ev):=r.bind fun q=>(XE x).bind fun k=>(X7 q.2 i).map fun z=>((bQ z.1 z.2 k).getD q.1,q.2)
@[simp] theorem zIO:LW i fa fb δ=qDg i (X7 δ i) δ fa fb:=rfl
@[simp] theorem zNA{z:List a0×List dF}:qDg i (some z) δ fa fb=qDgb i (fa δ) fb:=rfl
@[simp] theorem zL2:qDgb i (some (x,δ)) fb=qDgc i x (fb δ):=rfl
@[simp] theorem zL1:qDgc i x (some (y,δ))=(XE x).bind fun k=>(X7 δ i).map fun z=>((bQ z.1 z.2 k).getD y,δ):=rfl
noncomputable def qDp(i:Nat)(r:Option (dF×Ev))(fk:VF):Option Ou:=r.bind fun p=>(X7 p.2 i).bind fun _=>(fk p.2).bind fun q=>(XE q.1).bind fun k=>(X7 q.2 i).bind fun z=>if z.1.length<16777216/\z.1.Nodup then some (.nx (q.2.set i (.ow (let r:=YY z.1 z.2 k p.1;.dct r.1 r.2)))) else none
noncomputable def qDpb(i:Nat)(x:dF)(r:Option (List a0×List dF))(δ:Ev)(fk:VF):Option Ou:=r.bind fun _=>(fk δ).bind fun q=>(XE q.1).bind fun k=>(X7 q.2 i).bind fun z=>if z.1.length<16777216/\z.1.Nodup then some (.nx (q.2.set i (.ow (let r:=YY z.1 z.2 k x;.dct r.1 r.2)))) else none
noncomputable def qDpc(i:Nat)(x:dF)(r:Option (dF×Ev)):Option Ou:=r.bind fun q=>(XE q.1).bind fun k=>(X7 q.2 i).bind fun z=>if z.1.length<16777216/\z.1.Nodup then some (.nx (q.2.set i (.ow (.dct (YY z.1 z.2 k x).1 (YY z.1 z.2 k x).2)))) else none
@[simp] theorem zJ6{fk fv:VF}:KP i fk fv δ=qDp i (fv δ) fk:=rfl
@[simp] theorem zN9{fk:VF}:qDp i (some (x,δ)) fk=qDpb i x (X7 δ i) δ fk:=rfl
@[simp] theorem zL0{z:List a0×List dF}{fk:VF}:qDpb i x (some z) δ fk=qDpc i x (fk δ):=rfl
@[simp] theorem zKZ:qDpc i x (some (y,δ))=(XE y).bind fun k=>(X7 δ i).bind fun z=>if z.1.length<16777216/\z.1.Nodup then some (.nx (δ.set i (.ow (.dct (YY z.1 z.2 k x).1 (YY z.1 z.2 k x).2)))) else none:=rfl
@[simp] theorem zLV{i:Int}:XE (.int i)=some (.inl i):=rfl
@[simp] theorem zLU{s:Str}:XE (.str s)=some (.inr s):=rfl
noncomputable def qRun(ml:List Nat):Option Ou->Option (dF×List dF)
 |some (.rt d δ)=>(VW ml δ).map fun os=>(d,os)
 |some (.nx δ)=>(VW ml δ).map fun os=>(.non,os)
 |_=>none
theorem cH{ml:List Nat}:aD n ml g ds=qRun ml (g (cF ml n ds)):=by
 unfold aD qRun;cases g (cF ml n ds) with
 |none=>rfl
 |some o=>cases o<;>rfl
@[simp] theorem zKS{ml:List Nat}:qRun ml (some (.rt d δ))=(VW ml δ).map fun os=>(d,os):=rfl
@[simp] theorem zKT{ml:List Nat}:qRun ml (some (.nx δ))=(VW ml δ).map fun os=>(.non,os):=rfl
noncomputable def qow:Option Sl->Option dF
 |some (.ow d)=>some d
 |_=>none
@[simp] theorem zLA:VW [] δ=some []:=rfl
@[simp] theorem zLB{ml:List Nat}:VW (i::ml) δ=(qow δ[i]?).bind fun d=>(VW ml δ).map fun os=>d::os:=by
 unfold VW;rw[Ra];cases h:(δ[i]? :Option Sl) with
 |none=>rfl
 | some s => cases s with
  |no=>rfl
  |va d=>rfl
  |ow d=>
   show(Option.bind _ fun os=>some (d::os))=Option.map (fun os=>d::os) _;cases (List.mapM _ ml:Option (List dF))<;>rfl
@[simp] theorem zMQ:qow (some (.ow d))=some d:=rfl
end
section
variable{i j:Int}{x y:Str}{ds es:List dF}
@[simp] theorem oI_e{C:Int->Int->Bool}{g:Int->Int->dF}:oI C g (.int i) (.int j)=if C i j=true then some (g i j) else none:=rfl
@[simp] theorem zJH:ZR (.int i) (.int j)=some (.int (i+j)):=rfl
@[simp] theorem zJF:ZR (.tup ds) (.tup es)=if ds.length+es.length<=16777216 then some (.tup (ds++es)) else none:=rfl
@[simp] theorem zJG:ZR (.lst ds) (.lst es)=if ds.length+es.length<=16777216 then some (.lst (ds++es)) else none:=rfl
@[simp] theorem zNM{g:Int->Int->Int}:o2I g (.int i) (.int j)=some (.int (g i j)):=rfl
@[simp] theorem zLF:Y8 (.tup ds)=some (.int ds.length):=rfl
@[simp] theorem zLG:Y8 (.lst ds)=some (.int ds.length):=rfl
@[simp] theorem zJM:KB (.tup ds)=some (.lst ds):=rfl
@[simp] theorem zJN:KB (.lst ds)=some (.lst ds):=rfl
@[simp] theorem zI0:VR (.tup ds)=some (.tup ds):=rfl
@[simp] theorem zI1:VR (.lst ds)=some (.tup ds):=rfl
@[simp] theorem zLH:cI (.tup ds) (.int i)=V4 ds i:=rfl
@[simp] theorem zLI:cI (.lst ds) (.int i)=V4 ds i:=rfl
@[simp] theorem zJP{ks:List a0}:cI (.dct ks ds) (.int i)=bQ ks ds (.inl i):=rfl
@[simp] theorem zJO{ks:List a0}:cI (.dct ks ds) (.str x)=bQ ks ds (.inr x):=rfl
@[simp] theorem zNI:NB (.int i)=true:=rfl
@[simp] theorem zNH:NB .non=true:=rfl
@[simp] theorem zNJ{b:Bool}:NB (.bl b)=true:=rfl
@[simp] theorem zM2:RT "int" "bool"=some false:=by decide+kernel
@[simp] theorem zM1:RT "int" "int"=some true:=by decide+kernel
@[simp] theorem zM0:RT "tuple" "tuple"=some true:=by decide+kernel
@[simp] theorem zLZ:RT "str" "str"=some true:=by decide+kernel
@[simp] theorem zLM{n:String}:TC (.int i) (.ty n)=(RT "int" n).map dF.bl:=rfl
@[simp] theorem zLJ{n:String}:TC (.tup ds) (.ty n)=(RT "tuple" n).map dF.bl:=rfl
@[simp] theorem zLL{n:String}:TC (.lst ds) (.ty n)=(RT "list" n).map dF.bl:=rfl
@[simp] theorem zLK{n:String}:TC (.str x) (.ty n)=(RT "str" n).map dF.bl:=rfl
@[simp] theorem zLP:IA .non .non=some (.bl true):=rfl
@[simp] theorem zLQ:IA (.int i) .non=some (.bl false):=rfl
@[simp] theorem zLO:IA (.str x) .non=some (.bl false):=rfl
@[simp] theorem zLN:IA (.tup ds) .non=some (.bl false):=rfl
@[simp] theorem zJK:PF .non .non=some (.bl false):=rfl
@[simp] theorem zJL:PF (.int i) .non=some (.bl true):=rfl
@[simp] theorem zJJ:PF (.str x) .non=some (.bl true):=rfl
@[simp] theorem zJI:PF (.tup ds) .non=some (.bl true):=rfl
end
section
variable{d x:dF}{δ δ1:Ev}{r acc:List dF}{gg:VG}{tb:VB}{fe:VF}{n nl:Nat}{g:VS}
noncomputable def qk1(n nl:Nat)(gg:VG)(tb:VB)(fe:VF)(r acc:List dF)(o:Option Ev):Option (List dF×Ev):=o.bind fun δ1=>(tb δ1).bind fun p=>if p.1=true then(fe p.2).bind fun q=>if acc.length<16777216 then aQ n nl gg tb fe r (acc++[q.1]) (q.2.take n) else none else aQ n nl gg tb fe r acc (p.2.take n)
noncomputable def qk2(n nl:Nat)(gg:VG)(tb:VB)(fe:VF)(r acc:List dF)(o:Option (Bool×Ev)):Option (List dF×Ev):=o.bind fun p=>if p.1=true then(fe p.2).bind fun q=>if acc.length<16777216 then aQ n nl gg tb fe r (acc++[q.1]) (q.2.take n) else none else aQ n nl gg tb fe r acc (p.2.take n)
noncomputable def qk3(n nl:Nat)(gg:VG)(tb:VB)(fe:VF)(r acc:List dF)(o:Option (dF×Ev)):Option (List dF×Ev):=o.bind fun q=>if acc.length<16777216 then aQ n nl gg tb fe r (acc++[q.1]) (q.2.take n) else none
@[simp] theorem zJX:aQ n nl gg tb fe [] acc δ=some (acc,δ):=rfl
@[simp] theorem SR:aQ n nl gg tb fe (d::r) acc δ=qk1 n nl gg tb fe r acc (gg d (δ++Q3 nl)):=rfl
@[simp] theorem KL:qk1 n nl gg tb fe r acc (some δ)=qk2 n nl gg tb fe r acc (tb δ):=rfl
@[simp] theorem BR:qk2 n nl gg tb fe r acc (some (true,δ))=qk3 n nl gg tb fe r acc (fe δ):=rfl
@[simp] theorem zCJ:qk2 n nl gg tb fe r acc (some (false,δ))=aQ n nl gg tb fe r acc (δ.take n):=rfl
@[simp] theorem BS:qk3 n nl gg tb fe r acc (some (x,δ))=if acc.length<16777216 then aQ n nl gg tb fe r (acc++[x]) (δ.take n) else none:=rfl
noncomputable def qf1(gg:VG)(g:VS)(r:List dF)(o:Option Ev):Option Ou:=o.bind fun δ1=>(g δ1).bind (again (YD gg g r))
def qf2(gg:VG)(g:VS)(r:List dF)(o:Option Ou):Option Ou:=o.bind (again (YD gg g r))
@[simp] theorem zM5:YD gg g [] δ=some (.nx δ):=rfl
@[simp] theorem WH:YD gg g (d::r) δ=qf1 gg g r (gg d δ):=rfl
@[simp] theorem Q5:qf1 gg g r (some δ)=qf2 gg g r (g δ):=rfl
@[simp] theorem Q6:qf2 gg g r (some (.nx δ))=YD gg g r δ:=rfl
@[simp] theorem zMS:qf2 gg g r (some (.ct δ))=YD gg g r δ:=rfl
@[simp] theorem zMT:qf2 gg g r (some (.bk δ))=some (.nx δ):=rfl
@[simp] theorem zMR:qf2 gg g r (some (.rt d δ))=some (.rt d δ):=rfl
@[simp] theorem zK1{ss:Ev}:Z1 [] ss δ=δ:=by cases ss<;>rfl
@[simp] theorem zK0{i:Nat}{is:List Nat}{ss:Ev}:Z1 (i::is) (.ow d::ss) δ=Z1 is ss (δ.set i (.ow d)):=rfl
@[simp] theorem zJZ{i:Nat}{is:List Nat}{ss:Ev}:Z1 (i::is) (.va d::ss) δ=Z1 is ss δ:=rfl
@[simp] theorem zJY{i:Nat}{is:List Nat}{ss:Ev}:Z1 (i::is) (.no::ss) δ=Z1 is ss δ:=rfl
end
@[simp] theorem AX:Q3 1=[.no]:=rfl
@[simp] theorem AY:Q3 2=[.no,.no]:=rfl
@[simp] theorem zNN:Q3 3=[.no,.no,.no]:=rfl
@[simp] theorem zKM{i:Int}:bD i 0=[]:=rfl
@[simp] theorem zKL:bD 0 1=[.int 0]:=rfl
@[simp] theorem zKK:bD 0 2=[.int 0,.int 1]:=rfl
@[simp] theorem zKJ:bD 0 3=[.int 0,.int 1,.int 2]:=rfl
@[simp] theorem zKI:bD 0 4=[.int 0,.int 1,.int 2,.int 3]:=rfl
theorem XT{α:Type}{xs:List α}{i:Int}(h0:0<=i)(h1:i<xs.length):V4 xs i=xs[i.toNat]? :=by
 unfold V4 ixN;rw[if_pos h0,if_pos h1];rfl
theorem HM{α:Type}{xs:List α}{i:Int}(h0:0<=i)(h1:i<xs.length): ∃x∈xs,V4 xs i=some x:=by
 rw[XT h0 h1];have h:i.toNat<xs.length:=by lia
 exact⟨xs[i.toNat],Hh _,Cg h⟩
section
variable{F:bF}{fa fb fc:VF}{δ:Ev}{x y z d o:dF}{j:Nat}
noncomputable def E3(δ:Ev):Option (dF×List dF)->Option (dF×Ev)
 |some (d,[])=>some (d,δ)
 |_=>none
@[simp] theorem zMU:E3 δ (some (d,[]))=some (d,δ):=rfl
theorem HN{n:Nat}{ds:List dF}{as:List AV}(h:XS δ as=some ds)(hn:ds.length=n)(hj:V6 as=[])(ha:XQ [] as 0=true):qCb n [] F as δ (some ds)=E3 δ (F ds):=by
 have hc:WE [] as δ=true:=by simp[hj]
 rw[zHH,if_pos ⟨hn,hc⟩];cases F ds with
 |none=>rfl
 |some q=>
  obtain⟨r,os⟩:=q;rw[zHG];cases os with
  |nil=>simp[ha,E3]
  |cons o os=>simp[E3]
noncomputable def qx1(F:bF)(r:Option (dF×Ev)):Option (dF×Ev):=r.bind fun p=>E3 p.2 (F [p.1])
@[simp] theorem zMJ:qx1 F (some (x,δ))=E3 δ (F [x]):=rfl
@[simp high] theorem call1:cV 1 [] F (aE fa cG) δ=qx1 F (fa δ):=by
 rw[QG,JJ];cases fa δ with
 |none=>rfl
 |some p=>exact HN (as:=[.d p.1]) rfl rfl rfl rfl
noncomputable def qx2(F:bF)(r:Option (dF×Ev))(fb:VF):Option (dF×Ev):=r.bind fun p=>(fb p.2).bind fun q=>E3 q.2 (F [p.1,q.1])
noncomputable def qx2b(F:bF)(x:dF)(r:Option (dF×Ev)):Option (dF×Ev):=r.bind fun q=>E3 q.2 (F [x,q.1])
@[simp] theorem zHC:qx2 F (some (x,δ)) fb=qx2b F x (fb δ):=rfl
@[simp] theorem zKO:qx2b F x (some (y,δ))=E3 δ (F [x,y]):=rfl
@[simp high] theorem call2:cV 2 [] F (aE fa (aE fb cG)) δ=qx2 F (fa δ) fb:=by
 rw[QG,JJ];cases fa δ with
 |none=>rfl
 |some p=>
  rw[BP,JJ,zHC];cases fb p.2 with
  |none=>rfl
  |some q=>exact HN (as:=[.d p.1,.d q.1]) rfl rfl rfl rfl
noncomputable def qx3(F:bF)(r:Option (dF×Ev))(fb fc:VF):Option (dF×Ev):=r.bind fun p=>(fb p.2).bind fun q=>(fc q.2).bind fun s=>E3 s.2 (F [p.1,q.1,s.1])
noncomputable def qx3b(F:bF)(x:dF)(r:Option (dF×Ev))(fc:VF):Option (dF×Ev):=r.bind fun q=>(fc q.2).bind fun s=>E3 s.2 (F [x,q.1,s.1])
noncomputable def qx3c(F:bF)(x y:dF)(r:Option (dF×Ev)):Option (dF×Ev):=r.bind fun s=>E3 s.2 (F [x,y,s.1])
@[simp] theorem zHB:qx3 F (some (x,δ)) fb fc=qx3b F x (fb δ) fc:=rfl
@[simp] theorem zE1:qx3b F x (some (y,δ)) fc=qx3c F x y (fc δ):=rfl
@[simp] theorem zKN:qx3c F x y (some (z,δ))=E3 δ (F [x,y,z]):=rfl
@[simp high] theorem call3:cV 3 [] F (aE fa (aE fb (aE fc cG))) δ=qx3 F (fa δ) fb fc:=by
 rw[QG,JJ];cases fa δ with
 |none=>rfl
 |some p=>
  rw[BP,JJ,zHB];cases fb p.2 with
  |none=>rfl
  |some q=>
   rw[BP,JJ,zE1];cases fc q.2 with
   |none=>rfl
   |some s=>exact HN (as:=[.d p.1,.d q.1,.d s.1]) rfl rfl rfl rfl
noncomputable def qw3(j:Nat)(δ:Ev):Option (dF×List dF)->Option (dF×Ev)
 |some (r,[o])=>some (r,δ.set j (.ow o))
 |_=>none
noncomputable def qw2(F:bF)(j:Nat)(x y:dF)(δ:Ev):Option Sl->Option (dF×Ev)
 |some (.ow d)=>qw3 j δ (F [x,d,y])
 |_=>none
noncomputable def qwb(F:bF)(j:Nat)(x:dF)(r:Option (dF×Ev)):Option (dF×Ev):=r.bind fun q=>qw2 F j x q.1 q.2 q.2[j]?
noncomputable def qwa(F:bF)(j:Nat)(x:dF)(δ:Ev)(fb:VF)(s:Option dF):Option (dF×Ev):=s.bind fun _=>qwb F j x (fb δ)
noncomputable def qw(F:bF)(j:Nat)(r:Option (dF×Ev))(fb:VF):Option (dF×Ev):=r.bind fun p=>qwa F j p.1 p.2 fb (slot p.2 j)
@[simp] theorem zMK:qw3 j δ (some (x,[o]))=some (x,δ.set j (.ow o)):=rfl
@[simp] theorem zML:qw2 F j x y δ (some (.ow d))=qw3 j δ (F [x,d,y]):=rfl
@[simp] theorem zHD:qwb F j x (some (y,δ))=qw2 F j x y δ δ[j]? :=rfl
@[simp] theorem zHE:qwa F j x δ fb (some d)=qwb F j x (fb δ):=rfl
@[simp] theorem qw_s:qw F j (some (x,δ)) fb=qwa F j x δ fb (slot δ j):=rfl
@[simp high] theorem callO:cV 3 [1] F (aE fa (aO j (aE fb cG))) δ=qw F j (fa δ) fb:=by
 rw[QG,JJ];cases fa δ with
 |none=>rfl
 |some p=>
  obtain⟨x,δ1⟩:=p;rw[BP,aO_e,qw_s];cases h:slot δ1 j with
  |none=>rfl
  |some d0=>
   rw[zHF,JJ,zHE];cases fb δ1 with
   |none=>rfl
   |some q=>
    obtain⟨y,δ2⟩:=q;rw[zHD,BP,zGH,BQ,BQ,BQ,zAY];cases h2:δ2[j]? with
    |none=>simp[h2,qsl,qCb,qw2]
    |some s=>
     cases s with
     |no=>simp[h2,qsl,qCb,qw2]
     |va d=>simp[h2,qw2]
     |ow d=>
      simp[h2];cases F [x,d,y] with
      |none=>rfl
      |some r=>
       obtain⟨v,os⟩:=r;cases os with
       |nil=>simp[qw3]
       |cons o os=>
        cases os with
        |nil=>simp
        |cons o2 os=>simp[qw3]
end
def U7:dF:= .int 999
def FW:dF:= .tup [.str "plus",.str "minus",.str "times",.str "least",.str "most",.str "less",.str "over"]
def U6:dF:= .int 64
def U5:dF:= .int 40
def WD:dF:= .int 63
def SO:dF:= .tup [.str "row",.str "row"]
def UK:dF:= .dct [.inr "number",.inr "pick",.inr "load",.inr "take",.inr "store",.inr "put"] [.tup [.str "word"],.tup [.str "row",.str "row",.str "row"],.tup [.str "place"],.tup [.str "place",.str "row",.str "row"],.tup [.str "place",.str "row"],.tup [.str "place",.str "row",.str "row"]]
def UT:dF:= .tup [.str "load",.str "take"]
def Z0:dF:= .tup [.str "store",.str "put"]
def T5:VS:=
   (cL (XA (FT (fB (f2 TC (fV 0) (fC (.ty "bool")))) (RG (fB (f2 TC (fV 0) (fC (.ty "int"))))))
   (bX (fC (.bl false)))
   aF)
   (bX (f3 oLe oLe (fV 1) (fV 0) (fV 2))))
def bA:bF:=aD 3 [] T5
def OS:VS:=
   (cL (XA (fB (f2 (bI false) (fV 0) (fC FW)))
   (bX (fC SO))
   aF)
   (bX (f2 zCR (fC UK) (fV 0))))
def bB:bF:=aD 1 [] OS
def WJ:VS:=
   (bX (f2 (bI true) (f2 cI (fV 0) (fC (.int 0))) (fC Z0)))
def ZF:bF:=aD 1 [] WJ
def WL:VS:=
   (bX (fIf (FT (fB (f2 (bI false) (f2 cI (fV 0) (fC (.int 0))) (fC UT))) (fB (f2 (bI false) (f2 cI (fV 0) (fC (.int 0))) (fC Z0)))) (f2 cI (fV 0) (fC (.int 1))) (fC .non)))
def aN:bF:=aD 1 [] WL
def OR:VS:=
   (cL (NJ 1 2 (fV 0))
   (bX (Z3 [] 2 (AD (cV 1 [] bB (aE (fV 1) cG)) (fV 2)) (LC 2 (bS (gN 0) (bS (gN 1) X5))) (fB (f2 XO (fV 0) (fC (.str "row")))) (fV 1))))
def YJ:bF:=aD 3 [] OR
def UA:VS:=
   (bX (VA (cV 3 [] bA (aE (fV 0) (aE (fC (.int 0)) (aE (f2 N7 (f1 Y8 (fV 1)) (fC (.int 1))) cG)))) (f2 cI (fV 1) (fV 0))))
def YI:bF:=aD 2 [] UA
def OP:VS:=
   (cL (XA (fB (f2 XO (fV 0) (fC (.str "word"))))
   (bX (cV 3 [] bA (aE (fV 1) (aE (fC (.int 0)) (aE (fC U7) cG)))))
   aF)
   (cL (XA (fB (f2 XO (fV 0) (fC (.str "place"))))
   (bX (cV 3 [] bA (aE (fV 1) (aE (fC (.int 0)) (aE (fC WD) cG)))))
   aF)
   (bX (cV 2 [] YI (aE (fV 1) (aE (fV 2) cG))))))
def XB:bF:=aD 3 [] OP
def OQ:VS:=
   (cL (XA (FT (RG (fB (f2 TC (fV 0) (fC (.ty "tuple"))))) (fB (f2 XO (f1 Y8 (fV 0)) (fC (.int 0)))))
   (bX (fC (.bl false)))
   aF)
   (cL (NJ 2 3 (fV 0))
   (cL (aG 4 (xV (fIf (fB (f2 TC (fV 2) (fC (.ty "str")))) (cV 1 [] bB (aE (fV 2) cG)) (fC .non))))
   (cL (XA (FT (fB (f2 IA (fV 4) (fC .non))) (fB (f2 OD (f1 Y8 (fV 4)) (f1 Y8 (fV 3)))))
   (bX (fC (.bl false)))
   aF)
   (bX (f1 oAll (Z3 [1] 2 (AD (fV 4) (fV 3)) (LC 2 (bS (gN 1) (bS (gN 2) X5))) V5 (cV 3 [] XB (aE (fV 1) (aE (fV 2) (aE (fV 0) cG)))))))))))
def WW:bF:=aD 5 [] OQ
def YS:VS:=
   (cL (XA (RG (fB (cV 2 [] WW (aE (fV 4) (aO 3 cG)))))
   (bX (fC (.bl false)))
   aF)
   (V7 3 VQ (c9 (cV 1 [] ZF (aE (fV 4) cG)) cD)))
def T4:VS:=
   (cL (XA (FT (RG (fB (f2 TC (fV 0) (fC (.ty "tuple"))))) (fB (f2 OD (f1 Y8 (fV 0)) (fC (.int 2)))))
   (bX (fC (.bl false)))
   aF)
   (cL (E8 (fV 0) (LC 2 (bS (gN 1) (bS (gN 2) X5))))
   (cL (XA (RG (fB (cV 3 [] bA (aE (fV 1) (aE (fC (.int 0)) (aE (fC U6) cG))))))
   (bX (fC (.bl false)))
   aF)
   (cL (XA (FT (RG (fB (f2 TC (fV 2) (fC (.ty "tuple"))))) (fB (f2 oGt (f1 Y8 (fV 2)) (fC U5))))
   (bX (fC (.bl false)))
   aF)
   (cL (aG 3 (xO (Y7 cD)))
   (cL (QV (VM (fV 2)) (gN 4)
   YS)
   (bX (fC (.bl true)))))))))
def ZM:bF:=aD 5 [] T4
def OT:VS:=
   (cL (XA (RG (fB (cV 1 [] ZM (aE (fV 0) cG))))
   (fun _=>none)
   aF)
   (cL (aG 2 (xV (f2 cI (fV 0) (fC (.int 1)))))
   (cL (XA (RG (fB (cV 3 [] bA (aE (fV 1) (aE (fC (.int 0)) (aE (f2 N7 (f1 Y8 (fV 2)) (fC (.int 1))) cG))))))
   (fun _=>none)
   aF)
   (bX (f2 cI (fV 2) (fV 1))))))
def YA:bF:=aD 3 [] OT
def OU:VS:=
   (bX (f2 (bI false) (f2 cI (fV 0) (fC (.int 0))) (fC Z0)))
def ZD:bF:=aD 1 [] OU
def YN:VS:=
   (bX (VA (f2 XO (f2 cI (fV 0) (fC (.int 0))) (fC (.str "number"))) (f2 OD (f2 cI (fV 0) (fC (.int 1))) (fC (.int 0)))))
def aR:bF:=aD 1 [] YN
def VC:VS:=
   (cL (E8 (fV 0) (LC 2 (bS (gN 2) (bS (gN 3) X5))))
   (cL (aG 4 (xV (f2 cI (fV 3) (fV 1))))
   (cL (XA (fB (f2 XO (f2 cI (fV 4) (fC (.int 0))) (fC (.str "over"))))
   (bX (fNot (cV 1 [] aR (aE (f2 cI (fV 3) (f2 cI (fV 4) (fC (.int 2)))) cG))))
   aF)
   (cL (aG 5 (xV (cV 1 [] aN (aE (fV 4) cG))))
   (bX (VA (f2 PF (fV 5) (fC .non)) (f2 oGe (fV 5) (fV 2))))))))
def aJ:bF:=aD 6 [] VC
def ZO:VS:=
   (bX (VA (f2 XO (cV 1 [] aN (aE (fV 0) cG)) (cV 1 [] aN (aE (fV 1) cG))) (fOr (cV 1 [] ZD (aE (fV 0) cG)) (cV 1 [] ZD (aE (fV 1) cG)))))
def bR:bF:=aD 2 [] ZO
def VJ:VS:=
   (cL (aG 3 (xV (f2 cI (fV 0) (fC (.int 1)))))
   (cL (XA (FT (fB (f2 (bI false) (fV 1) (cV 1 [] YJ (aE (f2 cI (fV 3) (fV 2)) cG)))) (fB (cV 2 [] bR (aE (f2 cI (fV 3) (fV 1)) (aE (f2 cI (fV 3) (fV 2)) cG)))))
   (bX (fC (.bl true)))
   aF)
   (cL (KS 4 5 (xV (cV 2 [] aJ (aE (fV 0) (aE (fV 1) cG)))) (xV (cV 2 [] aJ (aE (fV 0) (aE (fV 2) cG)))))
   (cL (XA (SM (fB (fV 4)) (fB (fV 5)))
   (bX (fC (.bl true)))
   aF)
   (bX (fOr (VA (fV 4) (cV 1 [] ZD (aE (f2 cI (fV 3) (fV 2)) cG))) (VA (fV 5) (cV 1 [] ZD (aE (f2 cI (fV 3) (fV 1)) cG)))))))))
def bW:bF:=aD 6 [] VJ
def WK:VS:=
   (cL (aG 1 (xV (f1 Y8 (f2 cI (fV 0) (fC (.int 1))))))
   (cL (aG 2 (xV (RP [1] 2 (iR1 (fV 1)) (gN 1) V5 (iR2 (f2 ZR (fV 1) (fC (.int 1))) (fV 0)) (gN 2) V5 (Z4 (c9 (fV 1) (c9 (fV 2) cD))))))
   (bX (Z3 [0] 2 (VM (fV 2)) (LC 2 (bS (gN 1) (bS (gN 2) X5))) (fB (cV 3 [] bW (aE (fV 0) (aE (fV 1) (aE (fV 2) cG))))) (Z4 (c9 (fV 1) (c9 (fV 2) cD)))))))
def ZG:bF:=aD 3 [] WK
def VH:VS:=
   (cL (KQ (cV 2 [] YA (aE (fV 0) (aE (fV 1) cG))))
   (bX (cV 2 [] aJ (aE (fV 0) (aE (fV 1) cG)))))
def Y6:bF:=aD 2 [] VH
def HW:VS:=
   (cL (XA (RG (fB (cV 1 [] ZM (aE (fV 0) cG))))
   (fun _=>none)
   aF)
   (bX (cV 1 [] ZG (aE (fV 0) cG))))
def RD:bF:=aD 1 [] HW
def WX:VS:=
   (XA (fB (f1 oAny (Z3 [0,3] 1 (VM (f2 ZR (fO 2) (Y7 (c9 (fV 1) cD)))) (gN 2) V5 (cV 3 [] bW (aE (fV 0) (aE (fV 1) (aE (fV 2) cG)))))))
   (V7 2 VQ (c9 (fV 3) cD))
   aF)
def LY:VS:=
   (cL (KQ (cV 2 [] YA (aE (fV 0) (aE (fV 1) cG))))
   (cL (aG 2 (xO (Y7 cD)))
   (cL (QV (iRB (fV 1)) (gN 3)
   WX)
   (bX (f1 L5 (fO 2))))))
def UR:bF:=aD 4 [] LY
def V9:VS:=
   (aG 2 (xV (f2 GJ (fV 2) (fC (.int 1000003)))))
def XD:VS:=
   (cL (XA (fB (f2 oLt (fV 1) (f1 Y8 (fV 0))))
   (bX (f2 cI (fV 0) (fV 1)))
   aF)
   (cL (XA (fB (f2 XO (fV 0) (Y7 cD)))
   (bX (fC (.int 0)))
   aF)
   (cL (aG 2 (xV (f2 cI (fV 0) (f2 L4 (fV 1) (f1 Y8 (fV 0))))))
   (cL (QV (iR1 (f2 oMin (f2 GJ (fV 1) (f1 Y8 (fV 0))) (fC (.int 60)))) (gN 3)
   V9)
   (bX (f2 ZR (f2 ZR (f2 PH (f2 cI (fV 0) (f2 L4 (fV 1) (f1 Y8 (fV 0)))) (fC (.int 31))) (fV 1)) (f2 PH (fV 2) (fC (.int 101)))))))))
def aS:bF:=aD 4 [] XD
def VD:VS:=
   (cL (aG 3 (xV (f2 L4 (f2 ZR (f2 ZR (f2 PH (cV 2 [] aS (aE (fV 0) (aE (fV 1) cG))) (fC (.int 1103515245))) (f2 PH (fC (.int 7919)) (fV 1))) (fC (.int 12345))) (fC (.int 2147483647)))))
   (bX (f2 L4 (f2 L4 (f2 L4 (f2 oPow (fV 3) (fC (.int 5))) (fC (.int 2147483647))) (fC (.int 999983))) (fV 2))))
def Y5:bF:=aD 4 [] VD
def T6:VS:=
   (cL (V7 1 VQ (c9 (fC (.int 0)) cD))
   (bX (cV 3 [] Y5 (aE (fV 0) (aE (f1 Y8 (fO 1)) (aE (fV 2) cG))))))
def cE:bF:=aD 3 [1] T6
def T8:VS:=
   (bX (f2 cI (fV 2) (cV 3 [1] cE (aE (fV 0) (aO 1 (aE (f1 Y8 (fV 2)) cG))))))
def bY:bF:=aD 3 [1] T8
def W1:VS:=
   (bX (VA (f2 TC (fV 0) (fC (.ty "bool"))) (f2 XO (fV 0) (fV 1))))
def aB:bF:=aD 2 [] W1
def VE:VS:=
   (cL (KP 2 (fV 3) (f2 L4 (f2 ZR (LW 2 (fV 3) (cV 3 [1] cE (aE (fV 0) (aO 1 (aE (fV 4) cG))))) (cV 3 [1] bY (aE (fV 0) (aO 1 (aE (Y7 (c9 (fC (.int 1)) (c9 (fC (.int 1)) (c9 (fC (.int 1)) (c9 (fC (.int 0)) (c9 (fC (.int 3)) cD)))))) cG))))) (fV 4)))
   (bX (f2 cI (fO 2) (fV 3))))
def aZ:bF:=aD 5 [1,2] VE
def RS:VS:=
   (cL (aG 5 (xV (cV 3 [1] cE (aE (fV 0) (aO 1 (aE (fC (.int 13)) cG))))))
   (cL (XA (FT (fB (f2 XO (fV 2) (Y7 cD))) (fB (f2 XO (fV 5) (fC (.int 0)))))
   (cL (XA (fB (f2 XO (cV 3 [1] cE (aE (fV 0) (aO 1 (aE (fC (.int 2)) cG)))) (fC (.int 0))))
   (bX (Z4 (c9 (fC (.str "number")) (c9 (cV 3 [1] bY (aE (fV 0) (aO 1 (aE (Y7 (c9 (fC (.int 0)) (c9 (fC (.int 1)) (c9 (fC (.int 2)) (c9 (fC (.int 5)) (c9 (fC (.int 999)) (c9 (cV 3 [1] cE (aE (fV 0) (aO 1 (aE (fC (.int 1000)) cG)))) cD))))))) cG)))) cD))))
   aF)
   (bX (Z4 (c9 (fC (.str "load")) (c9 (cV 5 [1,2] aZ (aE (fV 0) (aO 1 (aO 3 (aE (fC (.str "load")) (aE (fV 4) cG)))))) cD)))))
   aF)
   (cL (E8 (Z3 [0,1,2] 1 (iR1 (fC (.int 3))) (gN 3) V5 (f2 cI (fV 2) (f2 oMax (fC (.int 0)) (f2 N7 (f2 N7 (f1 Y8 (fV 2)) (fC (.int 1))) (cV 3 [1] cE (aE (fV 0) (aO 1 (aE (fC (.int 6)) cG)))))))) (LC 3 (bS (gN 6) (bS (gN 7) (bS (gN 8) X5)))))
   (cL (XA (fB (f2 (bI false) (fV 5) (Z4 (c9 (fC (.int 1)) (c9 (fC (.int 2)) cD)))))
   (bX (Z4 (c9 (fC (.str "load")) (c9 (cV 5 [1,2] aZ (aE (fV 0) (aO 1 (aO 3 (aE (fC (.str "load")) (aE (fV 4) cG)))))) cD))))
   aF)
   (cL (XA (fB (f2 XO (fV 5) (fC (.int 3))))
   (bX (Z4 (c9 (fC (.str "take")) (c9 (cV 5 [1,2] aZ (aE (fV 0) (aO 1 (aO 3 (aE (fC (.str "take")) (aE (fV 4) cG)))))) (c9 (fV 8) (c9 (fV 6) cD))))))
   aF)
   (cL (XA (fB (f2 (bI false) (fV 5) (Z4 (c9 (fC (.int 4)) (c9 (fC (.int 5)) cD)))))
   (bX (Z4 (c9 (fC (.str "store")) (c9 (cV 5 [1,2] aZ (aE (fV 0) (aO 1 (aO 3 (aE (fC (.str "store")) (aE (fV 4) cG)))))) (c9 (fV 6) cD)))))
   aF)
   (cL (XA (fB (f2 XO (fV 5) (fC (.int 6))))
   (bX (Z4 (c9 (fC (.str "put")) (c9 (cV 5 [1,2] aZ (aE (fV 0) (aO 1 (aO 3 (aE (fC (.str "put")) (aE (fV 4) cG)))))) (c9 (fV 6) (c9 (fV 8) cD))))))
   aF)
   (cL (XA (fB (f2 XO (fV 5) (fC (.int 7))))
   (bX (Z4 (c9 (fC (.str "pick")) (c9 (fV 8) (c9 (fV 6) (c9 (fV 7) cD))))))
   aF)
   (bX (Z4 (c9 (f2 cI (Y7 (c9 (fC (.str "over")) (c9 (fC (.str "plus")) (c9 (fC (.str "minus")) (c9 (fC (.str "times")) (c9 (fC (.str "least")) (c9 (fC (.str "most")) (c9 (fC (.str "less")) cD)))))))) (cV 3 [1] cE (aE (fV 0) (aO 1 (aE (fC (.int 7)) cG))))) (c9 (fV 6) (c9 (fV 7) cD)))))))))))))
def XX:bF:=aD 9 [1,3] RS
def ZH:VS:=
   (cL (aG 10 (xV (f2 ZR (f2 HZ (fV 3) (fV 9)) (cV 3 [1] bY (aE (fV 0) (aO 1 (aE (Y7 (c9 (fC (.int 1)) (c9 (fC (.int 1)) (c9 (fC (.int 1)) (c9 (fC (.int 1)) (c9 (f1 KC (fC (.int 1))) (c9 (fC (.int 0)) (c9 (fC (.int 2)) cD)))))))) cG)))))))
   (V7 8 VQ (c9 (fIf (SM (fB (f3 oLe oLt (fC (.int 0)) (fV 10) (f1 Y8 (fV 3)))) (fB (f2 OD (f2 cI (fV 3) (fV 10)) (f2 N7 (f1 Y8 (fV 2)) (fC (.int 1)))))) (f2 cI (fV 3) (fV 10)) (fV 9)) cD)))
def WI:VS:=
   (cL (aG 6 (xV (f2 cI (fV 2) (f1 KC (fC (.int 1))))))
   (cL (aG 7 (xV (fIf (fB (f2 (bI false) (f2 cI (fV 6) (fC (.int 0))) (Z4 (c9 (fC (.str "load")) (c9 (fC (.str "take")) (c9 (fC (.str "store")) (c9 (fC (.str "put")) cD))))))) (fC (.int 2)) (fC (.int 1)))))
   (cL (aG 8 (xO (Y7 cD)))
   (cL (QV (VM (EH (fV 6) (EX (fV 7)) A8)) (gN 9)
   ZH)
   (cL (XA (fB (f2 XO (fV 7) (fC (.int 1))))
   (bX (f2 ZR (EH (fV 6) A8 (EX (fC (.int 1)))) (f1 VR (fO 8))))
   aF)
   (cL (KP 4 (f2 cI (fV 6) (fC (.int 0))) (f2 L4 (f2 ZR (f2 cI (fV 6) (fC (.int 1))) (fC (.int 1))) (fV 5)))
   (bX (f2 ZR (Z4 (c9 (f2 cI (fV 6) (fC (.int 0))) (c9 (f2 cI (fO 4) (f2 cI (fV 6) (fC (.int 0)))) cD))) (f1 VR (fO 8))))))))))
def Z6:bF:=aD 11 [1,4] WI
def ZI:VS:=
   (XA (SM (fB (f2 oLt (f1 Y8 (fO 4)) (fV 2))) (fB (f2 OD (f2 cI (f2 cI (fO 4) (f1 KC (fC (.int 1)))) (fC (.int 0))) (fC (.str "number")))))
   (cL (V7 4 VQ (c9 (cV 6 [1,4] Z6 (aE (fV 0) (aO 1 (aO 4 (aO 5 (aO 6 (aE (fV 3) cG))))))) cD))
   (XA (fB (f2 (bI true) (f2 cI (f2 cI (fO 4) (f1 KC (fC (.int 1)))) (fC (.int 0))) (Z4 (c9 (fC (.str "store")) (c9 (fC (.str "put")) cD)))))
   (V7 5 VQ (c9 (f2 N7 (f1 Y8 (fO 4)) (fC (.int 1))) cD))
   aF))
   aF)
def X2:VS:=
   (cL (V7 4 VQ (c9 (cV 5 [1,3] XX (aE (fV 0) (aO 1 (aO 5 (aO 6 (aE (fV 3) cG)))))) cD))
   (cL (XA (fB (f2 (bI true) (f2 cI (f2 cI (fO 4) (f1 KC (fC (.int 1)))) (fC (.int 0))) (Z4 (c9 (fC (.str "store")) (c9 (fC (.str "put")) cD)))))
   (V7 5 VQ (c9 (f2 N7 (f1 Y8 (fO 4)) (fC (.int 1))) cD))
   aF)
   (QV (iR1 (cV 3 [1] bY (aE (fV 0) (aO 1 (aE (Y7 (c9 (fC (.int 0)) (c9 (fC (.int 1)) (c9 (fC (.int 1)) (c9 (fC (.int 2)) (c9 (fC (.int 3)) cD)))))) cG))))) (gN 7)
   ZI)))
def T9:VS:=
   (cL (PV 4 5 6 (xO (Y7 cD)) (xO (Y7 cD)) (xO (fC (.dct [] []))))
   (cL (UG (fB (f2 oLt (f1 Y8 (fO 4)) (fV 2)))
   X2)
   (bX (f1 VR (fO 4)))))
def YH:bF:=aD 8 [1] T9
def QY:VS:=
   (cL (XA (fB (f2 XO (f2 cI (fV 0) (fC (.int 0))) (fC (.str "number"))))
   (bX (Y7 cD))
   aF)
   (bX (fIf (fB (f2 (bI false) (f2 cI (fV 0) (fC (.int 0))) (Z4 (c9 (fC (.str "load")) (c9 (fC (.str "take")) (c9 (fC (.str "store")) (c9 (fC (.str "put")) cD))))))) (f1 KB (EH (fV 0) (EX (fC (.int 2))) A8)) (f1 KB (EH (fV 0) (EX (fC (.int 1))) A8)))))
def aK:bF:=aD 1 [] QY
def RQ:VS:=
   (cL (aG 2 (xV (f2 cI (f2 cI (fV 0) (fC (.int 1))) (fV 1))))
   (cL (XA (fB (f2 (bI false) (f2 cI (fV 2) (fC (.int 0))) (Z4 (c9 (fC (.str "load")) (c9 (fC (.str "take")) (c9 (fC (.str "store")) (c9 (fC (.str "put")) cD)))))))
   (bX (f2 oGe (f2 cI (fV 2) (fC (.int 1))) (f2 cI (fV 0) (fC (.int 0)))))
   aF)
   (bX (VA (f2 XO (f2 cI (fV 2) (fC (.int 0))) (fC (.str "over"))) (f2 (bI true) (EH (f2 cI (f2 cI (fV 0) (fC (.int 1))) (f2 cI (fV 2) (fC (.int 2)))) A8 (EX (fC (.int 2)))) (Z3 [] 1 (iR2 (fC (.int 1)) (fC (.int 1000))) (gN 0) V5 (Z4 (c9 (fC (.str "number")) (c9 (fV 0) cD)))))))))
def aA:bF:=aD 3 [] RQ
def X0:VS:=
   (cL (aG 7 (xV (Z3 [] 1 (VM (Z4 (c9 (fV 6) (c9 (fV 4) cD)))) (gN 0) (fB (f2 (bI false) (f2 cI (fV 0) (fC (.int 0))) (Z4 (c9 (fC (.str "store")) (c9 (fC (.str "put")) cD))))) (fV 0))))
   (cL (aG 8 (xO (Y7 (c9 (f2 (bI false) (fV 5) (cV 1 [] aK (aE (fV 4) cG))) (c9 (VA (cV 2 [] aA (aE (fV 0) (aE (fV 5) cG))) (cV 2 [] aA (aE (fV 0) (aE (fV 3) cG)))) cD)))))
   (cL (V7 8 VQ (c9 (VA (f2 (bI false) (f2 cI (fV 6) (fC (.int 0))) (fV 2)) (VA (f2 (bI false) (f2 cI (fV 4) (fC (.int 0))) (fV 2)) (VA (f2 XO (f2 cI (fV 6) (fC (.int 1))) (f2 cI (fV 4) (fC (.int 1)))) (f2 OD (fV 7) (Y7 cD))))) cD))
   (cL (V7 8 VQ (c9 (VA (cV 2 [] aA (aE (fV 0) (aE (fV 5) cG))) (f2 (bI false) (f2 cI (fV 4) (fC (.int 0))) (Z4 (c9 (fC (.str "store")) (c9 (fC (.str "put")) cD))))) cD))
   (cL (V7 8 VQ (c9 (VA (cV 2 [] aA (aE (fV 0) (aE (fV 3) cG))) (f2 (bI false) (f2 cI (fV 6) (fC (.int 0))) (Z4 (c9 (fC (.str "store")) (c9 (fC (.str "put")) cD))))) cD))
   (XA (fB (f2 (bI false) (fC (.bl true)) (fO 8)))
   (V7 1 VQ (c9 (Z4 (c9 (fV 5) (c9 (fV 3) cD))) cD))
   aF))))))
def X1:VS:=
   (QV (OV (EH (f2 cI (fV 0) (fC (.int 1))) A8 (EX (fV 3)))) (LC 2 (bS (gN 5) (bS (gN 6) X5)))
   X0)
def T7:VS:=
   (cL (KS 1 2 (xO (Y7 cD)) (xV (Z4 (c9 (fC (.str "load")) (c9 (fC (.str "take")) (c9 (fC (.str "store")) (c9 (fC (.str "put")) cD)))))))
   (cL (QV (OV (f2 cI (fV 0) (fC (.int 1)))) (LC 2 (bS (gN 3) (bS (gN 4) X5)))
   X1)
   (bX (f1 IB (fO 1)))))
def Z5:bF:=aD 9 [] T7
def aH:VS:=
   (cL (aG 6 (xV (Z3 [3,4] 1 (VM (fO 4)) (gN 2) (fB (f2 XO (Z3 [1,2] 2 (VM (fV 0)) (LC 2 (bS (gN 2) (bS (gN 3) X5))) (SM (fB (f2 XO (fV 3) (fV 1))) (fB (f2 (bI false) (fV 2) (fO 0)))) (fC (.int 1))) (Y7 cD))) (fV 2))))
   (cL (V7 5 VQ (c9 (cV 3 [1] bY (aE (fV 0) (aO 1 (aE (fV 6) cG)))) cD))
   (V7 4 mRem (c9 (f2 cI (fO 5) (f1 KC (fC (.int 1)))) cD))))
def YV:VS:=
   (cL (PV 3 4 5 (xV (cV 1 [] Z5 (aE (fV 2) cG))) (xO (UW (f1 Y8 (f2 cI (fV 2) (fC (.int 1)))))) (xO (Y7 cD)))
   (cL (UG (fB (f2 OD (fO 4) (Y7 cD)))
   aH)
   (bX (fO 5))))
def aW:bF:=aD 7 [1] YV
def a8:VS:=
   (cL (XA (fB (f2 XO (f2 cI (fV 0) (fC (.int 0))) (fC (.str "number"))))
   (bX (fV 0))
   aF)
   (cL (aG 2 (xV (fIf (fB (f2 (bI false) (f2 cI (fV 0) (fC (.int 0))) (Z4 (c9 (fC (.str "load")) (c9 (fC (.str "take")) (c9 (fC (.str "store")) (c9 (fC (.str "put")) cD))))))) (fC (.int 2)) (fC (.int 1)))))
   (bX (f2 ZR (EH (fV 0) A8 (EX (fV 2))) (f1 VR (Z3 [1] 1 (VM (EH (fV 0) (EX (fV 2)) A8)) (gN 1) V5 (f2 cI (fV 0) (fV 1))))))))
def cK:bF:=aD 3 [] a8
def XH:VS:=
   (cL (aG 3 (xV (cV 3 [1] bY (aE (fV 0) (aO 1 (aE (Y7 (c9 (fC (.int 3)) (c9 (fC (.int 6)) (c9 (fC (.int 9)) (c9 (fC (.int 64)) cD))))) cG))))))
   (cL (aG 4 (xV (cV 3 [1] bY (aE (fV 0) (aO 1 (aE (Y7 (c9 (fC (.int 0)) (c9 (fV 3) (c9 (fV 3) (c9 (cV 3 [1] cE (aE (fV 0) (aO 1 (aE (f2 ZR (fV 3) (fC (.int 1))) cG)))) cD))))) cG))))))
   (cL (aG 5 (xV (Z4 (c9 (fV 4) (c9 (cV 4 [1] YH (aE (fV 0) (aO 1 (aE (cV 3 [1] cE (aE (fV 0) (aO 1 (aE (f2 ZR (fV 2) (fC (.int 1))) cG)))) (aE (fV 3) cG))))) cD)))))
   (cL (XA (fB (f2 oGt (cV 3 [1] cE (aE (fV 0) (aO 1 (aE (fC (.int 3)) cG)))) (fC (.int 0))))
   (bX (fV 5))
   aF)
   (cL (aG 6 (xV (cV 3 [1] aW (aE (fV 0) (aO 1 (aE (fV 5) cG))))))
   (cL (aG 7 (xV (f1 GH (Z3 [] 2 (OV (fV 6)) (LC 2 (bS (gN 0) (bS (gN 1) X5))) V5 (Z4 (c9 (fV 1) (c9 (fV 0) cD)))))))
   (bX (Z4 (c9 (fV 4) (c9 (f1 VR (Z3 [5,7] 1 (VM (fV 6)) (gN 2) V5 (cV 2 [] cK (aE (f2 cI (f2 cI (fV 0) (fC (.int 1))) (fV 2)) (aE (fV 1) cG))))) cD))))))))))
def ZN:bF:=aD 8 [1] XH
def QA:VS:=
   (XA (fB (f2 OD (Z3 [4,5,6] 2 (VM (fV 3)) (LC 2 (bS (gN 3) (bS (gN 4) X5))) (SM (fB (f2 XO (fV 3) (fV 2))) (FT (fB (f2 XO (fV 4) (fV 0))) (fB (f2 (bI false) (fV 4) (fO 1))))) (fV 4)) (Y7 cD)))
   (V7 5 VQ (c9 (fV 6) cD))
   aF)
def QB:VS:=
   (cL (XA (RG (fB (cV 2 [] aB (aE (cV 2 [] Y6 (aE (fV 2) (aE (fV 4) cG))) (aE (cV 2 [] aA (aE (fV 2) (aE (fV 4) cG))) cG)))))
   (bX (fC (.bl false)))
   aF)
   (cL (aG 5 (xO (Y7 cD)))
   (cL (QV (iRB (fV 4)) (gN 6)
   QA)
   (XA (fB (f2 OD (cV 2 [] UR (aE (fV 2) (aE (fV 4) cG))) (f1 L5 (fO 5))))
   (bX (fC (.bl false)))
   aF))))
def zA1:VS:=
   (cL (aG 1 (xO (Y7 cD)))
   (cL (aG 2 (xV (cV 3 [1] ZN (aE (fV 0) (aO 1 (aE (fC (.int 14)) cG))))))
   (cL (aG 3 (xV (cV 1 [] Z5 (aE (fV 2) cG))))
   (cL (XA (fB (f2 OD (cV 1 [] RD (aE (fV 2) cG)) (fV 3)))
   (bX (fC (.bl false)))
   aF)
   (cL (QV (iR1 (f1 Y8 (f2 cI (fV 2) (fC (.int 1))))) (gN 4)
   QB)
   (bX (fC (.bl true))))))))
def MK:bF:=aD 7 [] zA1
end L2
namespace RR
open PySem L2
structure Txt(K:Ap)(mg:Str->Option Value):Prop where
 fnm: ∀x a,Pe K mainGlobals x=some (some (.ref a))->mg x=some (.ref a)
 n_len:mg "len"=none
 n_range:mg "range"=none
 n_min:mg "min"=none
 n_max:mg "max"=none
 RX:mg "list"=none
 n_tuple:mg "tuple"=none
 n_sorted:mg "sorted"=none
 n_isinstance:mg "isinstance"=none
 n_bool:mg "bool"=none
 n_int:mg "int"=none
 n_str:mg "str"=none
 n_enumerate:mg "enumerate"=none
 n_zip:mg "zip"=none
 n_all:mg "all"=none
 n_any:mg "any"=none
 n_dict:mg "dict"=none
 n_reversed:mg "reversed"=none
 v_DEEDS: ∃u v,mg "DEEDS"=some u/\cB v u/\ ∀N H M,bU K N H M v FW
 v_DEED_PARTS: ∃u v,mg "DEED_PARTS"=some u/\cB v u/\ ∀N H M,bU K N H M v SO
 v_MOST_PLACE: ∃u v,mg "MOST_PLACE"=some u/\cB v u/\ ∀N H M,bU K N H M v WD
 v_MOST_ROWS: ∃u v,mg "MOST_ROWS"=some u/\cB v u/\ ∀N H M,bU K N H M v U5
 v_MOST_SURE: ∃u v,mg "MOST_SURE"=some u/\cB v u/\ ∀N H M,bU K N H M v U6
 v_MOST_WORD: ∃u v,mg "MOST_WORD"=some u/\cB v u/\ ∀N H M,bU K N H M v U7
 v_OTHER_PARTS: ∃u v,mg "OTHER_PARTS"=some u/\cB v u/\ ∀N H M,bU K N H M v UK
 v_READERS: ∃u v,mg "READERS"=some u/\cB v u/\ ∀N H M,bU K N H M v UT
 v_WRITERS: ∃u v,mg "WRITERS"=some u/\cB v u/\ ∀N H M,bU K N H M v Z0
section
variable{P:Bk}{w:World}{K:Ap}{mg:Str->Option Value}{base:Heap}{f:Addr}{fd:Gk}
noncomputable abbrev Nx0:List Str:=["thing","low","high"]
abbrev Qx0:List Str:=["thing","low","high"]
theorem zGZ:cQ Nx0 Qx0 (cY (top 7)):=ZQ
theorem zHZ(F:XM K "is_whole" "is_whole" (top 7) f fd) (T:Txt K mg):
  aP P w K mg base CX0 1 f fd Qx0 (spV K [] 3 bA):=
 VU P w K mg base Nx0 Qx0 0 T5 [] F zGZ fun _ _ _ _ _ _ hr hu hu1=>by
  refine(dD ?_ (c8 ?_))
  ·exact(bP (TY (T0 (ZW (JD T.n_isinstance (vv 0) (vty T.n_bool FV))) (WV (XG (ZW (JD T.n_isinstance (vv 0) (vty T.n_int zGC)))))))
   (c8 (cU XU))
   cN)
  ·exact(cU (C2 A6 A6 s_le s_le (vv 1) (vv 0) (vv 2)))
noncomputable abbrev Nx1:List Str:=["deed"]
abbrev Qx1:List Str:=["deed"]
theorem zGY:cQ Nx1 Qx1 (cY (top 16)):=ZQ
theorem zHY(F:XM K "parts_of" "parts_of" (top 16) f fd) (T:Txt K mg):
  aP P w K mg base CX0 1 f fd Qx1 (spV K [] 1 bB):=
 VU P w K mg base Nx1 Qx1 0 OS [] F zGY fun _ _ _ _ _ _ hr hu hu1=>by
  refine(dD ?_ (c8 ?_))
  ·exact (bP (bT (W2 (K := K) rfl hu) (ZY (neg := false)) (vv 0) (ZT (by rfl) T.v_DEEDS) (by with_unfolding_all rfl))
   (c8 (cU (ZT (by rfl) T.v_DEED_PARTS)))
   cN)
  ·exact(cU (zAL rfl hu1 (ZT (by rfl) T.v_OTHER_PARTS) (vv 0) ⟨rfl,rfl,rfl,rfl⟩))
noncomputable abbrev Nx2:List Str:=["row"]
abbrev Qx2:List Str:=["row"]
theorem zGX:cQ Nx2 Qx2 (cY (top 17)):=ZQ
theorem zHX(F:XM K "makes_word" "makes_word" (top 17) f fd) (T:Txt K mg):
  aP P w K mg base CX0 1 f fd Qx2 (spV K [] 1 ZF):=
 VU P w K mg base Nx2 Qx2 0 WJ [] F zGX fun _ _ _ _ _ _ hr hu hu1=>by exact(c8 (cU (Y2 (QI (K:=K) rfl hu) (ZY (neg:=true)) (ZU hu1 (vv 0) dC) (ZT (by rfl) T.v_WRITERS) (by with_unfolding_all rfl))))
abbrev Nx3:List Str:=["row"]
abbrev Qx3:List Str:=["row"]
theorem zGW:cQ Nx3 Qx3 (cY (top 18)):=ZQ
theorem zHW(F:XM K "place_of" "place_of" (top 18) f fd) (T:Txt K mg):
  aP P w K mg base CX0 1 f fd Qx3 (spV K [] 1 aN):=
 VU P w K mg base Nx3 Qx3 0 WL [] F zGW fun _ _ _ _ _ _ hr hu hu1=>by exact(c8 (cU (NR (TY (T0 (bT (W2 (K:=K) rfl hu) (ZY (neg:=false)) (ZU hu1 (vv 0) dC) (ZT (by rfl) T.v_READERS) (by with_unfolding_all rfl)) (WV (bT (W2 (K:=K) rfl hu) (ZY (neg:=false)) (ZU hu1 (vv 0) dC) (ZT (by rfl) T.v_WRITERS) (by with_unfolding_all rfl))))) (ZU hu1 (vv 0) dC) MG)))
noncomputable abbrev Nx4:List Str:=["row","deed","rest"]
abbrev Qx4:List Str:=["row"]
theorem zCC:cQ Nx4 Qx4 (cY (top 19)):=ZQ
theorem zHV(F:XM K "names_of" "names_of" (top 19) f fd) (T:Txt K mg) (fu:cJ P w K mg base "parts_of" 1 Qx1 [] bB f_x1):
  aP P w K mg base CX0 2 f fd Qx4 (spV K [] 1 YJ):=
 VU P w K mg base Nx4 Qx4 1 OR [] F zCC fun _ _ _ _ _ _ hr hu hu1=>by
  refine(dD ?_ (c8 ?_))
  ·exact(HH (i:=1) (j:=2) rfl rfl zCC.nd rfl rfl (by decide) (Mv rfl) (Mv rfl) (vv 0))
  ·exact(cU (bV (ZV ["part","given"] [] 2 (C6 rfl (by rfl) T.n_zip (cX (b8 fu hr (c7 (vv 1) cZ))) (vv 2)) (fun hn _ _ _ _=>⟨(XV (K:=K) rfl rfl (bZ (cM hn) (bZ (cM hn) Y4))),(SG (WU hu (vv 0) cS)),(vv 1)⟩))))
noncomputable abbrev Nx5:List Str:=["thing","able"]
abbrev Qx5:List Str:=["thing","able"]
theorem zGV:cQ Nx5 Qx5 (cY (top 20)):=ZQ
theorem zHU(F:XM K "may_name" "may_name" (top 20) f fd) (T:Txt K mg) (bz:cJ P w K mg base "is_whole" 1 Qx0 [] bA f_x0):
  aP P w K mg base CX0 2 f fd Qx5 (spV K [] 2 YI):=
 VU P w K mg base Nx5 Qx5 1 UA [] F zGV fun _ _ _ _ _ _ hr hu hu1=>by exact(c8 (cU (Y1 (b8 bz hr (c7 (vv 0) (c7 dC (c7 (cX (YR UE PX (XW T.n_len (vv 1)) dC)) cZ)))) (Y3 (ZU hu1 (vv 1) (vv 0))))))
noncomputable abbrev Nx6:List Str:=["part","thing","able"]
abbrev Qx6:List Str:=["part","thing","able"]
theorem zGU:cQ Nx6 Qx6 (cY (top 21)):=ZQ
theorem zHT(F:XM K "fits" "fits" (top 21) f fd) (T:Txt K mg) (bz:cJ P w K mg base "is_whole" 1 Qx0 [] bA f_x0) (jc:cJ P w K mg base "may_name" 2 Qx5 [] YI f_x5):
  aP P w K mg base CX0 3 f fd Qx6 (spV K [] 3 XB):=
 VU P w K mg base Nx6 Qx6 2 OP [] F zGU fun _ _ _ _ _ _ hr hu hu1=>by
  refine(dD ?_ (dD ?_ (c8 ?_)))
  ·exact(bP (WU hu (vv 0) cS)
   (c8 (cU (b8 bz hr (c7 (vv 1) (c7 dC (c7 (cX (ZT (by rfl) T.v_MOST_WORD)) cZ))))))
   cN)
  ·exact(bP (WU hu (vv 0) cS)
   (c8 (cU (b8 bz hr (c7 (vv 1) (c7 dC (c7 (cX (ZT (by rfl) T.v_MOST_PLACE)) cZ))))))
   cN)
  ·exact(cU (b8 jc hr (c7 (vv 1) (c7 (vv 2) cZ))))
noncomputable abbrev Nx7:List Str:=["thing","able","deed","rest","parts"]
abbrev Qx7:List Str:=["thing","able"]
theorem CH:cQ Nx7 Qx7 (cY (top 22)):=ZQ
theorem zHS(F:XM K "is_row" "is_row" (top 22) f fd) (T:Txt K mg) (fu:cJ P w K mg base "parts_of" 1 Qx1 [] bB f_x1) (j9:cJ P w K mg base "fits" 3 Qx6 [] XB f_x6):
  aP P w K mg base CX0 4 f fd Qx7 (spV K [] 2 WW):=
 VU P w K mg base Nx7 Qx7 3 OQ [] F CH fun _ _ _ _ _ _ hr hu hu1=>by
  refine(dD ?_ (dD ?_ (dD ?_ (dD ?_ (c8 ?_)))))
  ·exact(bP (TY (T0 (XG (ZW (JD T.n_isinstance (vv 0) (vty T.n_tuple YB)))) (WV (WU hu (XW T.n_len (vv 0)) dC))))
   (c8 (cU XU))
   cN)
  ·exact(HH (i:=2) (j:=3) rfl rfl CH.nd rfl rfl (by decide) (Mv rfl) (Mv rfl) (vv 0))
  ·exact(bJ CH.nd (Z9 (cX (NR (ZW (JD T.n_isinstance (vv 2) (vty T.n_str zG8))) (b8 fu hr (c7 (vv 2) cZ)) MG))))
  ·exact(bP (TY (T0 (bT zEQ zH6 (vv 4) MG (aI _)) (WV (bT (N6 (K:=K) rfl hu) N8 (XW T.n_len (vv 4)) (XW T.n_len (vv 3)) (aI _)))))
   (c8 (cU XU))
   cN)
  ·exact(cU (C0 (kAll (K:=K) rfl rfl) zH8 (by rfl) T.n_all zGE (bV (ZV ["able","part","given"] [1] 2 (C6 rfl (by rfl) T.n_zip (vv 4) (vv 3)) (fun hn _ _ _ _=>⟨(XV (K:=K) rfl rfl (bZ (cM hn) (bZ (cM hn) Y4))),WR,(cX (b8 j9 hr (c7 (vv 1) (c7 (vv 2) (c7 (vv 0) cZ)))))⟩)))))
noncomputable abbrev Nx8:List Str:=["thing","sure","rows","able","row"]
abbrev Qx8:List Str:=["thing"]
theorem KU:cQ Nx8 Qx8 (cY (top 23)):=ZQ
theorem zHR(F:XM K "is_block" "is_block" (top 23) f fd) (T:Txt K mg) (bz:cJ P w K mg base "is_whole" 1 Qx0 [] bA f_x0) (je:cJ P w K mg base "makes_word" 1 Qx2 [] ZF f_x2) (j8:cJ P w K mg base "is_row" 4 Qx7 [] WW f_x7):
  aP P w K mg base CX0 5 f fd Qx8 (spV K [] 1 ZM):=
 VU P w K mg base Nx8 Qx8 4 T4 [] F KU fun _ _ _ _ _ _ hr hu hu1=>by
  refine(dD ?_ (dD ?_ (dD ?_ (dD ?_ (dD ?_ (dD ?_ (c8 ?_)))))))
  ·exact(bP (TY (T0 (XG (ZW (JD T.n_isinstance (vv 0) (vty T.n_tuple YB)))) (WV (bT (N6 (K:=K) rfl hu) N8 (XW T.n_len (vv 0)) dC (aI _)))))
   (c8 (cU XU))
   cN)
  ·exact(JE (vv 0) (XV (K:=K) rfl rfl (bZ (cM KU.nd) (bZ (cM KU.nd) Y4))))
  ·exact (bP (XG (ZW (b8 bz hr (c7 (vv 1) (c7 dC (c7 (cX (ZT (by rfl) T.v_MOST_SURE)) cZ))))))
   (c8 (cU XU))
   cN)
  ·exact (bP (TY (T0 (XG (ZW (JD T.n_isinstance (vv 2) (vty T.n_tuple YB)))) (WV (bT zCP s_gt (XW T.n_len (vv 2)) (ZT (by rfl) T.v_MOST_ROWS) (aI _)))))
   (c8 (cU XU))
   cN)
  ·exact(bJ KU.nd (WC (aV (cP cW))))
  ·exact(WT Dq rfl (WS rfl (vv 2)) (cM KU.nd)
   (dD (bP (XG (ZW (b8 j8 hr (c7 (vv 4) (bK (pv 3) cZ)))))
   (c8 (cU XU))
   cN)
   (c8 (ZA (K:=K) rfl Bf Bg bM YX (pv 3) (cP (dE (b8 je hr (c7 (vv 4) cZ)) cW))))))
  ·exact(cU XU)
noncomputable abbrev Nx9:List Str:=["block","row","rows"]
abbrev Qx9:List Str:=["block","row"]
theorem zCB:cQ Nx9 Qx9 (cY (top 24)):=ZQ
theorem zHQ(F:XM K "row_at" "row_at" (top 24) f fd) (T:Txt K mg) (bz:cJ P w K mg base "is_whole" 1 Qx0 [] bA f_x0) (ft:cJ P w K mg base "is_block" 5 Qx8 [] ZM f_x8):
  aP P w K mg base CX0 6 f fd Qx9 (spV K [] 2 YA):=
 VU P w K mg base Nx9 Qx9 5 OT [] F zCB fun _ _ _ _ _ _ hr hu hu1=>by
  refine(dD ?_ (dD ?_ (dD ?_ (c8 ?_))))
  ·exact(bP (XG (ZW (b8 ft hr (c7 (vv 0) cZ))))
   (c8 P5)
   cN)
  ·exact(bJ zCB.nd (Z9 (cX (ZU hu1 (vv 0) dC))))
  ·exact(bP (XG (ZW (b8 bz hr (c7 (vv 1) (c7 dC (c7 (cX (YR UE PX (XW T.n_len (vv 2)) dC)) cZ))))))
   (c8 P5)
   cN)
  ·exact(cU (ZU hu1 (vv 2) (vv 1)))
abbrev Nx10:List Str:=["row"]
abbrev DV:List Str:=["row"]
theorem zDT:cQ Nx10 DV (cY (top 26)):=ZQ
theorem zFI(F:XM K "writes" "writes" (top 26) f fd) (T:Txt K mg):
  aP P w K mg base CX0 1 f fd DV (spV K [] 1 ZD):=
 VU P w K mg base Nx10 DV 0 OU [] F zDT fun _ _ _ _ _ _ hr hu hu1=>by exact(c8 (cU (Y2 (W2 (K:=K) rfl hu) (ZY (neg:=false)) (ZU hu1 (vv 0) dC) (ZT (by rfl) T.v_WRITERS) (by with_unfolding_all rfl))))
abbrev Nx11:List Str:=["row"]
abbrev Qx11:List Str:=["row"]
theorem zDS:cQ Nx11 Qx11 (cY (top 27)):=ZQ
theorem zFH(F:XM K "is_safe_number" "is_safe_number" (top 27) f fd) (T:Txt K mg):
  aP P w K mg base CX0 1 f fd Qx11 (spV K [] 1 aR):=
 VU P w K mg base Nx11 Qx11 0 YN [] F zDS fun _ _ _ _ _ _ hr hu hu1=>by exact(c8 (cU (Y1 (veq hu (ZU hu1 (vv 0) dC) cS) (Y3 (Y2 (N6 (K:=K) rfl hu) N8 (ZU hu1 (vv 0) dC) dC (aI _))))))
noncomputable abbrev Nx12:List Str:=["block","at","sure","rows","row","place"]
noncomputable abbrev DW:List Str:=["block","at"]
theorem PY:cQ Nx12 DW (cY (top 28)):=ZQ
theorem zFG(F:XM K "can_fault" "can_fault" (top 28) f fd) (T:Txt K mg) (dw:cJ P w K mg base "place_of" 1 Qx3 [] aN f_x3) (i7:cJ P w K mg base "is_safe_number" 1 Qx11 [] aR f_x11):
  aP P w K mg base CX0 2 f fd DW (spV K [] 2 aJ):=
 VU P w K mg base Nx12 DW 1 VC [] F PY fun _ _ _ _ _ _ hr hu hu1=>by
  refine(dD ?_ (dD ?_ (dD ?_ (dD ?_ (c8 ?_)))))
  ·exact(JE (vv 0) (XV (K:=K) rfl rfl (bZ (cM PY.nd) (bZ (cM PY.nd) Y4))))
  ·exact(bJ PY.nd (Z9 (cX (ZU hu1 (vv 3) (vv 1)))))
  ·exact(bP (WU hu (ZU hu1 (vv 4) dC) cS)
   (c8 (cU (zD8 (b8 i7 hr (c7 (cX (ZU hu1 (vv 3) (ZU hu1 (vv 4) dC))) cZ)))))
   cN)
  ·exact(bJ PY.nd (Z9 (cX (b8 dw hr (c7 (vv 4) cZ)))))
  ·exact(cU (Y1 (Y2 zBF zDU (vv 5) MG (aI _)) (Y3 (Y2 zCQ s_ge (vv 5) (vv 2) (aI _)))))
noncomputable abbrev Nx13:List Str:=["row","other"]
abbrev Qx13:List Str:=["row","other"]
theorem zDR:cQ Nx13 Qx13 (cY (top 29)):=ZQ
theorem zFF(F:XM K "share_written_cell" "share_written_cell" (top 29) f fd) (T:Txt K mg) (dw:cJ P w K mg base "place_of" 1 Qx3 [] aN f_x3) (ca:cJ P w K mg base "writes" 1 DV [] ZD f_x10):
  aP P w K mg base CX0 2 f fd Qx13 (spV K [] 2 bR):=
 VU P w K mg base Nx13 Qx13 1 ZO [] F zDR fun _ _ _ _ _ _ hr hu hu1=>by exact(c8 (cU (Y1 (veq hu (b8 dw hr (c7 (vv 0) cZ)) (b8 dw hr (c7 (vv 1) cZ))) (Y3 (zC9 (b8 ca hr (c7 (vv 0) cZ)) (Y3 (b8 ca hr (c7 (vv 1) cZ))))))))
noncomputable abbrev Nx14:List Str:=["block","first","second","rows","first_faults","second_faults"]
noncomputable abbrev DX:List Str:=["block","first","second"]
theorem IN:cQ Nx14 DX (cY (top 30)):=ZQ
theorem zFE(F:XM K "must_stay" "must_stay" (top 30) f fd) (T:Txt K mg) (jd:cJ P w K mg base "names_of" 2 Qx4 [] YJ f_x4) (ca:cJ P w K mg base "writes" 1 DV [] ZD f_x10) (cq:cJ P w K mg base "can_fault" 2 DW [] aJ f_x12) (i6:cJ P w K mg base "share_written_cell" 2 Qx13 [] bR f_x13):
  aP P w K mg base CX0 3 f fd DX (spV K [] 3 bW):=
 VU P w K mg base Nx14 DX 2 VJ [] F IN fun _ _ _ _ _ _ hr hu hu1=>by
  refine(dD ?_ (dD ?_ (dD ?_ (dD ?_ (c8 ?_)))))
  ·exact(bJ IN.nd (Z9 (cX (ZU hu1 (vv 0) dC))))
  ·exact (bP (TY (T0 (bT (W2 (K := K) rfl hu) (ZY (neg := false)) (vv 1) (b8 jd hr (c7 (cX (ZU hu1 (vv 3) (vv 2))) cZ)) (by with_unfolding_all rfl)) (WV (ZW (b8 i6 hr (c7 (cX (ZU hu1 (vv 3) (vv 1))) (c7 (cX (ZU hu1 (vv 3) (vv 2))) cZ)))))))
   (c8 (cU XU))
   cN)
  ·exact(HG (i:=4) (j:=5) rfl IN.nd rfl rfl (by decide) rfl rfl (Z9 (cX (b8 cq hr (c7 (vv 0) (c7 (vv 1) cZ))))) (Z9 (cX (b8 cq hr (c7 (vv 0) (c7 (vv 2) cZ))))) rfl)
  ·exact(bP (TY (P6 (ZW (vv 4)) (TZ (ZW (vv 5)))))
   (c8 (cU XU))
   cN)
  ·exact(cU (zC9 (Y1 (vv 4) (Y3 (b8 ca hr (c7 (cX (ZU hu1 (vv 3) (vv 2))) cZ)))) (Y3 (Y1 (vv 5) (Y3 (b8 ca hr (c7 (cX (ZU hu1 (vv 3) (vv 1))) cZ)))))))
noncomputable abbrev Nx15:List Str:=["block","many","pairs"]
abbrev Qx15:List Str:=["block"]
theorem IP:cQ Nx15 Qx15 (cY (top 31)):=ZQ
theorem zFD(F:XM K "must_pairs" "must_pairs" (top 31) f fd) (T:Txt K mg) (cv:cJ P w K mg base "must_stay" 3 DX [] bW f_x14):
  aP P w K mg base CX0 4 f fd Qx15 (spV K [] 1 ZG):=
 VU P w K mg base Nx15 Qx15 3 WK [] F IP fun _ _ _ _ _ _ hr hu hu1=>by
  refine(dD ?_ (dD ?_ (c8 ?_)))
  ·exact(bJ IP.nd (Z9 (cX (XW T.n_len (ZU hu1 (vv 0) dC)))))
  ·exact(C9 (i:=2) false IP.nd rfl rfl (N':=["many","first","second"]) (ix:=[1]) (nl:=2) rfl rfl (by rfl) rfl (by decide) (W8 (by rfl) T.n_range (vv 1)) (fun cl s1 H1 fp=>⟨(cM (show(["many","first","second"]:List Str).Nodup by decide+kernel)),WR,(NS (by rfl) T.n_range (ZZ (XI (K:=K) rfl) YT (vv 1) dC) (vv 0)),(cM (show(["many","first","second"]:List Str).Nodup by decide+kernel)),WR,(cX (bO (dE (vv 1) (dE (vv 2) cW))))⟩))
  ·exact(cU (bV (ZV ["block","first","second"] [0] 2 (WS rfl (vv 2)) (fun hn _ _ _ _=>⟨(XV (K:=K) rfl rfl (bZ (cM hn) (bZ (cM hn) Y4))),(SG (ZW (b8 cv hr (c7 (vv 0) (c7 (vv 1) (c7 (vv 2) cZ)))))),(cX (bO (dE (vv 1) (dE (vv 2) cW))))⟩))))
abbrev Nx16:List Str:=["block","row"]
abbrev Qx16:List Str:=["block","row"]
theorem zDQ:cQ Nx16 Qx16 (cY (top 32)):=ZQ
theorem zFC(F:XM K "may_fault" "may_fault" (top 32) f fd) (T:Txt K mg) (fo:cJ P w K mg base "row_at" 6 Qx9 [] YA f_x9) (cq:cJ P w K mg base "can_fault" 2 DW [] aJ f_x12):
  aP P w K mg base CX0 7 f fd Qx16 (spV K [] 2 Y6):=
 VU P w K mg base Nx16 Qx16 6 VH [] F zDQ fun _ _ _ _ _ _ hr hu hu1=>by
  refine(dD ?_ (c8 ?_))
  ·exact(HF (b8 fo hr (c7 (vv 0) (c7 (vv 1) cZ))))
  ·exact(cU (b8 cq hr (c7 (vv 0) (c7 (vv 1) cZ))))
abbrev Nx17:List Str:=["block"]
abbrev Qx17:List Str:=["block"]
theorem zDP:cQ Nx17 Qx17 (cY (top 33)):=ZQ
theorem zFB(F:XM K "must" "must" (top 33) f fd) (T:Txt K mg) (ft:cJ P w K mg base "is_block" 5 Qx8 [] ZM f_x8) (i5:cJ P w K mg base "must_pairs" 4 Qx15 [] ZG f_x15):
  aP P w K mg base CX0 6 f fd Qx17 (spV K [] 1 RD):=
 VU P w K mg base Nx17 Qx17 5 HW [] F zDP fun _ _ _ _ _ _ hr hu hu1=>by
  refine(dD ?_ (c8 ?_))
  ·exact(bP (XG (ZW (b8 ft hr (c7 (vv 0) cZ))))
   (c8 P5)
   cN)
  ·exact(cU (b8 i5 hr (c7 (vv 0) cZ)))
noncomputable abbrev Nx18:List Str:=["block","row","found","first"]
abbrev Qx18:List Str:=["block","row"]
theorem IQ:cQ Nx18 Qx18 (cY (top 34)):=ZQ
theorem zFA(F:XM K "ahead" "ahead" (top 34) f fd) (T:Txt K mg) (fo:cJ P w K mg base "row_at" 6 Qx9 [] YA f_x9) (cv:cJ P w K mg base "must_stay" 3 DX [] bW f_x14):
  aP P w K mg base CX0 7 f fd Qx18 (spV K [] 2 UR):=
 VU P w K mg base Nx18 Qx18 6 LY [] F IQ fun _ _ _ _ _ _ hr hu hu1=>by
  refine(dD ?_ (dD ?_ (dD ?_ (c8 ?_))))
  ·exact(HF (b8 fo hr (c7 (vv 0) (c7 (vv 1) cZ))))
  ·exact(bJ IQ.nd (WC (aV (cP cW))))
  ·exact (WT Dq rfl (C5 (by rfl) T.n_range (by rfl) T.n_reversed (vv 1)) (cM IQ.nd)
   (c8 (bP (ZW (C0 (kAny (K:=K) rfl rfl) zH7 (by rfl) T.n_any zGD (bV (ZV ["block","first","later"] [0,3] 1 (WS rfl (cX (ZZ (XI (K:=K) rfl) YT (vo 2) (bV (aV (cP (dE (vv 1) cW))))))) (fun hn _ _ _ _=>⟨(cM hn),WR,(cX (b8 cv hr (c7 (vv 0) (c7 (vv 1) (c7 (vv 2) cZ)))))⟩)))))
   (c8 (ZA (K:=K) rfl Bf Bg bM YX (pv 2) (cP (dE (vv 3) cW))))
   cN)))
  ·exact(cU (bV (C7 (AK (K:=K) rfl) GD (by rfl) T.n_sorted RH (K5 (vo 2)))))
noncomputable abbrev Nx19:List Str:=["_law_script","_law_k","_law_rest","_law_again"]
noncomputable abbrev Qx19:List Str:=["_law_script","_law_k"]
theorem MA:cQ Nx19 Qx19 (cY (top 36)):=ZQ
theorem zF9(F:XM K "_law_cell_at" "_law_cell_at" (top 36) f fd) (T:Txt K mg):
  aP P w K mg base CX0 1 f fd Qx19 (spV K [] 2 aS):=
 VU P w K mg base Nx19 Qx19 0 XD [] F MA fun _ _ _ _ _ _ hr hu hu1=>by
  refine(dD ?_ (dD ?_ (dD ?_ (dD ?_ (c8 ?_)))))
  ·exact(bP (bT GL s_lt (vv 1) (XW T.n_len (vv 0)) (aI _))
   (c8 (cU (ZU hu1 (vv 0) (vv 1))))
   cN)
  ·exact(bP (WU hu (vv 0) (bV (aV (cP cW))))
   (c8 (cU dC))
   cN)
  ·exact(bJ MA.nd (Z9 (cX (ZU hu1 (vv 0) (YR VV Q7 (vv 1) (XW T.n_len (vv 0)))))))
  ·exact (WT Dq rfl (W8 (by rfl) T.n_range (C1 (D7 rfl) zH2 (by rfl) T.n_min zG9 (YR GK CC (vv 1) (XW T.n_len (vv 0))) dC)) (cM MA.nd)
   (c8 (bJ MA.nd (Z9 (cX (YR GK CC (vv 2) dC))))))
  ·exact(cU (ZZ (XI (K:=K) rfl) YT (ZZ (XI (K:=K) rfl) YT (ZZ (L1 (K:=K) rfl) QC (ZU hu1 (vv 0) (YR VV Q7 (vv 1) (XW T.n_len (vv 0)))) dC) (vv 1)) (ZZ (L1 (K:=K) rfl) QC (vv 2) dC)))
noncomputable abbrev Nx20:List Str:=["_law_script","_law_k","_law_bound","_law_drawn"]
noncomputable abbrev Qx20:List Str:=["_law_script","_law_k","_law_bound"]
theorem CD:cQ Nx20 Qx20 (cY (top 37)):=ZQ
theorem zF8(F:XM K "_law_mixed" "_law_mixed" (top 37) f fd) (T:Txt K mg) (gx:cJ P w K mg base "_law_cell_at" 1 Qx19 [] aS f_x19):
  aP P w K mg base CX0 2 f fd Qx20 (spV K [] 3 Y5):=
 VU P w K mg base Nx20 Qx20 1 VD [] F CD fun _ _ _ _ _ _ hr hu hu1=>by
  refine(dD ?_ (c8 ?_))
  ·exact(bJ CD.nd (Z9 (cX (YR VV Q7 (ZZ (XI (K:=K) rfl) YT (ZZ (XI (K:=K) rfl) YT (ZZ (L1 (K:=K) rfl) QC (b8 gx hr (c7 (vv 0) (c7 (vv 1) cZ))) dC) (ZZ (L1 (K:=K) rfl) QC dC (vv 1))) dC) dC))))
  ·exact(cU (YR VV Q7 (YR VV Q7 (YR VV Q7 (YR zEN zH0 (vv 3) dC) dC) dC) (vv 2)))
noncomputable abbrev Nx21:List Str:=["_law_script","_law_town","_law_bound"]
abbrev JI:List Str:=["_law_script","_law_town","_law_bound"]
theorem zDO:cQ Nx21 JI (cY (top 38)):=ZQ
theorem zF7(F:XM K "_law_draw" "_law_draw" (top 38) f fd) (T:Txt K mg) (gw:cJ P w K mg base "_law_mixed" 2 Qx20 [] Y5 f_x20):
  aP P w K mg base CX0 3 f fd JI (spV K [1] 3 cE):=
 VU P w K mg base Nx21 JI 2 T6 [1] F zDO fun _ _ _ _ _ _ hr hu hu1=>by
  refine(dD ?_ (c8 ?_))
  ·exact(ZA (K:=K) rfl Bf Bg bM YX (pv 1) (cP (dE dC cW)))
  ·exact(cU (b8 gw hr (c7 (vv 0) (c7 (cX (XW T.n_len (vo 1))) (c7 (vv 2) cZ)))))
noncomputable abbrev Nx22:List Str:=["_law_script","_law_town","_law_some"]
abbrev NU:List Str:=["_law_script","_law_town","_law_some"]
theorem zDN:cQ Nx22 NU (cY (top 39)):=ZQ
theorem zF6(F:XM K "_law_pick" "_law_pick" (top 39) f fd) (T:Txt K mg) (ap:cJ P w K mg base "_law_draw" 3 JI [1] cE f_x21):
  aP P w K mg base CX0 4 f fd NU (spV K [1] 3 bY):=
 VU P w K mg base Nx22 NU 3 T8 [1] F zDN fun _ _ _ _ _ _ hr hu hu1=>by exact(c8 (cU (ZU hu1 (vv 2) (b8 ap hr (c7 (vv 0) (bK (pv 1) (c7 (cX (XW T.n_len (vv 2))) cZ)))))))
noncomputable abbrev Nx23:List Str:=["_law_got","_law_due"]
abbrev Qx23:List Str:=["_law_got","_law_due"]
theorem zDM:cQ Nx23 Qx23 (cY (top 40)):=ZQ
theorem zF5(F:XM K "_law_same_truth" "_law_same_truth" (top 40) f fd) (T:Txt K mg):
  aP P w K mg base CX0 1 f fd Qx23 (spV K [] 2 aB):=
 VU P w K mg base Nx23 Qx23 0 W1 [] F zDM fun _ _ _ _ _ _ hr hu hu1=>by exact(c8 (cU (Y1 (JD T.n_isinstance (vv 0) (vty T.n_bool FV)) (Y3 (veq hu (vv 0) (vv 1))))))
noncomputable abbrev Nx24:List Str:=["_law_script","_law_town","_law_seen","_law_deed","_law_room"]
abbrev Qx24:List Str:=["_law_script","_law_town","_law_seen","_law_deed","_law_room"]
theorem zDL:cQ Nx24 Qx24 (cY (top 41)):=ZQ
theorem zF4(F:XM K "_law_place" "_law_place" (top 41) f fd) (T:Txt K mg) (ap:cJ P w K mg base "_law_draw" 3 JI [1] cE f_x21) (ao:cJ P w K mg base "_law_pick" 4 NU [1] bY f_x22):
  aP P w K mg base CX0 5 f fd Qx24 (spV K [1,2] 5 aZ):=
 VU P w K mg base Nx24 Qx24 4 VE [1,2] F zDL fun _ _ _ _ _ _ hr hu hu1=>by
  refine(dD ?_ (c8 ?_))
  ·exact(HE hu1 (pv 2) (vv 3) (cX (YR VV Q7 (ZZ (XI (K:=K) rfl) YT (C3 hu1 (pv 2) (vv 3) (cX (b8 ap hr (c7 (vv 0) (bK (pv 1) (c7 (vv 4) cZ))))) ⟨rfl,rfl,rfl,rfl⟩) (b8 ao hr (c7 (vv 0) (bK (pv 1) (c7 (bV (aV (cP (dE dC (dE dC (dE dC (dE dC (dE dC cW)))))))) cZ))))) (vv 4))) rfl)
  ·exact(cU (ZU hu1 (vo 2) (vv 3)))
noncomputable abbrev Nx25:List Str:=["_law_script","_law_town","_law_made","_law_seen","_law_room","_law_kind","_law_a","_law_b","_law_c"]
noncomputable abbrev Qx25:List Str:=["_law_script","_law_town","_law_made","_law_seen","_law_room"]
theorem PZ:cQ Nx25 Qx25 (cY (top 42)):=ZQ
theorem zF3(F:XM K "_law_row" "_law_row" (top 42) f fd) (T:Txt K mg) (ap:cJ P w K mg base "_law_draw" 3 JI [1] cE f_x21) (ao:cJ P w K mg base "_law_pick" 4 NU [1] bY f_x22) (cp:cJ P w K mg base "_law_place" 5 Qx24 [1,2] aZ f_x24):
  aP P w K mg base CX0 6 f fd Qx25 (spV K [1,3] 5 XX):=
 VU P w K mg base Nx25 Qx25 5 RS [1,3] F PZ fun _ _ _ _ _ _ hr hu hu1=>by
  refine(dD ?_ (dD ?_ (dD ?_ (dD ?_ (dD ?_ (dD ?_ (dD ?_ (dD ?_ (c8 ?_)))))))))
  ·exact(bJ PZ.nd (Z9 (cX (b8 ap hr (c7 (vv 0) (bK (pv 1) (c7 dC cZ)))))))
  ·exact(bP (TY (T0 (WU hu (vv 2) (bV (aV (cP cW)))) (WV (WU hu (vv 5) dC))))
   (dD (bP (WU hu (b8 ap hr (c7 (vv 0) (bK (pv 1) (c7 dC cZ)))) dC)
   (c8 (cU (bO (dE cS (dE (b8 ao hr (c7 (vv 0) (bK (pv 1) (c7 (bV (aV (cP (dE dC (dE dC (dE dC (dE dC (dE dC (dE (b8 ap hr (c7 (vv 0) (bK (pv 1) (c7 dC cZ)))) cW))))))))) cZ)))) cW)))))
   cN)
   (c8 (cU (bO (dE cS (dE (b8 cp hr (c7 (vv 0) (bK (pv 1) (bK (pv 3) (c7 cS (c7 (vv 4) cZ)))))) cW))))))
   cN)
  ·exact(JE (bV (ZV ["_law_script","_law_town","_law_made","_law_k"] [0,1,2] 1 (W8 (by rfl) T.n_range dC) (fun hn _ _ _ _=>⟨(cM hn),WR,(cX (ZU hu1 (vv 2) (C1 (D6 rfl) zH3 (by rfl) T.n_max zGA dC (YR UE PX (YR UE PX (XW T.n_len (vv 2)) dC) (b8 ap hr (c7 (vv 0) (bK (pv 1) (c7 dC cZ))))))))⟩))) (XV (K:=K) rfl rfl (bZ (cM PZ.nd) (bZ (cM PZ.nd) (bZ (cM PZ.nd) Y4)))))
  ·exact (bP (bT (W2 (K := K) rfl hu) (ZY (neg := false)) (vv 5) (bO (dE dC (dE dC cW))) (by with_unfolding_all rfl))
   (c8 (cU (bO (dE cS (dE (b8 cp hr (c7 (vv 0) (bK (pv 1) (bK (pv 3) (c7 cS (c7 (vv 4) cZ)))))) cW)))))
   cN)
  ·exact(bP (WU hu (vv 5) dC)
   (c8 (cU (bO (dE cS (dE (b8 cp hr (c7 (vv 0) (bK (pv 1) (bK (pv 3) (c7 cS (c7 (vv 4) cZ)))))) (dE (vv 8) (dE (vv 6) cW)))))))
   cN)
  ·exact (bP (bT (W2 (K := K) rfl hu) (ZY (neg := false)) (vv 5) (bO (dE dC (dE dC cW))) (by with_unfolding_all rfl))
   (c8 (cU (bO (dE cS (dE (b8 cp hr (c7 (vv 0) (bK (pv 1) (bK (pv 3) (c7 cS (c7 (vv 4) cZ)))))) (dE (vv 6) cW))))))
   cN)
  ·exact(bP (WU hu (vv 5) dC)
   (c8 (cU (bO (dE cS (dE (b8 cp hr (c7 (vv 0) (bK (pv 1) (bK (pv 3) (c7 cS (c7 (vv 4) cZ)))))) (dE (vv 6) (dE (vv 8) cW)))))))
   cN)
  ·exact(bP (WU hu (vv 5) dC)
   (c8 (cU (bO (dE cS (dE (vv 8) (dE (vv 6) (dE (vv 7) cW)))))))
   cN)
  ·exact(cU (bO (dE (ZU hu1 (bV (aV (cP (dE cS (dE cS (dE cS (dE cS (dE cS (dE cS (dE cS cW)))))))))) (b8 ap hr (c7 (vv 0) (bK (pv 1) (c7 dC cZ))))) (dE (vv 6) (dE (vv 7) cW)))))
noncomputable abbrev Nx27:List Str:=["_law_script","_law_town","_law_rows_here","_law_made","_law_seen","_law_room","_law_last","_law_first","_law_names_here","_law_name","_law_at"]
noncomputable abbrev Qx27:List Str:=["_law_script","_law_town","_law_rows_here","_law_made","_law_seen","_law_room"]
theorem R6:cQ Nx27 Qx27 (cY (top 44)):=ZQ
theorem zF1(F:XM K "_law_next" "_law_next" (top 44) f fd) (T:Txt K mg) (ao:cJ P w K mg base "_law_pick" 4 NU [1] bY f_x22):
  aP P w K mg base CX0 5 f fd Qx27 (spV K [1,4] 6 Z6):=
 VU P w K mg base Nx27 Qx27 4 WI [1,4] F R6 fun _ _ _ _ _ _ hr hu hu1=>by
  refine(dD ?_ (dD ?_ (dD ?_ (dD ?_ (dD ?_ (dD ?_ (c8 ?_)))))))
  ·exact(bJ R6.nd (Z9 (cX (ZU hu1 (vv 2) (SH dC)))))
  ·exact(bJ R6.nd (Z9 (cX (NR (bT (W2 (K:=K) rfl hu) (ZY (neg:=false)) (ZU hu1 (vv 6) dC) (bO (dE cS (dE cS (dE cS (dE cS cW))))) (by with_unfolding_all rfl)) dC dC))))
  ·exact(bJ R6.nd (WC (aV (cP cW))))
  ·exact(WT Dq rfl (WS rfl (cX (Q8 rfl (vv 6) (RA (vv 7)) Q9))) (cM R6.nd)
   (dD (bJ R6.nd (Z9 (cX (ZZ (XI (K:=K) rfl) YT (C4 rfl (vv 3) (vv 9)) (b8 ao hr (c7 (vv 0) (bK (pv 1) (c7 (bV (aV (cP (dE dC (dE dC (dE dC (dE dC (dE (SH dC) (dE dC (dE dC cW)))))))))) cZ))))))))
   (c8 (ZA (K:=K) rfl Bf Bg bM YX (pv 8) (cP (dE (NR (TY (P6 (DC A6 GL s_le s_lt dC (vv 10) (XW T.n_len (vv 3))) (TZ (bT (N6 (K:=K) rfl hu) N8 (ZU hu1 (vv 3) (vv 10)) (YR UE PX (XW T.n_len (vv 2)) dC) (aI _))))) (ZU hu1 (vv 3) (vv 10)) (vv 9)) cW))))))
  ·exact(bP (WU hu (vv 7) dC)
   (c8 (cU (ZZ (XI (K:=K) rfl) YT (Q8 rfl (vv 6) Q9 (RA dC)) (K4 (SZ (K:=K) rfl) SQ (by rfl) T.n_tuple YB (vo 8)))))
   cN)
  ·exact(HE hu1 (pv 4) (ZU hu1 (vv 6) dC) (cX (YR VV Q7 (ZZ (XI (K:=K) rfl) YT (ZU hu1 (vv 6) dC) dC) (vv 5))) rfl)
  ·exact(cU (ZZ (XI (K:=K) rfl) YT (bO (dE (ZU hu1 (vv 6) dC) (dE (ZU hu1 (vo 4) (ZU hu1 (vv 6) dC)) cW))) (K4 (SZ (K:=K) rfl) SQ (by rfl) T.n_tuple YB (vo 8))))
noncomputable abbrev Nx26:List Str:=["_law_script","_law_town","_law_many","_law_room","_law_rows_here","_law_made","_law_seen","_law_again"]
noncomputable abbrev Qx26:List Str:=["_law_script","_law_town","_law_many","_law_room"]
theorem IS:cQ Nx26 Qx26 (cY (top 43)):=ZQ
theorem zF2(F:XM K "_law_rows" "_law_rows" (top 43) f fd) (T:Txt K mg) (ao:cJ P w K mg base "_law_pick" 4 NU [1] bY f_x22) (gu:cJ P w K mg base "_law_row" 6 Qx25 [1,3] XX f_x25) (gp:cJ P w K mg base "_law_next" 5 Qx27 [1,4] Z6 f_x27):
  aP P w K mg base CX0 7 f fd Qx26 (spV K [1] 4 YH):=
 VU P w K mg base Nx26 Qx26 6 T9 [1] F IS fun _ _ _ _ _ _ hr hu hu1=>by
  refine(dD ?_ (dD ?_ (c8 ?_)))
  ·exact(zAK (i:=4) (j:=5) (k:=6) rfl IS.nd rfl rfl rfl (by decide) (by decide) (by decide) rfl rfl rfl (WC (aV (cP cW))) (WC (aV (cP cW))) (WC C8) rfl)
  ·exact(K6 Dq (bT GL s_lt (XW T.n_len (vo 4)) (vv 2) (aI _))
   (dD (ZA (K:=K) rfl Bf Bg bM YX (pv 4) (cP (dE (b8 gu hr (c7 (vv 0) (bK (pv 1) (bK (pv 5) (bK (pv 6) (c7 (vv 3) cZ)))))) cW)))
   (dD (bP (bT (QI (K:=K) rfl hu) (ZY (neg:=true)) (ZU hu1 (ZU hu1 (vo 4) (SH dC)) dC) (bO (dE cS (dE cS cW))) (by with_unfolding_all rfl))
   (c8 (ZA (K:=K) rfl Bf Bg bM YX (pv 5) (cP (dE (YR UE PX (XW T.n_len (vo 4)) dC) cW))))
   cN)
   (c8 (WT Dq rfl (W8 (by rfl) T.n_range (b8 ao hr (c7 (vv 0) (bK (pv 1) (c7 (bV (aV (cP (dE dC (dE dC (dE dC (dE dC (dE dC cW)))))))) cZ))))) (cM IS.nd)
   (c8 (bP (TY (P6 (bT GL s_lt (XW T.n_len (vo 4)) (vv 2) (aI _)) (TZ (bT (N6 (K:=K) rfl hu) N8 (ZU hu1 (ZU hu1 (vo 4) (SH dC)) dC) cS (aI _)))))
   (dD (ZA (K:=K) rfl Bf Bg bM YX (pv 4) (cP (dE (b8 gp hr (c7 (vv 0) (bK (pv 1) (bK (pv 4) (bK (pv 5) (bK (pv 6) (c7 (vv 3) cZ))))))) cW)))
   (c8 (bP (bT (QI (K:=K) rfl hu) (ZY (neg:=true)) (ZU hu1 (ZU hu1 (vo 4) (SH dC)) dC) (bO (dE cS (dE cS cW))) (by with_unfolding_all rfl))
   (c8 (ZA (K:=K) rfl Bf Bg bM YX (pv 5) (cP (dE (YR UE PX (XW T.n_len (vo 4)) dC) cW))))
   cN)))
   cN)))))))
  ·exact(cU (K4 (SZ (K:=K) rfl) SQ (by rfl) T.n_tuple YB (vo 4)))
noncomputable abbrev Nx29:List Str:=["_law_row_here"]
abbrev Qx29:List Str:=["_law_row_here"]
theorem zDK:cQ Nx29 Qx29 (cY (top 46)):=ZQ
theorem zEZ(F:XM K "_law_names" "_law_names" (top 46) f fd) (T:Txt K mg):
  aP P w K mg base CX0 1 f fd Qx29 (spV K [] 1 aK):=
 VU P w K mg base Nx29 Qx29 0 QY [] F zDK fun _ _ _ _ _ _ hr hu hu1=>by
  refine(dD ?_ (c8 ?_))
  ·exact(bP (WU hu (ZU hu1 (vv 0) dC) cS)
   (c8 (cU (bV (aV (cP cW)))))
   cN)
  ·exact(cU (NR (bT (W2 (K:=K) rfl hu) (ZY (neg:=false)) (ZU hu1 (vv 0) dC) (bO (dE cS (dE cS (dE cS (dE cS cW))))) (by with_unfolding_all rfl)) (bV (zC8 (AJ (K:=K) rfl) RX (by rfl) T.RX LJ (K5 (Q8 rfl (vv 0) (RA dC) Q9)))) (bV (zC8 (AJ (K:=K) rfl) RX (by rfl) T.RX LJ (K5 (Q8 rfl (vv 0) (RA dC) Q9))))))
noncomputable abbrev Nx30:List Str:=["_law_block_here","_law_row_here","_law_here"]
abbrev DY:List Str:=["_law_block_here","_law_row_here"]
theorem CF:cQ Nx30 DY (cY (top 47)):=ZQ
theorem zEY(F:XM K "_law_may" "_law_may" (top 47) f fd) (T:Txt K mg):
  aP P w K mg base CX0 1 f fd DY (spV K [] 2 aA):=
 VU P w K mg base Nx30 DY 0 RQ [] F CF fun _ _ _ _ _ _ hr hu hu1=>by
  refine(dD ?_ (dD ?_ (c8 ?_)))
  ·exact(bJ CF.nd (Z9 (cX (ZU hu1 (ZU hu1 (vv 0) dC) (vv 1)))))
  ·exact (bP (bT (W2 (K := K) rfl hu) (ZY (neg := false)) (ZU hu1 (vv 2) dC) (bO (dE cS (dE cS (dE cS (dE cS cW))))) (by with_unfolding_all rfl))
   (c8 (cU (Y2 zCQ s_ge (ZU hu1 (vv 2) dC) (ZU hu1 (vv 0) dC) (aI _))))
   cN)
  ·exact(cU (Y1 (veq hu (ZU hu1 (vv 2) dC) cS) (Y3 (Y2 (QI (K:=K) rfl hu) (ZY (neg:=true)) (Q8 rfl (ZU hu1 (ZU hu1 (vv 0) dC) (ZU hu1 (vv 2) dC)) Q9 (RA dC)) (bV (ZV ["_law_k"] [] 1 (NS (by rfl) T.n_range dC dC) (fun hn _ _ _ _=>⟨(cM hn),WR,(cX (bO (dE cS (dE (vv 0) cW))))⟩))) (by with_unfolding_all rfl)))))
noncomputable abbrev Nx31:List Str:=["_law_block_here","_law_made","_law_cells","_law_two","_law_there","_law_one","_law_here","_law_writes","_law_reasons"]
abbrev DZ:List Str:=["_law_block_here"]
theorem VZ:cQ Nx31 DZ (cY (top 48)):=ZQ
theorem zEX(F:XM K "_law_must" "_law_must" (top 48) f fd) (T:Txt K mg) (gm:cJ P w K mg base "_law_names" 1 Qx29 [] aK f_x29) (bq:cJ P w K mg base "_law_may" 1 DY [] aA f_x30):
  aP P w K mg base CX0 2 f fd DZ (spV K [] 1 Z5):=
 VU P w K mg base Nx31 DZ 1 T7 [] F VZ fun _ _ _ _ _ _ hr hu hu1=>by
  refine(dD ?_ (dD ?_ (c8 ?_)))
  ·exact(HG (i:=1) (j:=2) rfl VZ.nd rfl rfl (by decide) rfl rfl (WC (aV (cP cW))) (Z9 (cX (bO (dE cS (dE cS (dE cS (dE cS cW))))))) rfl)
  ·exact (WT Dq rfl (MH rfl (by rfl) T.n_enumerate (cX (ZU hu1 (vv 0) dC))) (XV (K := K) rfl rfl (bZ (cM VZ.nd) (bZ (cM VZ.nd) Y4)))
   (c8 (WT Dq rfl (MH rfl (by rfl) T.n_enumerate (cX (Q8 rfl (ZU hu1 (vv 0) dC) Q9 (RA (vv 3))))) (XV (K:=K) rfl rfl (bZ (cM VZ.nd) (bZ (cM VZ.nd) Y4)))
   (dD (DA false VZ.nd ["_law_row_here"] [] 1 (WS rfl (cX (bO (dE (vv 6) (dE (vv 4) cW))))) (fun hn _ _ _ _=>⟨(cM hn),(SG (bT (W2 (K:=K) rfl hu) (ZY (neg:=false)) (ZU hu1 (vv 0) dC) (bO (dE cS (dE cS cW))) (by with_unfolding_all rfl))),(vv 0)⟩))
   (dD (bJ VZ.nd (WC (aV (cP (dE (Y2 (W2 (K:=K) rfl hu) (ZY (neg:=false)) (vv 5) (b8 gm hr (c7 (vv 4) cZ)) (by with_unfolding_all rfl)) (dE (Y1 (b8 bq hr (c7 (vv 0) (c7 (vv 5) cZ))) (Y3 (b8 bq hr (c7 (vv 0) (c7 (vv 3) cZ))))) cW))))))
   (dD (ZA (K:=K) rfl Bf Bg bM YX (pv 8) (cP (dE (Y1 (Y2 (W2 (K:=K) rfl hu) (ZY (neg:=false)) (ZU hu1 (vv 6) dC) (vv 2) (by with_unfolding_all rfl)) (Y1 (Y2 (W2 (K:=K) rfl hu) (ZY (neg:=false)) (ZU hu1 (vv 4) dC) (vv 2) (by with_unfolding_all rfl)) (Y1 (veq hu (ZU hu1 (vv 6) dC) (ZU hu1 (vv 4) dC)) (Y3 (Y2 (N6 (K:=K) rfl hu) N8 (vv 7) (bV (aV (cP cW))) (aI _)))))) cW)))
   (dD (ZA (K:=K) rfl Bf Bg bM YX (pv 8) (cP (dE (Y1 (b8 bq hr (c7 (vv 0) (c7 (vv 5) cZ))) (Y3 (Y2 (W2 (K:=K) rfl hu) (ZY (neg:=false)) (ZU hu1 (vv 4) dC) (bO (dE cS (dE cS cW))) (by with_unfolding_all rfl)))) cW)))
   (dD (ZA (K:=K) rfl Bf Bg bM YX (pv 8) (cP (dE (Y1 (b8 bq hr (c7 (vv 0) (c7 (vv 3) cZ))) (Y3 (Y2 (W2 (K:=K) rfl hu) (ZY (neg:=false)) (ZU hu1 (vv 6) dC) (bO (dE cS (dE cS cW))) (by with_unfolding_all rfl)))) cW)))
   (c8 (bP (bT (W2 (K:=K) rfl hu) (ZY (neg:=false)) XU (vo 8) (by with_unfolding_all rfl))
   (c8 (ZA (K:=K) rfl Bf Bg bM YX (pv 1) (cP (dE (bO (dE (vv 5) (dE (vv 3) cW))) cW))))
   cN))))))))))
  ·exact(cU (bV (C7 (zFW (K:=K) rfl) zBL (by rfl) T.n_sorted RH (K5 (vo 1)))))
noncomputable abbrev Nx32:List Str:=["_law_script","_law_town","_law_block_here","_law_pairs","_law_left","_law_made","_law_ready"]
noncomputable abbrev Qx32:List Str:=["_law_script","_law_town","_law_block_here"]
theorem IT:cQ Nx32 Qx32 (cY (top 49)):=ZQ
theorem zEW(F:XM K "_law_mixed_order" "_law_mixed_order" (top 49) f fd) (T:Txt K mg) (ao:cJ P w K mg base "_law_pick" 4 NU [1] bY f_x22) (cu:cJ P w K mg base "_law_must" 2 DZ [] Z5 f_x31):
  aP P w K mg base CX0 5 f fd Qx32 (spV K [1] 3 aW):=
 VU P w K mg base Nx32 Qx32 4 YV [1] F IT fun _ _ _ _ _ _ hr hu hu1=>by
  refine(dD ?_ (dD ?_ (c8 ?_)))
  ·exact(zAI (i:=3) (j:=4) (k:=5) rfl rfl IT.nd rfl rfl rfl (by decide) (by decide) (by decide) (Mw rfl) (Mw rfl) (Mv rfl) (Z9 (cX (b8 cu hr (c7 (vv 2) cZ)))) (WC (FN rfl (by rfl) T.RX LJ (by rfl) T.n_range zAA (XW T.n_len (ZU hu1 (vv 2) dC)))) (WC (aV (cP cW))))
  ·exact(K6 Dq (bT (N6 (K:=K) rfl hu) N8 (vo 4) (bV (aV (cP cW))) (aI _))
   (dD (DB false IT.nd ["_law_pairs","_law_left","_law_row_here"] [3,4] 1 (zD5 rfl (vo 4)) (fun hn _ _ _ _=>⟨(cM hn),(SG (WU hu (bV (ZV ["_law_left","_law_row_here","_law_one","_law_two"] [1,2] 2 (WS rfl (vv 0)) (fun hn _ _ _ _=>⟨(XV (K:=K) rfl rfl (bZ (cM hn) (bZ (cM hn) Y4))),(SG (TY (P6 (WU hu (vv 3) (vv 1)) (TZ (bT (W2 (K:=K) rfl hu) (ZY (neg:=false)) (vv 2) (vo 0) (by with_unfolding_all rfl)))))),dC⟩))) (bV (aV (cP cW))))),(vv 2)⟩))
   (dD (ZA (K:=K) rfl Bf Bg bM YX (pv 5) (cP (dE (b8 ao hr (c7 (vv 0) (bK (pv 1) (c7 (vv 6) cZ)))) cW)))
   (c8 (ZA (K:=K) rfl PySem.F.slot_list_remove PySem.F.type_list_remove EU zFK (pv 4) (cP (dE (ZU hu1 (vo 5) (SH dC)) cW)))))))
  ·exact(zAJ (pv 5))
noncomputable abbrev Nx33:List Str:=["_law_row_here","_law_names_here","_law_first"]
noncomputable abbrev Qx33:List Str:=["_law_row_here","_law_names_here"]
theorem CG:cQ Nx33 Qx33 (cY (top 50)):=ZQ
theorem zEV(F:XM K "_law_renamed" "_law_renamed" (top 50) f fd) (T:Txt K mg):
  aP P w K mg base CX0 1 f fd Qx33 (spV K [] 2 cK):=
 VU P w K mg base Nx33 Qx33 0 a8 [] F CG fun _ _ _ _ _ _ hr hu hu1=>by
  refine(dD ?_ (dD ?_ (c8 ?_)))
  ·exact(bP (WU hu (ZU hu1 (vv 0) dC) cS)
   (c8 (cU (vv 0)))
   cN)
  ·exact(bJ CG.nd (Z9 (cX (NR (bT (W2 (K:=K) rfl hu) (ZY (neg:=false)) (ZU hu1 (vv 0) dC) (bO (dE cS (dE cS (dE cS (dE cS cW))))) (by with_unfolding_all rfl)) dC dC))))
  ·exact(cU (ZZ (XI (K:=K) rfl) YT (Q8 rfl (vv 0) Q9 (RA (vv 2))) (K4 (SZ (K:=K) rfl) SQ (by rfl) T.n_tuple YB (bV (ZV ["_law_names_here","_law_name"] [1] 1 (WS rfl (cX (Q8 rfl (vv 0) (RA (vv 2)) Q9))) (fun hn _ _ _ _=>⟨(cM hn),WR,(cX (ZU hu1 (vv 0) (vv 1)))⟩))))))
noncomputable abbrev Nx28:List Str:=["_law_script","_law_town","_law_most","_law_room","_law_sure","_law_block_here","_law_order_there","_law_names_here"]
noncomputable abbrev Qx28:List Str:=["_law_script","_law_town","_law_most"]
theorem R7:cQ Nx28 Qx28 (cY (top 45)):=ZQ
theorem zF0(F:XM K "_law_block" "_law_block" (top 45) f fd) (T:Txt K mg) (ap:cJ P w K mg base "_law_draw" 3 JI [1] cE f_x21) (ao:cJ P w K mg base "_law_pick" 4 NU [1] bY f_x22) (gq:cJ P w K mg base "_law_rows" 7 Qx26 [1] YH f_x26) (gl:cJ P w K mg base "_law_mixed_order" 5 Qx32 [1] aW f_x32) (gk:cJ P w K mg base "_law_renamed" 1 Qx33 [] cK f_x33):
  aP P w K mg base CX0 8 f fd Qx28 (spV K [1] 3 ZN):=
 VU P w K mg base Nx28 Qx28 7 XH [1] F R7 fun _ _ _ _ _ _ hr hu hu1=>by
  refine(dD ?_ (dD ?_ (dD ?_ (dD ?_ (dD ?_ (dD ?_ (c8 ?_)))))))
  ·exact(bJ R7.nd (Z9 (cX (b8 ao hr (c7 (vv 0) (bK (pv 1) (c7 (bV (aV (cP (dE dC (dE dC (dE dC (dE dC cW))))))) cZ)))))))
  ·exact(bJ R7.nd (Z9 (cX (b8 ao hr (c7 (vv 0) (bK (pv 1) (c7 (bV (aV (cP (dE dC (dE (vv 3) (dE (vv 3) (dE (b8 ap hr (c7 (vv 0) (bK (pv 1) (c7 (cX (ZZ (XI (K:=K) rfl) YT (vv 3) dC)) cZ)))) cW))))))) cZ)))))))
  ·exact(bJ R7.nd (Z9 (cX (bO (dE (vv 4) (dE (b8 gq hr (c7 (vv 0) (bK (pv 1) (c7 (cX (b8 ap hr (c7 (vv 0) (bK (pv 1) (c7 (cX (ZZ (XI (K:=K) rfl) YT (vv 2) dC)) cZ))))) (c7 (vv 3) cZ))))) cW))))))
  ·exact(bP (bT zCP s_gt (b8 ap hr (c7 (vv 0) (bK (pv 1) (c7 dC cZ)))) dC (aI _))
   (c8 (cU (vv 5)))
   cN)
  ·exact(bJ R7.nd (Z9 (cX (b8 gl hr (c7 (vv 0) (bK (pv 1) (c7 (vv 5) cZ)))))))
  ·exact(bJ R7.nd (Z9 (bV (FM rfl rfl (by rfl) T.n_dict zC3 (bV (ZV ["_law_number","_law_row_here"] [] 2 (MH rfl (by rfl) T.n_enumerate (vv 6)) (fun hn _ _ _ _=>⟨(XV (K:=K) rfl rfl (bZ (cM hn) (bZ (cM hn) Y4))),WR,(cX (bO (dE (vv 1) (dE (vv 0) cW))))⟩)))))))
  ·exact(cU (bO (dE (vv 4) (dE (K4 (SZ (K:=K) rfl) SQ (by rfl) T.n_tuple YB (bV (ZV ["_law_block_here","_law_names_here","_law_row_here"] [5,7] 1 (WS rfl (vv 6)) (fun hn _ _ _ _=>⟨(cM hn),WR,(cX (b8 gk hr (c7 (cX (ZU hu1 (ZU hu1 (vv 0) dC) (vv 2))) (c7 (vv 1) cZ))))⟩)))) cW))))
noncomputable abbrev Nx34:List Str:=["_law_script","_law_town","_law_block_here","_law_due","_law_row_here","_law_found","_law_other"]
abbrev Qx34:List Str:=["_law_script"]
theorem UH:cQ Nx34 Qx34 (cY (top 51)):=ZQ
theorem zEU(F:XM K "law" "law" (top 51) f fd) (T:Txt K mg) (i4:cJ P w K mg base "may_fault" 7 Qx16 [] Y6 f_x16) (i3:cJ P w K mg base "must" 6 Qx17 [] RD f_x17) (gy:cJ P w K mg base "ahead" 7 Qx18 [] UR f_x18) (gv:cJ P w K mg base "_law_same_truth" 1 Qx23 [] aB f_x23) (gn:cJ P w K mg base "_law_block" 8 Qx28 [1] ZN f_x28) (bq:cJ P w K mg base "_law_may" 1 DY [] aA f_x30) (cu:cJ P w K mg base "_law_must" 2 DZ [] Z5 f_x31):
  aP P w K mg base CX0 9 f fd Qx34 (spV K [] 1 MK):=
 VU P w K mg base Nx34 Qx34 8 zA1 [] F UH fun _ _ _ _ _ _ hr hu hu1=>by
  refine(dD ?_ (dD ?_ (dD ?_ (dD ?_ (dD ?_ (c8 ?_))))))
  ·exact(bJ UH.nd (WC (aV (cP cW))))
  ·exact(bJ UH.nd (Z9 (cX (b8 gn hr (c7 (vv 0) (bK (pv 1) (c7 dC cZ)))))))
  ·exact(bJ UH.nd (Z9 (cX (b8 cu hr (c7 (vv 2) cZ)))))
  ·exact(bP (bT (N6 (K:=K) rfl hu) N8 (b8 i3 hr (c7 (vv 2) cZ)) (vv 3) (aI _))
   (c8 (cU XU))
   cN)
  ·exact (WT Dq rfl (W8 (by rfl) T.n_range (XW T.n_len (ZU hu1 (vv 2) dC))) (cM UH.nd)
   (dD (bP (XG (ZW (b8 gv hr (c7 (cX (b8 i4 hr (c7 (vv 2) (c7 (vv 4) cZ)))) (c7 (cX (b8 bq hr (c7 (vv 2) (c7 (vv 4) cZ)))) cZ)))))
   (c8 (cU XU))
   cN)
   (dD (bJ UH.nd (WC (aV (cP cW))))
   (dD (WT Dq rfl (C5 (by rfl) T.n_range (by rfl) T.n_reversed (vv 4)) (cM UH.nd)
   (c8 (bP (bT (N6 (K:=K) rfl hu) N8 (bV (ZV ["_law_row_here","_law_found","_law_other","_law_one","_law_two"] [4,5,6] 2 (WS rfl (vv 3)) (fun hn _ _ _ _=>⟨(XV (K:=K) rfl rfl (bZ (cM hn) (bZ (cM hn) Y4))),(SG (TY (P6 (WU hu (vv 3) (vv 2)) (TZ (TY (T0 (WU hu (vv 4) (vv 0)) (WV (bT (W2 (K:=K) rfl hu) (ZY (neg:=false)) (vv 4) (vo 1) (by with_unfolding_all rfl))))))))),(vv 4)⟩))) (bV (aV (cP cW))) (aI _))
   (c8 (ZA (K:=K) rfl Bf Bg bM YX (pv 5) (cP (dE (vv 6) cW))))
   cN)))
   (c8 (bP (bT (N6 (K:=K) rfl hu) N8 (b8 gy hr (c7 (vv 2) (c7 (vv 4) cZ))) (bV (C7 (AK (K:=K) rfl) GD (by rfl) T.n_sorted RH (K5 (vo 5)))) (aI _))
   (c8 (cU XU))
   cN))))))
  ·exact(cU XU)
end
end RR
namespace L2
open PySem
theorem YW(a b:String):Bi a=Bi b↔a=b:=by
 refine⟨fun h=> ?_,fun h=>by rw[h]⟩;rw[Ia,Ia] at h;injection h with h;have h2:a.toList.map Oz=b.toList.map Oz:=by simpa using h
 have h3:a.toList=b.toList:=by
  have inj: ∀(l m:List Char),l.map Oz=m.map Oz->l=m:=by
   intro l;induction l with
   |nil=>intro m h;cases m with
    |nil=>rfl
    |cons=>cases h
   | cons c l ih => intro m h;cases m with
    |nil=>cases h
    |cons e m=>
     simp only[Az,Jr] at h;rw[ih m h.2,Char.toNat_inj.mp h.1]
  exact inj _ _ h2
 exact String.toList_inj.mp h3
theorem FE(a:String):Sj (Bi a)=true:=by
 unfold Sj;rw[Ia];simp only[List.all_toArray,Sh,Io,Iy,decide_eq_true_eq];intro c _;have:=c.valid;rcases this with h|⟨_,h⟩
 ·show c.val.toNat<1114112
  have:c.val.toNat<55296:=h;lia
 ·exact h
def TD(k:Nat)(d:dF):Prop:=d.isD=true/\d.pd.canLay0=true/\d.pd.depth<=k
theorem aM{k:Nat}{i:Int}:TD k (.int i):=⟨rfl,rfl,Cr _⟩
theorem A3{k:Nat}{i:Bool}:TD k (.bl i):=⟨rfl,rfl,Cr _⟩
theorem QN{k:Nat}:TD k .non:=⟨rfl,rfl,Cr _⟩
theorem ZB{k:Nat}{a:String}:TD k (.str (Bi a)):=⟨rfl,by simp[dF.pd,Gf,FE],Cr _⟩
theorem L6{k:Nat}: ∀{ds:List dF},(∀d∈ds,TD k d)->JX ds=true/\Ig (DO ds)=true/\Ey (DO ds)<=k
 |[],_=>⟨rfl,rfl,Cr _⟩
 |d::ds,h=>by
  obtain⟨a1,a2,a3⟩:=h d Au;obtain⟨b1,b2,b3⟩:=L6 fun e he=>h e (Ao _ he);refine⟨by simp[JX,a1,b1],by simp[DO,Ig,a2,b2],?_⟩;simp only[DO,Ey];lia
theorem TF{k:Nat}{ds:List dF}(h: ∀d∈ds,TD k d):TD (k+1) (.tup ds):=by
 obtain⟨a,b,c⟩:=L6 h;exact⟨by simpa[dF.isD] using a,by simpa[dF.pd,Gf] using b,by simp only[dF.pd,Il];lia⟩
theorem Z7{k:Nat}{ds:List dF}(h: ∀d∈ds,TD k d):TD (k+1) (.lst ds):=by
 obtain⟨a,b,c⟩:=L6 h;exact⟨by simpa[dF.isD] using a,by simpa[dF.pd,Gf] using b,by simp only[dF.pd,Il];lia⟩
theorem TD.ok{k:Nat}{d:dF}(h:TD k d)(hk:k<=64:=by decide):NB d=true:=by
 unfold NB Em;simp only[h.1,h.2.1,Le,Ad,decide_eq_true_eq];have:=h.2.2;lia
@[simp] theorem zJE{a:String}:NB (.str (Bi a))=true:=(ZB (k:=0)).ok
theorem ZC{k:Nat}: ∀d∈([]:List dF),TD k d:=fun _ h=>nomatch h
theorem aU{k:Nat}{d:dF}{ds:List dF}(h:TD k d)(t: ∀d∈ds,TD k d): ∀e∈d::ds,TD k e:=fun e he=>by
 rcases Ak.mp he with z|z
 ·rw[z];exact h
 ·exact t e z
@[simp] theorem zA6{i j:Int}:MY (.int i) (.int j)=decide (i=j):=by show(i==j)=_;rw[Ml]
@[simp] theorem zG3{a b:String}:MY (.str (Bi a)) (.str (Bi b))=decide (a=b):=by
 show(Bi a==Bi b)=_;rw[Ml];simp only[YW]
@[simp] theorem zA4:MY (.tup []) (.tup [])=true:=(rfl)
@[simp] theorem zA5{d e:dF}{ds es:List dF}:MY (.tup (d::ds)) (.tup (e::es))=(MY d e && MY (.tup ds) (.tup es)):=(rfl)
@[simp] theorem zLS{i j:Int}:XO (.int i) (.int j)=some (.bl (decide (i=j))):=by unfold XO;simp
@[simp] theorem zLE{i j:Int}:OD (.int i) (.int j)=some (.bl (!decide (i=j))):=by unfold OD;simp
@[simp] theorem zLR{a b:String}:XO (.str (Bi a)) (.str (Bi b))=some (.bl (decide (a=b))):=by unfold XO;simp
@[simp] theorem zLD{a b:String}:OD (.str (Bi a)) (.str (Bi b))=some (.bl (!decide (a=b))):=by unfold OD;simp
theorem GI{j k:Nat}{d e:dF}(h:TD j d)(h':TD k e)(hj:j<=64:=by decide)(hk:k<=64:=by decide):XO d e=some (.bl (MY d e)):=by
 unfold XO;rw[h.ok hj,h'.ok hk];rfl
theorem NA{j k:Nat}{d e:dF}(h:TD j d)(h':TD k e)(hj:j<=64:=by decide)(hk:k<=64:=by decide):OD d e=some (.bl (!MY d e)):=by
 unfold OD;rw[h.ok hj,h'.ok hk];rfl
theorem A1{j k:Nat}{neg:Bool}{d:dF}{ds:List dF}(h:TD j d)(h': ∀e∈ds,TD k e)(hj:j<=64:=by decide)(hk:k+1<=64:=by decide):bI neg d (.tup ds)=some (.bl (if neg then !QZ d ds else QZ d ds)):=by
 unfold bI;simp[h.ok hj,(TF h').ok hk]
theorem PD{j k:Nat}{neg:Bool}{d:dF}{ds:List dF}(h:TD j d)(h': ∀e∈ds,TD k e)(hj:j<=64:=by decide)(hk:k+1<=64:=by decide):bI neg d (.lst ds)=some (.bl (if neg then !QZ d ds else QZ d ds)):=by
 unfold bI;simp[h.ok hj,(Z7 h').ok hk]
@[simp] theorem zNP{d:dF}:QZ d []=false:=(rfl)
@[simp] theorem F4{d e:dF}{ds:List dF}:QZ d (e::ds)=(MY e d || QZ d ds):=(rfl)
@[simp] theorem OW{neg:Bool}{a b c:String}:bI neg (.str (Bi a)) (.tup [.str (Bi b),.str (Bi c)])=some (.bl (if neg then !(decide (b=a) || decide (c=a)) else decide (b=a) || decide (c=a))):=by
 rw[A1 (j:=0) ZB (aU (ZB (k:=0)) (aU ZB ZC))];simp
@[simp] theorem AE{neg:Bool}{a b c d e:String}:bI neg (.str (Bi a)) (.tup [.str (Bi b),.str (Bi c),.str (Bi d),.str (Bi e)])=some (.bl (if neg then !(decide (b=a) || (decide (c=a) || (decide (d=a) || decide (e=a)))) else decide (b=a) || (decide (c=a) || (decide (d=a) || decide (e=a))))):=by
 rw[A1 (j:=0) ZB (aU (ZB (k:=0)) (aU ZB (aU ZB (aU ZB ZC))))];simp
@[simp] theorem zNO{neg:Bool}{a b c:Int}:bI neg (.int a) (.tup [.int b,.int c])=some (.bl (if neg then !(decide (b=a) || decide (c=a)) else decide (b=a) || decide (c=a))):=by
 rw[A1 (j:=0) aM (aU (aM (k:=0)) (aU aM ZC))];simp
theorem JS{k:Nat}{d:dF}(h:TD k d):MY d d=true:=PySem.SeqAt.eqv_refl _ h.2.1
def UM(ns:List Int):dF:= .lst (ns.map .int)
noncomputable def V8(n:Nat):dF:= .lst (Bb n (.int 0))
theorem M4: ∀ns:List Int,JX (ns.map dF.int)=true
 |[]=>rfl
 |n::ns=>by simp[JX,dF.isD,M4 ns]
theorem KG: ∀ns:List Int,DO (ns.map dF.int)=ns.map Op
 |[]=>rfl
 |n::ns=>by simp[DO,dF.pd,KG ns]
theorem A2(ns:List Int):NB (.lst (ns.map .int))=true:=by
 unfold NB;simp only[dF.isD,M4,dF.pd,KG,Le];exact KY ns
theorem X6(ns:List Int):XO (.lst (ns.map .int)) (.lst [])=some (.bl ns.isEmpty):=by
 unfold XO;rw[A2,show NB (.lst [])=true from by decide+kernel];cases ns<;>rfl
theorem M3: ∀n:Nat,VL (Bb n (.int 0))=true
 |0=>rfl
 |n+1=>by simp[List.replicate_succ,VL,dF.hard,M3 n]
@[simp] theorem zI7(n:Nat):VN (V8 n)=true:=M3 n
theorem MT: ∀(ds:List dF) (a b:dF) (r:Int) (s:Sl),∃r' s',YD (gN 3) (aG 2 (xV (f2 GJ (fV 2) (fC (.int 1000003))))) ds [.va a,.va b,.va (.int r),s]=some (.nx [.va a,.va b,.va (.int r'),s'])
 |[],a,b,r,s=>⟨r,s,rfl⟩
 |d::ds,a,b,r,s=>by
  obtain⟨r',s',h⟩:=MT ds a b (r/1000003) (.va d);exact⟨r',s',by simp[cDiv,h]⟩
theorem QH{ns:List Int}{i:Int}(h0:0<=i)(h1:i<ns.length): ∃r∈ns,V4 (ns.map dF.int) i=some (.int r):=by
 obtain⟨x,hx,e⟩:=HM (xs:=ns.map dF.int) h0 (by simpa using h1);obtain⟨r,hr,rfl⟩:=Be.mp hx;exact⟨r,hr,e⟩
theorem zC1(ns:List Int)(k:Nat)(hl:ns.length<=63)(hk:k<1000000): ∃r,aS [UM ns,.int k]=some (.int r,[]):=by
 unfold aS;rw[cH];unfold XD V9 UM;by_cases h:(k:Int)<ns.length
 ·obtain ⟨r,_,e⟩ := QH (ns := ns) (i := k) (by lia) h
  exact⟨r,by simp[cF,h,e]⟩
 ·cases ns with
  |nil=>
   have h0: ¬((k:Int)<0):=by lia
   have e:XO (.lst []) (.lst [])=some (.bl true):=X6 [];exact⟨0,by simp[cF,h0,e]⟩
  |cons m ms=>
   generalize hns:m::ms=ns at*;have dm:(0:Int)<ns.length:=by rw[<- hns];simp
   have hb:=Hv (k:Int) (show(ns.length:Int)≠0 by lia);have hb2:=Eo (k:Int) dm;obtain⟨r,_,e⟩:=QH (ns:=ns) hb hb2;have he:ns.isEmpty=false:=by rw[<- hns];rfl
   have hq:0<=(k:Int)/ns.length:=Int.ediv_nonneg (by lia) (by lia);have hm: -4611686018427387904<=(if(60:Int)<(k:Int)/ns.length then 60 else(k:Int)/ns.length)/\(if(60:Int)<(k:Int)/ns.length then 60 else(k:Int)/ns.length)<4611686018427387904:=by split<;>lia
   obtain⟨r',s',e2⟩:=MT (bD 0 (if(60:Int)<(k:Int)/ns.length then 60 else(k:Int)/ns.length).toNat) (.lst (ns.map .int)) (.int k) r .no;have hp2:0<ns.length:=by lia
   have hp3:(ns.length:Int)<1073741824:=by lia
   exact⟨r*31+k+r'*101,by simp[cF,h,X6,he,dm,hp2,hp3,e,cDiv,hm,e2,cMul]⟩
noncomputable def cel(ns:List Int)(k:Nat):Int:=match aS [UM ns,.int k] with
 |some (.int r,_)=>r
 |_=>0
theorem zG6(ns:List Int)(k:Nat)(hl:ns.length<=63)(hk:k<1000000):aS [UM ns,.int k]=some (.int (cel ns k),[]):=by
 obtain⟨r,e⟩:=zC1 ns k hl hk;unfold cel;rw[e]
noncomputable def LB(ns:List Int)(n:Nat)(b:Int):Int:=((cel ns (n+1)*1103515245+7919*(((n+1:Nat)):Int)+12345) % 2147483647) ^ 5 % 2147483647 % 999983 % b
theorem OK(ns:List Int)(n:Nat){b:Int}(h:0<b):0<=LB ns n b:=Hv _ (by lia)
theorem F1(ns:List Int)(n:Nat){b:Int}(h:0<b):LB ns n b<b:=Eo _ h
theorem zFL(ns:List Int)(n:Nat)(b:Int)(hl:ns.length<=63)(hn:n<900000)(hb:0<b):Y5 [UM ns,.int ((n+1:Nat):Int),.int b]=some (.int (LB ns n b),[]):=by
 have e:=zG6 ns (n+1) hl (by lia);unfold Y5;rw[cH];unfold VD LB;have e1:=Hv (cel ns (n+1)*1103515245+7919*((n+1:Nat):Int)+12345) (show(2147483647:Int)≠0 by decide);have e2:=Eo (cel ns (n+1)*1103515245+7919*((n+1:Nat):Int)+12345) (show(0:Int)<2147483647 by decide);generalize hz:(cel ns (n+1)*1103515245+7919*((n+1:Nat):Int)+12345) % 2147483647=z at*;have hz2:z.natAbs<18446744073709551616:=by lia
 generalize hk:((n+1:Nat):Int)=k at*;simp[cF,e,cMul,cPow,hz,hz2,hb]
theorem X3(ns:List Int)(n:Nat)(b:Int)(hl:ns.length<=63)(hn:n<900000)(hb:0<b):cE [UM ns,V8 n,.int b]=some (.int (LB ns n b),[V8 (n+1)]):=by
 have e:=zFL ns n b hl hn hb;unfold cE;rw[cH];unfold T6;have ht:V8 n= .lst (Bb n (.int 0)):=rfl;have ht2:V8 (n+1)= .lst (Bb n (.int 0)++[.int 0]):=by unfold V8;rw[List.replicate_succ']
 rw[ht2,ht];have hs:n<16777216:=by lia
 push_cast at e
 simp[cF,hs,e]
theorem WO(ns:List Int)(n:Nat)(xs:List dF)(hl:ns.length<=63)(hn:n<900000)(hx:0<xs.length): ∃x∈xs,bY [UM ns,V8 n,.lst xs]=some (x,[V8 (n+1)]):=by
 have hx':(0:Int)<xs.length:=by lia
 obtain⟨x,hm,e⟩:=HM (xs:=xs) (OK ns n hx') (F1 ns n hx');refine⟨x,hm,?_⟩;unfold bY;rw[cH];unfold T8;simp[cF,X3 ns n _ hl hn hx',e]
theorem F0(ns:List Int)(n:Nat)(b:Int)(hl:ns.length<=63)(hn:n<900000)(hb:0<b)(tl:Ev):cV 3 [1] cE (aE (fV 0) (aO 1 (aE (fC (.int b)) cG))) (.va (UM ns):: .ow (V8 n)::tl)=some (.int (LB ns n b),.va (UM ns):: .ow (V8 (n+1))::tl):=by simp[X3 ns n b hl hn hb]
abbrev Sn(m:Nat)(d:dF):Prop:= ∃(ks:List a0) (vs:List Int),d= .dct ks (vs.map .int)/\ks.length=vs.length/\ks.Nodup/\ks.length<=m
abbrev OH(n:Nat)(d:dF):Prop:=Sn (8*n) d
theorem OH.mono{n m:Nat}{d:dF}(h:OH n d)(hn:n<=m):OH m d:=by
 obtain⟨ks,vs,h1,h2,h3,h4⟩:=h;exact⟨ks,vs,h1,h2,h3,by lia⟩
theorem zCT: ∀(ks:List a0) (vs:List Int) (k:a0) (q:Int),∃r,(bQ ks (vs.map .int) k).getD (.int q)= .int r
 |[],_,_,q=>⟨q,by simp[bQ]⟩
 |_::_,[],_,q=>⟨q,by simp[bQ]⟩
 | k' :: ks,v :: vs,k,q => by
  by_cases h:k'=k
  ·exact⟨v,by simp[bQ,h]⟩
  ·obtain⟨r,e⟩:=zCT ks vs k q
   exact⟨r,by simp only[Az,bQ,if_neg h];exact e⟩
theorem putI: ∀(ks:List a0) (vs:List Int) (k:a0) (p:Int),ks.length=vs.length->ks.Nodup-> ∃(ks':List a0) (vs':List Int),YY ks (vs.map .int) k (.int p)=(ks',vs'.map .int)/\ks'.length=vs'.length/\ks'.Nodup/\ks'.length<=ks.length+1/\(∀z∈ks',z=k∨z∈ks)/\bQ ks' (vs'.map .int) k=some (.int p)
 |[],[],k,p,_,_=>⟨[k],[p],by simp[YY],rfl,by simp,by simp,by simp,by simp[bQ]⟩
 | k' :: ks,v :: vs,k,p,hl,hn => by
  by_cases h:k'=k
  ·subst h
   exact⟨k'::ks,p::vs,by simp[YY],by simpa using hl,hn,by simp,by simp,by simp[bQ]⟩
  ·obtain ⟨ks',vs',e,h1,h2,h3,h4,h5⟩ := putI ks vs k p (by simpa using hl) (Cv.mp hn).2
   refine⟨k'::ks',v::vs',by simp only[Az,YY,if_neg h,e],by simp[h1],?_,by simp;lia,?_,by simp only[Az,bQ,if_neg h];exact h5⟩
   ·refine Cv.mpr ⟨fun z => ?_,h2⟩
    rcases h4 _ z with y|y
    ·exact h y
    ·exact(Cv.mp hn).1 y
   ·intro z hz
    rcases Ak.mp hz with y|y
    ·exact .inr (by rw[y];exact Au)
    ·exact(h4 z y).imp id (Ao _)
theorem KH(ns:List Int)(n:Nat)(sn:dF)(x:Str)(ab:Int)(hl:ns.length<=63)(hn:n<800000)(hs:OH n sn)(hr:0<ab):
  ∃p sn',0<=p/\p<ab/\OH (n+2) sn'/\aZ [UM ns,V8 n,sn,.str x,.int ab]=some (.int p,[V8 (n+2),sn']):=by
 obtain⟨ks,vs,rfl,h1,h2,h3⟩:=hs;obtain⟨a,ha⟩:=zCT ks vs (.inr x) (LB ns n ab);obtain⟨y,hy,ey⟩:=WO ns (n+1) [.int 1,.int 1,.int 1,.int 0,.int 3] hl (by lia) (by simp);obtain⟨b,rfl⟩: ∃b,y= .int b:=by
  simp only[Ak,Ba,or_false] at hy;rcases hy with h|h|h|h|h<;>exact⟨_,h⟩
 obtain⟨ks',vs',e,h4,h5,h6,h7,h8⟩:=putI ks vs (.inr x) ((a+b) % ab) h1 h2;refine⟨(a+b) % ab,.dct ks' (vs'.map .int),Hv _ (by lia),Eo _ hr,⟨ks',vs',rfl,h4,h5,by lia⟩,?_⟩;have hk:ks.length<16777216:=by lia
 unfold aZ;rw[cH];unfold VE;simp[cF,X3 ns n ab hl (by lia) hr,ha,ey,hr,hk,h2,e,h8]
inductive aT(M:Int->Prop):dF->Prop
 |number {n:Int}:0<=n->n<=999->aT M (.tup [.str "number",.int n])
 |two {x:String} {a b:Int}:x∈["over","plus","minus","times","least","most","less"]->M a->M b->aT M (.tup [.str x,.int a,.int b])
 |pick {c a b:Int}:M c->M a->M b->aT M (.tup [.str "pick",.int c,.int a,.int b])
 |load {p:Int}:0<=p->p<=63->aT M (.tup [.str "load",.int p])
 |take {p c a:Int}:0<=p->p<=63->M c->M a->aT M (.tup [.str "take",.int p,.int c,.int a])
 |store {p a:Int}:0<=p->p<=63->M a->aT M (.tup [.str "store",.int p,.int a])
 |put {p a c:Int}:0<=p->p<=63->M a->M c->aT M (.tup [.str "put",.int p,.int a,.int c])
theorem CS(ns:List Int)(n:Nat)(made:List Int)(hl:ns.length<=63)(hn:n<800000)(hm:0<made.length)(s:Sl): ∃a b c,a∈made/\b∈made/\c∈made∧
  aQ 3 1 (gN 3) V5 (f2 cI (fV 2) (f2 oMax (fC (.int 0)) (f2 N7 (f2 N7 (f1 Y8 (fV 2)) (fC (.int 1))) (cV 3 [1] cE (aE (fV 0) (aO 1 (aE (fC (.int 6)) cG))))))) [.int 0,.int 1,.int 2] [] [.va (UM ns),.ow (V8 n),.va (.lst (made.map .int))]=
   some ([.int a,.int b,.int c],[.va (UM ns),.ow (V8 (n+3)),.va (.lst (made.map .int))]):=by
 have one: ∀m,∃a∈made,V4 (made.map dF.int) (if(made.length:Int) - 1 - LB ns m 6>0 then(made.length:Int) - 1 - LB ns m 6 else 0)=some (.int a):=fun m=>by
  have:=OK ns m (b:=6) (by decide);exact QH (by split<;>lia) (by split<;>lia)
 obtain⟨a,ha,ea⟩:=one n;obtain⟨b,hb,eb⟩:=one (n+1);obtain⟨c,hc,ec⟩:=one (n+2);refine⟨a,b,c,ha,hb,hc,?_⟩;have d0:=X3 ns n 6 hl (by lia) (by decide);have d1:=X3 ns (n+1) 6 hl (by lia) (by decide);have d2:=X3 ns (n+2) 6 hl (by lia) (by decide);simp only[gt_iff_lt,Int.sub_pos] at ea eb ec;simp[d0,d1,d2,ea,eb,ec]
def JG(x:String):Prop:=x= "load" ∨x= "take" ∨x= "store" ∨x= "put"
def PlOK(ab:Int)(row:dF):Prop:= ∀(x:String) (p:Int) (t:List dF),row= .tup (.str x:: .int p::t)->JG x->p<ab
theorem TK{ab p:Int}{x:String}{t:List dF}(h:p<ab):PlOK ab (.tup (.str x:: .int p::t)):=fun y q u e _=>by
 simp only[dF.tup.injEq,Jr,dF.int.injEq] at e;lia
theorem IF{ab:Int}{x:String}{t:List dF}(h: ¬JG x):PlOK ab (.tup (.str x::t)):=fun y q u e hy=>by
 simp only[dF.tup.injEq,Jr,dF.str.injEq,YW] at e;rw[<- e.1] at hy;exact absurd hy h
theorem HC{x:String}(hx:x∈["over","plus","minus","times","least","most","less"]): ¬JG x:=fun h=>by
 simp only[Ak,Ba,or_false] at hx;rcases hx with rfl|rfl|rfl|rfl|rfl|rfl|rfl<;>rcases h with h|h|h|h<;>exact absurd h (by decide)
theorem zE0(ns:List Int)(n:Nat)(made:List Int)(sn:dF)(ab:Int)(hl:ns.length<=63)(hn:n<700000)(hs:OH n sn)(hr:0<ab)(hr2:ab<=64):
    ∃row n' sn',n<=n'/\n'<=n+10/\OH n' sn'/\aT (· ∈made) row/\PlOK ab row/\XX [UM ns,V8 n,.lst (made.map .int),sn,.int ab]=some (row,[V8 n',sn']):=by
  have d0:=F0 ns n 13 hl (by lia) (by decide);have k0:=OK ns n (b:=13) (by decide);have k1:=F1 ns n (b:=13) (by decide);generalize LB ns n 13=kd at*;unfold XX;rw[cH];unfold RS;by_cases h0:made.isEmpty=true∨kd=0
  · have d1 := F0 ns (n + 1) 2 hl (by lia) (by decide)
    have hor:made.isEmpty=true∨(made.isEmpty=false/\kd=0):=by
      cases hm:made.isEmpty with
      |true=>exact .inl rfl
      | false => rcases h0 with h | h
                 · rw[hm] at h;cases h
                 · exact .inr ⟨rfl,h⟩
    by_cases h2:LB ns (n+1) 2=0
    · have d2 := F0 ns (n + 2) 1000 hl (by lia) (by decide)
      obtain⟨y,hy,ey⟩:=WO ns (n+3) [.int 0,.int 1,.int 2,.int 5,.int 999,.int (LB ns (n+2) 1000)] hl (by lia) (by simp);obtain⟨b,rfl,hb0,hb1⟩: ∃b,y= .int b/\0<=b/\b<=999:=by
        have:=OK ns (n+2) (b:=1000) (by decide);have:=F1 ns (n+2) (b:=1000) (by decide);simp only[Ak,Ba,or_false] at hy;rcases hy with h|h|h|h|h|h<;>exact⟨_,h,by lia,by lia⟩
      refine⟨.tup [.str "number",.int b],n+4,sn,by lia,by lia,hs.mono (by lia),.number hb0 hb1,IF (by unfold JG;decide),?_⟩;rcases hor with h|⟨h,h'⟩
      · simp[cF,↓d0,X6,h,↓d1,h2,↓d2,ey]
      · simp[cF,↓d0,X6,h,h',↓d1,h2,↓d2,ey]
    · obtain ⟨p,sn',p0,p1,hs',ep⟩ := KH ns (n + 2) sn "load" ab hl (by lia) (hs.mono (by lia)) hr
      refine⟨.tup [.str "load",.int p],n+4,sn',by lia,by lia,hs',.load p0 (by lia),TK p1,?_⟩;rcases hor with h|⟨h,h'⟩
      · simp[cF,↓d0,X6,h,↓d1,h2,ep]
      · simp[cF,↓d0,X6,h,h',↓d1,h2,ep]
  · obtain⟨hm,hkd⟩:=not_or.mp h0
    have hm':made.isEmpty=false:=by simpa using hm
    have dm:0<made.length:=by
      cases made with
      |nil=>cases hm'
      |cons=>simp
    obtain⟨a,b,c,ha,hb,hc,e3⟩:=CS ns (n+1) made hl (by lia) dm .no;have lr:(kd=1∨kd=2)∨kd=3∨(kd=4∨kd=5)∨kd=6∨kd=7∨(8<=kd/\kd<=12):=by lia
    have pl: ∀x:Str,∃p sn',0<=p/\p<=63/\p<ab/\OH (n+6) sn'/\ ∀s tl,cV 5 [1,2] aZ (aE (fV 0) (aO 1 (aO 3 (aE (fC (.str x)) (aE (fV 4) cG))))) (.va (UM ns):: .ow (V8 (n+4))::s:: .ow sn:: .va (.int ab)::tl)=some (.int p,.va (UM ns):: .ow (V8 (n+6))::s:: .ow sn':: .va (.int ab)::tl):=fun x=>by
      obtain⟨p,sn',p0,p1,hs',ep⟩:=KH ns (n+4) sn x ab hl (by lia) (hs.mono (by lia)) hr;exact⟨p,sn',p0,by lia,p1,hs',fun s tl=>by simp[ep]⟩
    rcases lr with h|h|h|h|h|h
    · have t12 : (decide (1 = kd) || decide (2 = kd)) = true := by rcases h with rfl | rfl <;> decide
      obtain⟨p,sn',p0,p1,p2,hs',ep⟩:=pl "load";exact⟨.tup [.str "load",.int p],n+6,sn',by lia,by lia,hs',.load p0 p1,TK p2,by simp[cF,↓d0,X6,hm',hkd,cC,e3,↓ep,t12]⟩
    · subst h
      obtain⟨p,sn',p0,p1,p2,hs',ep⟩:=pl "take";exact⟨.tup [.str "take",.int p,.int c,.int a],n+6,sn',by lia,by lia,hs',.take p0 p1 hc ha,TK p2,by simp[cF,↓d0,X6,hm',cC,e3,↓ep]⟩
    · have t45 : (decide (4 = kd) || decide (5 = kd)) = true := by rcases h with rfl | rfl <;> decide
      have n3: ¬kd=3:=by lia
      have m1: ¬1=kd:=by lia
      have m2: ¬2=kd:=by lia
      obtain⟨p,sn',p0,p1,p2,hs',ep⟩:=pl "store";exact⟨.tup [.str "store",.int p,.int a],n+6,sn',by lia,by lia,hs',.store p0 p1 ha,TK p2,by simp[cF,↓d0,X6,hm',hkd,cC,e3,↓ep,n3,m1,m2,t45]⟩
    · subst h
      obtain⟨p,sn',p0,p1,p2,hs',ep⟩:=pl "put";exact⟨.tup [.str "put",.int p,.int a,.int c],n+6,sn',by lia,by lia,hs',.put p0 p1 ha hc,TK p2,by simp[cF,↓d0,X6,hm',cC,e3,↓ep]⟩
    · subst h
      exact⟨.tup [.str "pick",.int c,.int a,.int b],n+4,sn,by lia,by lia,hs.mono (by lia),.pick hc ha hb,IF (by unfold JG;decide),by simp[cF,↓d0,X6,hm',cC,e3]⟩
    · have d4 := F0 ns (n + 4) 7 hl (by lia) (by decide)
      have q0:=OK ns (n+4) (b:=7) (by decide);have q1:=F1 ns (n+4) (b:=7) (by decide);obtain⟨y,hy,ey⟩:=HM (xs:=["over","plus","minus","times","least","most","less"].map fun s:String=>dF.str (Bi s)) q0 (by simpa using q1);obtain⟨x,hx,rfl⟩:=Be.mp hy;simp only[Az,Eg] at ey;have n1: ¬kd=1:=by lia
      have n2: ¬kd=2:=by lia
      have n3: ¬kd=3:=by lia
      have n4: ¬kd=4:=by lia
      have n5: ¬kd=5:=by lia
      have n6: ¬kd=6:=by lia
      have n7: ¬kd=7:=by lia
      have m1: ¬1=kd:=by lia
      have m2: ¬2=kd:=by lia
      have m4: ¬4=kd:=by lia
      have m5: ¬5=kd:=by lia
      exact⟨.tup [.str x,.int a,.int b],n+5,sn,by lia,by lia,hs.mono (by lia),.two hx ha hb,IF (HC hx),by simp[cF,↓d0,X6,hm',hkd,cC,e3,n3,n6,n7,m1,m2,m4,m5,↓d4,ey]⟩
inductive Kd where
 |w|p|n
 deriving DecidableEq
def Nm(kds:List Kd)(k:Kd)(a:Int):Prop:=0<=a/\kds[a.toNat]? =some k
theorem Nm.lt{kds:List Kd}{k:Kd}{a:Int}(h:Nm kds k a):a<kds.length:=by
 have:=(Ae.mp h.2).1;have:=h.1;lia
theorem Nm.snoc{kds:List Kd}{k j:Kd}{a:Int}(h:Nm kds k a):Nm (kds++[j]) k a:=⟨h.1,by rw[Ai (Ae.mp h.2).1];exact h.2⟩
theorem Nm.new{kds:List Kd}{k:Kd}:Nm (kds++[k]) k kds.length:=⟨by lia,by simp⟩
noncomputable def QL(k:Kd):dF->Kd
 | .tup (.str x::_)=>if x= "store" ∨x= "put" then .n else k
 |_=> .n
theorem aT.imp{M M':Int->Prop}{row:dF}(h:aT M row)(f: ∀a,M a->M' a):aT M' row:=by
 cases h with
 |number a b=>exact .number a b
 |two a b c=>exact .two a (f _ b) (f _ c)
 |pick a b c=>exact .pick (f _ a) (f _ b) (f _ c)
 |load a b=>exact .load a b
 |take a b c d=>exact .take a b (f _ c) (f _ d)
 |store a b c=>exact .store a b (f _ c)
 |put a b c d=>exact .put a b (f _ c) (f _ d)
theorem aT.hard{M:Int->Prop}{row:dF}(h:aT M row):row.hard=true:=by
 cases h<;>simp[dF.hard,VL]
@[simp] theorem zLC{i:Int}:KC (.int i)=some (.int (-i)):=(rfl)
theorem UU{ds:List dF}{k:Nat}(h:k<=ds.length):WZ ds (some (k:Int)) none=ds.drop k:=by
 unfold WZ;rw[HT.G8,HT.KR,Jq h,Cf (by simp)]
theorem SU{ds:List dF}{k:Nat}:WZ ds none (some (k:Int))=ds.take k:=by
 unfold WZ;rw[HT.G8,HT.KR];simp only[My,Nat.sub_zero];by_cases h:k<=ds.length
 ·rw[Jq h]
 ·rw[Nat.min_eq_right (by lia),Cf (by lia),Cf (by lia)]
@[simp] theorem zMC{d:dF}{ds:List dF}:WZ (d::ds) (some 1) none=ds:=UU (k:=1) (by simp)
@[simp] theorem zMB{d e:dF}{ds:List dF}:WZ (d::e::ds) (some 2) none=ds:=UU (k:=2) (by simp)
@[simp] theorem zJV{ds:List dF}:WZ ds none (some 2)=ds.take 2:=SU (k:=2)
@[simp] theorem zJW{ds:List dF}:WZ ds none (some 1)=ds.take 1:=SU (k:=1)
@[simp] theorem zK2{α:Type}{xs:List α}{x:α}:V4 (xs++[x]) (-1)=some x:=by
 unfold V4 ixN;rw[if_neg (by decide),if_pos (by simp;lia)];have e:(-1+((xs++[x]).length:Int)).toNat=xs.length:=by simp;lia
 show(xs++[x])[(-1+((xs++[x]).length:Int)).toNat]? =some x;rw[e];simp
@[simp] theorem zNZ{α:Type}{x:α}{xs:List α}:V4 (x::xs) 0=some x:=by rw[XT (by decide) (by simp)];rfl
@[simp] theorem zNY{α:Type}{x y:α}{xs:List α}:V4 (x::y::xs) 1=some y:=by rw[XT (by decide) (by simp;lia)];rfl
@[simp] theorem zNX{α:Type}{x y z:α}{xs:List α}:V4 (x::y::z::xs) 2=some z:=by rw[XT (by decide) (by simp;lia)];rfl
theorem zI4{k:Kd}{x:String}{t:List dF}(hx:x∉["store","put"]):QL k (.tup (.str x::t))=k:=by
 simp only[Ak,Ba,or_false,not_or] at hx;simp[QL,YW,hx]
theorem zI3{k:Kd}{x:String}{t:List dF}(hx:x= "store" ∨x= "put"):QL k (.tup (.str x::t))= .n:=by
 rcases hx with rfl|rfl<;>simp[QL,YW]
theorem TM{M:Int->Prop}{row:dF}(h:aT M row): ∃(x:String) (t:List dF),row= .tup (.str x::t)/\x∉["wide","gather","shuffle"]:=by
 cases h with
 |two hx _ _=>
  simp only[Ak,Ba,or_false] at hx;rcases hx with rfl|rfl|rfl|rfl|rfl|rfl|rfl<;>exact⟨_,_,rfl,by decide⟩
 |_=>exact⟨_,_,rfl,by decide⟩
@[simp] theorem zGJ(n lo hi:Int):bA [.int n,.int lo,.int hi]=some (.bl (decide (lo<=n) && decide (n<=hi)),[]):=by
 unfold bA;rw[cH];unfold T5;simp[cF];by_cases h:lo<=n<;>simp[h]
theorem EY{x:String}(h:x∈["over","plus","minus","times","least","most","less"]):bB [.str x]=some (.tup [.str "row",.str "row"],[]):=by
 simp only[Ak,Ba,or_false] at h;rcases h with rfl|rfl|rfl|rfl|rfl|rfl|rfl<;>kernel_rfl
@[simp] theorem zJD:bB [.str "number"]=some (.tup [.str "word"],[]):=by kernel_rfl
@[simp] theorem zJC:bB [.str "pick"]=some (.tup [.str "row",.str "row",.str "row"],[]):=by kernel_rfl
@[simp] theorem zJB:bB [.str "load"]=some (.tup [.str "place"],[]):=by kernel_rfl
@[simp] theorem zJA:bB [.str "take"]=some (.tup [.str "place",.str "row",.str "row"],[]):=by kernel_rfl
@[simp] theorem zJ9:bB [.str "store"]=some (.tup [.str "place",.str "row"],[]):=by kernel_rfl
@[simp] theorem zJ8:bB [.str "put"]=some (.tup [.str "place",.str "row",.str "row"],[]):=by kernel_rfl
def Ab(able:List Bool)(a:Int):Prop:=0<=a/\able[a.toNat]? =some true
theorem zFN{able:List Bool}{a:Int}(h:Ab able a):YI [.int a,.lst (able.map .bl)]=some (.bl true,[]):=by
 have hlt:=(Ae.mp h.2).1;have h0:=h.1;have h1:a<=(able.length:Int) - 1:=by lia
 have h2:V4 (able.map dF.bl) a=some (.bl true):=by
  rw[XT h0 (by simp;lia)];simp[h.2]
 unfold YI;rw[cH];unfold UA;simp[cF,h0,h1,h2]
theorem ZE{able:List Bool}{a:Int}(h:Ab able a):XB [.str "row",.int a,.lst (able.map .bl)]=some (.bl true,[]):=by
 unfold XB;rw[cH];unfold OP;simp[cF,zFN h]
theorem EI{d:dF}{a:Int}(h:0<=a)(h':a<=999):XB [.str "word",.int a,d]=some (.bl true,[]):=by
 unfold XB;rw[cH];unfold OP;simp[cF,U7,h,h']
theorem WG{d:dF}{a:Int}(h:0<=a)(h':a<=63):XB [.str "place",.int a,d]=some (.bl true,[]):=by
 unfold XB;rw[cH];unfold OP;simp[cF,WD,h,h']
@[simp] theorem zMD:SN []=some []:=(rfl)
@[simp] theorem zME{b:Bool}{ds:List dF}:SN (.bl b::ds)=(SN ds).map fun ks=>b::ks:=(rfl)
@[simp] theorem GG{g:List Bool->Bool}{ds:List dF}:GF g (.lst ds)=(SN ds).map fun ks=> .bl (g ks):=(rfl)
@[simp] theorem zJ1{ds:List dF}:UP ds []=[]:=by cases ds<;>rfl
@[simp] theorem zK9{d e:dF}{ds es:List dF}:UP (d::ds) (e::es)= .tup [d,e]::UP ds es:=(rfl)
theorem AI{able:List Bool}{row:dF}(h:aT (Ab able) row):WW [row,.lst (able.map .bl)]=some (.bl true,[]):=by
 unfold WW;rw[cH];unfold OQ;cases h with
 |number a b=>simp[cF,cC,EI a b]
 |two hx a b=>simp[cF,cC,EY hx,ZE a,ZE b]
 |pick a b c=>simp[cF,cC,ZE a,ZE b,ZE c]
 |load a b=>simp[cF,cC,WG a b]
 |take a b c d=>simp[cF,cC,WG a b,ZE c,ZE d]
 |store a b c=>simp[cF,cC,WG a b,ZE c]
 |put a b c d=>simp[cF,cC,WG a b,ZE c,ZE d]
theorem SS(nn:Nat)(fe:VF)(δ:Ev)(f:dF->dF)(hδ:δ.length=nn): ∀(ds acc:List dF),(∀d∈ds,fe (δ++[Sl.va d])=some (f d,δ++[Sl.va d]))->acc.length+ds.length<16777216->aQ nn 1 (gN nn) V5 fe ds acc δ=some (acc++ds.map f,δ)
 |[],acc,_,_=>by simp
 | d :: ds,acc,h,hl => by
  have cx:(δ++[Sl.no]).set nn (.va d)=δ++[Sl.va d]:=by
   rw[Fj _ _ (by lia)];simp[hδ]
  have ay:(δ++[Sl.va d]).take nn=δ:=by rw[Cw (by lia),Cf (by lia)]
  have au:acc.length<16777216:=by simp at hl;lia
  have ih:=SS nn fe δ f hδ ds (acc++[f d]) (fun e he=>h e (Ao _ he)) (by simp at hl⊢;lia);simp only[SR,AX,N4,cx,KL,zAC,BR,h d Au,BS,if_pos au,ay,ih];simp
theorem B6(k:Nat):(bD 0 k).length=k:=by simp[bD]
theorem J1: ∀(ks:List a0) (ws:List dF) (i:Nat) (k:a0),ks.Nodup->ks.length=ws.length->ks[i]? =some k->bQ ks ws k=ws[i]?
 |[],_,i,k,_,_,e=>by simp at e
 |k'::ks,[],i,k,_,hl,_=>by simp at hl
 |k'::ks,w::ws,0,k,_,_,e=>by simp at e;simp[bQ,e]
 |k'::ks,w::ws,i+1,k,nd,hl,e=>by
  have e':ks[i]? =some k:=by simpa using e
  have hne: ¬k'=k:=fun z=>(Cv.mp nd).1 (by rw[z];exact Dc e');have:=J1 ks ws i k (Cv.mp nd).2 (by simpa using hl) e';simp[bQ,hne,this]
noncomputable def cnt:dF->Nat
 | .tup (.str x::_)=>if x= "number" ∨x= "load" then 0 else if x= "store" then 1 else if x= "pick" then 3 else 2
 |_=>0
theorem dne{x:String}(hx:x∈["over","plus","minus","times","least","most","less"]) {y:String} (hy:(["over","plus","minus","times","least","most","less"].contains y)=false):(¬x=y)/\¬y=x:=by
 have h: ¬x=y:=fun e=>by
  subst e;rw[List.contains_iff_mem.mpr hx] at hy;cases hy
 exact⟨h,fun e=>h e.symm⟩
theorem PB{M:Int->Prop}{row:dF}(h:aT M row): ∃as:List Int,(∀a∈as,M a)/\as.length=cnt row/\aK [row]=some (.lst (as.map .int),[])/\YJ [row]=some (.lst (as.map .int),[]):=by
 cases h with
 | @number n _ _=>
  refine⟨[],(fun _ h=>nomatch h),by kernel_rfl,?_,?_⟩
  ·kernel_rfl
  ·kernel_rfl
 | @two x a b hx ha hb=>
  refine⟨[a,b],by simp[ha,hb],?_,?_,?_⟩
  ·simp only[Ak,Ba,or_false] at hx
   rcases hx with rfl|rfl|rfl|rfl|rfl|rfl|rfl<;>kernel_rfl
  ·simp only[Ak,Ba,or_false] at hx
   rcases hx with rfl|rfl|rfl|rfl|rfl|rfl|rfl<;>kernel_rfl
  ·simp only[Ak,Ba,or_false] at hx
   rcases hx with rfl|rfl|rfl|rfl|rfl|rfl|rfl<;>kernel_rfl
 | @pick c a b hc ha hb=>
  refine⟨[c,a,b],by simp[hc,ha,hb],by kernel_rfl,?_,?_⟩
  ·kernel_rfl
  ·kernel_rfl
 | @load p _ _=>
  refine⟨[],(fun _ h=>nomatch h),by kernel_rfl,?_,?_⟩
  ·kernel_rfl
  ·kernel_rfl
 | @take p c a _ _ hc ha=>
  refine⟨[c,a],by simp[hc,ha],by kernel_rfl,?_,?_⟩
  ·kernel_rfl
  ·kernel_rfl
 | @store p a _ _ ha=>
  refine⟨[a],by simp[ha],by kernel_rfl,?_,?_⟩
  ·kernel_rfl
  ·kernel_rfl
 | @put p a c _ _ ha hc=>
  refine⟨[a,c],by simp[ha,hc],by kernel_rfl,?_,?_⟩
  ·kernel_rfl
  ·kernel_rfl
inductive Bl:List Kd->List dF->List Kd->Prop
 |nil {kds:List Kd}:Bl kds [] kds
 |cons {kds ak:List Kd} {row:dF} {rows:List dF}:aT (Nm kds .w) row->Bl (kds++[QL .w row]) rows ak->Bl kds (row::rows) ak
theorem Bl.snoc{kds ak:List Kd}{rows:List dF}{row:dF}(h:Bl kds rows ak)(r:aT (Nm ak .w) row):Bl kds (rows++[row]) (ak++[QL .w row]):=by
 induction h with
 |nil=>exact .cons r .nil
 |cons a _ ih=>exact .cons a (ih r)
theorem Bl.len{kds ak:List Kd}{rows:List dF}(h:Bl kds rows ak):ak.length=kds.length+rows.length:=by
 induction h with
 |nil=>simp
 |cons _ _ ih=>simp only[ih,Cd,Bm,Mb];lia
theorem Bl.all{kds ak:List Kd}{rows:List dF}(h:Bl kds rows ak): ∀d∈rows,aT (Nm ak .w) d:=by
 induction h with
 |nil=>intro d hd;cases hd
 | @cons kds ak row rows a t ih=>
  intro d hd;rcases Ak.mp hd with rfl|hd
  ·refine a.imp fun x hx => ?_
   have: ∀{k k':List Kd} {rs:List dF},Bl k rs k'->Nm k .w x->Nm k' .w x:=by
    intro k k' rs h;induction h with
    |nil=>exact id
    |cons _ _ ih=>exact fun z=>ih z.snoc
   exact this t hx.snoc
  ·exact ih d hd
theorem UX: ∀ns:List Int,YQ (ns.map .int)=some ns
 |[]=>rfl
 |i::ns=>by
  show(YQ (ns.map .int)).map (fun ns=>i::ns)=_;rw[UX ns];rfl
theorem GR{n:Int}: ∀{ns:List Int},n∈ns-> ∃j:Nat,XF n ns=some j/\j<ns.length
 | i :: ns,h => by
  unfold XF;by_cases e:i=n
  ·rw[if_pos e];exact⟨0,rfl,by simp⟩
  ·rw[if_neg e]
   obtain⟨j,h1,h2⟩:=GR (ns:=ns) (by
    rcases Ak.mp h with z|z
    ·exact absurd z.symm e
    ·exact z)
   exact⟨j+1,by rw[h1];rfl,by simp;lia⟩
noncomputable def DN(ns:List Int)(n:Nat)(rows:List dF)(made:List Int)(sn:dF)(ab:Int)(last:dF)(fi:Int)(bs:List Int)(s9 s10:Sl):Ev:=
 [.va (UM ns),.ow (V8 n),.va (.lst rows),.va (.lst (made.map .int)),.ow sn,.va (.int ab),.va last,.va (.int fi),.ow (.lst (bs.map .int)),s9,s10]
theorem zFJ(ns:List Int)(n:Nat)(rows:List dF)(made:List Int)(sn:dF)(ab:Int)(last:dF)(fi:Int)(bs:List Int)(a:Int)(s10:Sl)(hl:ns.length<=63)(hn:n<700000)(ha:a∈made)(hb:bs.length<100):
  ∃b∈made,∃g0,ZH (DN ns n rows made sn ab last fi bs (.va (.int a)) s10)=some (.nx (DN ns (n+1) rows made sn ab last fi (bs++[b]) (.va (.int a)) g0)):=by
 obtain⟨j,hj,hj2⟩:=GR ha;obtain⟨x,hx,ex⟩:=WO ns n [.int 1,.int 1,.int 1,.int 1,.int (-1),.int 0,.int 2] hl (by lia) (by simp);obtain⟨p,rfl⟩: ∃p,x= .int p:=by
  simp only[Ak,Ba,or_false] at hx;rcases hx with rfl|rfl|rfl|rfl|rfl|rfl|rfl<;>exact⟨_,rfl⟩
 have hi:HZ (.lst (made.map .int)) (.int a)=some (.int j):=by
  show(YQ (made.map .int)).bind (fun ns=>(XF a ns).map fun j=>dF.int j)=_;rw[UX,An,hj];rfl
 have hb':bs.length<16777216:=by lia
 by_cases h1:0<=(j:Int)+p/\(j:Int)+p<made.length
 ·obtain⟨q,hq,eq⟩:=QH (ns:=made) h1.1 h1.2
  by_cases h2:q=(rows.length:Int) - 1
  ·refine⟨a,ha,.va (.int (j+p)),?_⟩
   unfold ZH;simp[DN,hi,ex,h1.1,h1.2,eq,h2,hb']
  ·refine⟨q,hq,.va (.int (j+p)),?_⟩
   unfold ZH;simp[DN,hi,ex,h1.1,h1.2,eq,h2,hb']
 ·refine⟨a,ha,.va (.int (j+p)),?_⟩
  unfold ZH;by_cases h3:0<=(j:Int)+p
  ·have h4 : ¬ (j : Int) + p < made.length := fun z => h1 ⟨h3,z⟩
   simp[DN,hi,ex,h3,h4,hb']
  ·simp[DN,hi,ex,h3,hb']
theorem HY(ns:List Int)(rows:List dF)(made:List Int)(sn:dF)(ab:Int)(last:dF)(fi:Int)(hl:ns.length<=63): ∀(as:List Int) (n:Nat) (bs:List Int) (s9 s10:Sl),n+as.length<700000->(∀a∈as,a∈made)->bs.length+as.length<100→
  ∃cs:List Int,(∀c∈cs,c∈made)/\cs.length=as.length/\ ∃s9' g0,YD (gN 9) ZH (as.map .int) (DN ns n rows made sn ab last fi bs s9 s10)=some (.nx (DN ns (n+as.length) rows made sn ab last fi (bs++cs) s9' g0))
 |[],n,bs,s9,s10,_,_,_=>⟨[],by simp,rfl,s9,s10,by simp⟩
 | a :: as,n,bs,s9,s10,hn,ha,hb => by
  simp only[Bm] at hn hb;obtain⟨b,hb1,u10,e⟩:=zFJ ns n rows made sn ab last fi bs a s10 hl (by lia) (ha a Au) (by lia);obtain⟨cs,h1,h2,s9',g0,ih⟩:=HY ns rows made sn ab last fi hl as (n+1) (bs++[b]) (.va (.int a)) u10 (by lia) (fun x hx=>ha x (Ao _ hx)) (by simp;lia);refine⟨b::cs,fun c hc=> ?_,by simp[h2],s9',g0,?_⟩
  ·rcases Ak.mp hc with rfl|hc
   ·exact hb1
   ·exact h1 c hc
  rw[Az,WH,N4,Q5,show(DN ns n rows made sn ab last fi bs s9 s10).set 9 (.va (.int a))=DN ns n rows made sn ab last fi bs (.va (.int a)) s10 from rfl,e,Q6,ih];simp[Ja,Pf 1]
theorem cel4{x:String}(h:JG x):(decide ("load"=x) || (decide ("take"=x) || (decide ("store"=x) || decide ("put"=x))))=true:=by
 rcases h with rfl|rfl|rfl|rfl<;>decide
theorem snM{m k:Nat}{d:dF}(h:Sn m d)(hk:m<=k):Sn k d:=by
 obtain⟨ks,vs,e,h1,h2,h3⟩:=h;exact⟨ks,vs,e,h1,h2,by lia⟩
theorem QM(ns:List Int)(n:Nat)(rows:List dF)(made:List Int)(sn:dF)(ab:Int){x:String}{p:Int}{as:List Int}{m:Nat}(hl:ns.length<=63)(hn:n<600000)(hm:m<8000000)(hs:Sn m sn)(hr:0<ab)(hx:JG x)(ar:V4 rows (-1)=some (.tup (.str x:: .int p::as.map .int)))(ha: ∀a∈as,a∈made)(h3:as.length<=3):
  ∃(q:Int) (cs:List Int) (sn':dF),0<=q/\q<ab/\(∀c∈cs,c∈made)/\cs.length=as.length/\Sn (m+1) sn'/\Z6 [UM ns,V8 n,.lst rows,.lst (made.map .int),sn,.int ab]=some (.tup (.str x:: .int q::cs.map .int),[V8 (n+as.length),sn']):=by
 obtain⟨cs,h1,h2,s9,s10,e⟩:=HY ns rows made sn ab (.tup (.str x:: .int p::as.map .int)) 2 hl as n [] .no .no (by lia) ha (by simp;lia);simp only[DN,Dr,Eg] at e;obtain⟨ks,vs,rfl,k1,k2,k3⟩:=hs;obtain⟨ks',vs',pe,h4,h5,h6,h7,h8⟩:=putI ks vs (.inr (x:Str)) ((p+1) % ab) k1 k2;have hk:ks.length<16777216:=by lia
 refine⟨(p+1) % ab,cs,.dct ks' (vs'.map .int),Hv _ (by lia),Eo _ hr,h1,h2,⟨ks',vs',rfl,h4,h5,by lia⟩,?_⟩;unfold Z6;rw[cH,WI.eq_1];have hin:=cel4 hx;have gf:WZ (.str x:: .int p::as.map dF.int) (some 2) none=as.map dF.int:=by
  have:=UU (ds:= .str x:: .int p::as.map dF.int) (k:=2) (by simp);simpa using this
 have hcl:2+cs.length<=16777216:=by lia
 simp[cF,ar,hin,gf,e,hr,hk,k2,pe,h8,hcl]
theorem off4{x:String}(h: ¬JG x):(¬x= "load" /\¬ "load"=x)/\(¬x= "take" /\¬ "take"=x)/\(¬x= "store" /\¬ "store"=x)/\¬x= "put" /\¬ "put"=x:=by refine⟨⟨fun z=>h (.inl z),fun z=>h (.inl z.symm)⟩,⟨fun z=>h (.inr (.inl z)),fun z=>h (.inr (.inl z.symm))⟩,⟨fun z=>h (.inr (.inr (.inl z))),fun z=>h (.inr (.inr (.inl z.symm)))⟩,fun z=>h (.inr (.inr (.inr z))),fun z=>h (.inr (.inr (.inr z.symm)))⟩
theorem J9(ns:List Int)(n:Nat)(rows:List dF)(made:List Int)(sn:dF)(ab:Int){x:String}{as:List Int}(hl:ns.length<=63)(hn:n<600000)(hx: ¬JG x)(ar:V4 rows (-1)=some (.tup (.str x::as.map .int)))(ha: ∀a∈as,a∈made)(h3:as.length<=3):
  ∃cs:List Int,(∀c∈cs,c∈made)/\cs.length=as.length/\Z6 [UM ns,V8 n,.lst rows,.lst (made.map .int),sn,.int ab]=some (.tup (.str x::cs.map .int),[V8 (n+as.length),sn]):=by
 obtain⟨cs,h1,h2,s9,s10,e⟩:=HY ns rows made sn ab (.tup (.str x::as.map .int)) 1 hl as n [] .no .no (by lia) ha (by simp;lia);simp only[DN,Dr,Eg] at e;refine⟨cs,h1,h2,?_⟩;unfold Z6;rw[cH,WI.eq_1];obtain⟨⟨_,z1⟩,⟨_,z2⟩,⟨_,z3⟩,_,z4⟩:=off4 hx;have gf:WZ (.str x::as.map dF.int) (some 1) none=as.map dF.int:=by
  have:=UU (ds:= .str x::as.map dF.int) (k:=1) (by simp);simpa using this
 have lp:WZ (.str x::as.map dF.int) none (some 1)=[.str x]:=by
  have:=SU (ds:= .str x::as.map dF.int) (k:=1);simpa using this
 have hcl:1+cs.length<=16777216:=by lia
 simp[cF,ar,z1,z2,z3,z4,gf,lp,e,hcl]
theorem zBK(ns:List Int)(n:Nat)(rows:List dF)(made:List Int)(sn:dF)(ab:Int){last:dF}{m:Nat}(hl:ns.length<=63)(hn:n<600000)(hm:m<8000000)(hs:Sn m sn)(hr:0<ab)(hr2:ab<=64)(ar:V4 rows (-1)=some last)(ok:aT (· ∈made) last)(nn: ∀k,last≠ .tup [.str "number",.int k]):
  ∃row n' sn',n<=n'/\n'<=n+3/\Sn (m+1) sn'/\aT (· ∈made) row/\Z6 [UM ns,V8 n,.lst rows,.lst (made.map .int),sn,.int ab]=some (row,[V8 n',sn']):=by
 cases ok with
 |number=>exact absurd rfl (nn _)
 | @two x a b hx ha hb=>
  obtain⟨cs,h1,h2,e⟩:=J9 ns n rows made sn ab (x:=x) (as:=[a,b]) hl hn (HC hx) ar (by simp[ha,hb]) (by simp);match cs,h2 with
  |[c,d],_=>exact⟨_,n+2,sn,by lia,by lia,snM hs (by lia),.two hx (h1 c (by simp)) (h1 d (by simp)),e⟩
 | @pick c a b hc ha hb=>
  obtain⟨cs,h1,h2,e⟩:=J9 ns n rows made sn ab (x:= "pick") (as:=[c,a,b]) hl hn (fun z=>by rcases z with z|z|z|z<;>exact absurd z (by decide)) ar (by simp[ha,hb,hc]) (by simp);match cs,h2 with
  |[c,d,f],_=>exact⟨_,n+3,sn,by lia,by lia,snM hs (by lia),.pick (h1 c (by simp)) (h1 d (by simp)) (h1 f (by simp)),e⟩
 | @load p p0 p1=>
  obtain⟨q,cs,sn',q0,q1,h1,h2,hs',e⟩:=QM ns n rows made sn ab (x:= "load") (p:=p) (as:=[]) hl hn hm hs hr (.inl rfl) ar (by simp) (by simp);match cs,h2 with
  |[],_=>exact⟨_,n+0,sn',by lia,by lia,hs',.load q0 (by lia),e⟩
 | @take p c a p0 p1 hc ha=>
  obtain⟨q,cs,sn',q0,q1,h1,h2,hs',e⟩:=QM ns n rows made sn ab (x:= "take") (p:=p) (as:=[c,a]) hl hn hm hs hr (.inr (.inl rfl)) ar (by simp[hc,ha]) (by simp);match cs,h2 with
  |[c,d],_=>exact⟨_,n+2,sn',by lia,by lia,hs',.take q0 (by lia) (h1 c (by simp)) (h1 d (by simp)),e⟩
 | @store p a p0 p1 ha=>
  obtain⟨q,cs,sn',q0,q1,h1,h2,hs',e⟩:=QM ns n rows made sn ab (x:= "store") (p:=p) (as:=[a]) hl hn hm hs hr (.inr (.inr (.inl rfl))) ar (by simp[ha]) (by simp);match cs,h2 with
  |[c],_=>exact⟨_,n+1,sn',by lia,by lia,hs',.store q0 (by lia) (h1 c (by simp)),e⟩
 | @put p a c p0 p1 ha hc=>
  obtain⟨q,cs,sn',q0,q1,h1,h2,hs',e⟩:=QM ns n rows made sn ab (x:= "put") (p:=p) (as:=[a,c]) hl hn hm hs hr (.inr (.inr (.inr rfl))) ar (by simp[ha,hc]) (by simp);match cs,h2 with
  |[c,d],_=>exact⟨_,n+2,sn',by lia,by lia,hs',.put q0 (by lia) (h1 c (by simp)) (h1 d (by simp)),e⟩
structure RI(rows:List dF)(made:List Int)(kds:List Kd):Prop where
 bl:Bl [] rows kds
 ex: ∀a,a∈made↔Nm kds .w a
 ml:made.length<=rows.length
theorem RI.len{rows:List dF}{made:List Int}{kds:List Kd}(h:RI rows made kds):kds.length=rows.length:=by
 have:=h.bl.len;simpa using this
theorem zBJ{kds:List Kd}{k:Kd}{a:Int}:Nm (kds++[k]) .w a↔Nm kds .w a∨(k= .w/\a=kds.length):=by
 constructor
 ·intro h
  have h0:=h.1;have hl:=h.lt;rw[Cd,Ff] at hl;by_cases hi:a.toNat<kds.length
  ·exact .inl ⟨h0,by have:=h.2;rwa[Ai hi] at this⟩
  ·have hi : a.toNat = kds.length := by lia
   have e:=h.2;rw[hi] at e;simp at e;exact .inr ⟨e,by lia⟩
 ·rintro (h|⟨rfl,rfl⟩)
  ·exact h.snoc
  ·exact Nm.new
theorem RI.more{rows:List dF}{made:List Int}{kds:List Kd}{row:dF}(h:RI rows made kds)(r:aT (· ∈made) row):RI (rows++[row]) (if QL .w row= .w then made++[(rows.length:Int)] else made) (kds++[QL .w row]):=by
 refine⟨h.bl.snoc (r.imp fun a ha=>(h.ex a).mp ha),fun a=> ?_,?_⟩
 ·rw[zBJ,<- h.ex a,h.len]
  split
  ·rename_i e
   simp[e]
  ·rename_i e
   simp[e]
 ·have:=h.ml
  split<;>simp<;>lia
theorem RI.last{rs:List dF}{last:dF}{made:List Int}{kds:List Kd}(h:RI (rs++[last]) made kds):aT (· ∈made) last:=(h.bl.all last (by simp)).imp fun a ha=>(h.ex a).mpr ha
noncomputable def QU(ns:List Int)(n:Nat)(many ab:Int)(rows:List dF)(made:List Int)(sn:dF)(s7:Sl):Ev:=
 [.va (UM ns),.ow (V8 n),.va (.int many),.va (.int ab),.ow (.lst rows),.ow (.lst (made.map .int)),.ow sn,s7]
theorem M0: ∀vs:List Int,VL (vs.map .int)=true
 |[]=>rfl
 |_::vs=>by
  show((dF.int _).hard && VL (vs.map .int))=true;rw[M0 vs];rfl
theorem G9{m:Nat}{sn:dF}(h:Sn m sn):VN sn=true:=by
 obtain⟨ks,vs,rfl,_⟩:=h;exact M0 vs
theorem GB{row:dF}(x:String)(t:List dF)(e:row= .tup (.str x::t)):QL .w row= .w↔ ¬(x= "store" ∨x= "put"):=by
 subst e;by_cases h:x= "store" ∨x= "put"
 ·rw[zI3 h];simp[h]
 ·have : x ∉ ["store","put"] := by simpa using h
  rw[zI4 this];simp[h]
theorem zDZ(ns:List Int)(n:Nat)(many ab:Int){rows:List dF}{made:List Int}{kds:List Kd}{sn:dF}{m:Nat}(s7:Sl)(hl:ns.length<=63)(hn:n<600000)(hm:m<8000000)(hs:Sn m sn)(hr:0<ab)(hr2:ab<=64)(R:RI rows made kds)(h0:rows≠[])(ae:rows.length<1000):
  ∃aj aq ak n' sn',RI aj aq ak/\rows.length<=aj.length/\((rows.length:Int)<=many->(aj.length:Int)<=many)/\aj.length<=rows.length+1/\n<=n'/\n'<=n+3/\Sn (m+1) sn'/\ZI (QU ns n many ab rows made sn s7)=some (.nx (QU ns n' many ab aj aq sn' s7)):=by
 obtain⟨rs,last,rfl⟩: ∃rs last,rows=rs++[last]:=⟨rows.dropLast,rows.getLast h0,(List.dropLast_concat_getLast h0).symm⟩;have ok:=R.last;have ar:=SK rs last;have hml:made.length<16777216:=by have:=R.ml;lia
 have hrl:(rs++[last]).length<16777216:=by lia
 generalize o7:rs++[last]=rows at*;obtain⟨x,t,e0,_⟩:=TM ok;by_cases h1:(rows.length:Int)<many
 ·by_cases h2:x= "number"
  ·refine ⟨rows,made,kds,n,sn,R,Ag _,id,by lia,by lia,by lia,snM hs (by lia),?_⟩
   unfold ZI;simp[QU,h1,ar,e0,h2]
  ·obtain ⟨row,n',sn',n0,n1,hs',okr,e⟩ := zBK ns n rows made sn ab hl hn hm hs hr hr2 ar ok (fun k z => by rw [e0] at z;simp [YW] at z;exact h2 z.1)
   obtain⟨y,u,e1,_⟩:=TM okr;have hl2:=SK rows row;refine⟨_,_,_,n',sn',R.more okr,by simp,by simp;lia,by simp,n0,n1,hs',?_⟩;unfold ZI;have key:=GB y u e1;have hrd:=okr.hard;rw[e1] at hrd;have hsn:=G9 hs';by_cases h3:y= "store" ∨y= "put"
   ·rw [if_neg (by rw [key];simp [h3])]
    rcases h3 with rfl|rfl
    ·simp[QU,h1,ar,e0,h2,e,hl2,e1,hrl,hrd,hsn]
    ·simp[QU,h1,ar,e0,h2,e,hl2,e1,hrl,hrd,hsn]
   ·rw [if_pos (by rw [key];exact h3)]
    have z1: ¬ "store"=y:=fun z=>h3 (.inl z.symm);have z2: ¬ "put"=y:=fun z=>h3 (.inr z.symm);simp[QU,h1,ar,e0,h2,e,hl2,e1,hrl,hrd,hsn,z1,z2,hml]
 ·refine ⟨rows,made,kds,n,sn,R,Ag _,id,by lia,by lia,by lia,snM hs (by lia),?_⟩
  unfold ZI;simp[QU,h1]
theorem B7(ns:List Int)(many ab:Int)(hl:ns.length<=63)(hr:0<ab)(hr2:ab<=64): ∀(ds:List dF) (n:Nat) {rows:List dF} {made:List Int} {kds:List Kd} {sn:dF} {m:Nat} (s7:Sl),n+3*ds.length<600000->m+ds.length<8000000->Sn m sn->RI rows made kds->rows≠[]->rows.length+ds.length<1000→
  ∃aj aq ak n' sn' s7',RI aj aq ak/\rows.length<=aj.length/\((rows.length:Int)<=many->(aj.length:Int)<=many)/\n<=n'/\n'<=n+3*ds.length/\Sn (m+ds.length) sn'/\YD (gN 7) ZI ds (QU ns n many ab rows made sn s7)=some (.nx (QU ns n' many ab aj aq sn' s7'))
 |[],n,rows,made,kds,sn,m,s7,_,_,hs,R,_,_=>⟨rows,made,kds,n,sn,s7,R,Ag _,id,by lia,by simp,hs,by simp⟩
 |d::ds,n,rows,made,kds,sn,m,s7,hn,hm,hs,R,h0,hz=>by
  simp only[Bm] at hn hm hz;obtain⟨jo,la,mw,n1,sn1,R1,a1,a2,a3,a4,a5,hs1,e1⟩:=zDZ ns n many ab (.va d) hl (by lia) (by lia) hs hr hr2 R h0 (by lia);obtain⟨aj,aq,ak,n',sn',s7',R',b1,b2,b3,b4,hs',e⟩:=B7 ns many ab hl hr hr2 ds n1 (.va d) (by lia) (by lia) hs1 R1 (fun z=>by rw[z] at a1;simp at a1;exact h0 a1) (by lia);refine⟨aj,aq,ak,n',sn',s7',R',by lia,fun z=>b2 (a2 z),by lia,by simp only[Bm];lia,snM hs' (by simp only[Bm];lia),?_⟩;rw[WH,N4,Q5,show(QU ns n many ab rows made sn s7).set 7 (.va d)=QU ns n many ab rows made sn (.va d) from rfl,e1,Q6,e]
theorem zDY(ns:List Int)(n:Nat)(many ab:Int){rows:List dF}{made:List Int}{kds:List Kd}{sn:dF}(s7:Sl)(hl:ns.length<=63)(hn:n<500000)(hs:OH n sn)(hr:0<ab)(hr2:ab<=64)(R:RI rows made kds)(hlt:(rows.length:Int)<many)(h40:many<=40):
  ∃aj aq ak n' sn' s7',RI aj aq ak/\rows.length<aj.length/\(aj.length:Int)<=many/\n<=n'/\n'<=n+20/\OH n' sn'/\X2 (QU ns n many ab rows made sn s7)=some (.nx (QU ns n' many ab aj aq sn' s7')):=by
 obtain⟨row,n1,sn1,c1,c2,hs1,okr,_,e⟩:=zE0 ns n made sn ab hl (by lia) hs hr hr2;obtain⟨x,hx,ex⟩:=WO ns n1 [.int 0,.int 1,.int 1,.int 2,.int 3] hl (by lia) (by simp);obtain⟨k,rfl,k0,k3⟩: ∃k:Nat,x= .int k/\0<=k/\k<=3:=by
  simp only[Ak,Ba,or_false] at hx;rcases hx with rfl|rfl|rfl|rfl|rfl
  ·exact⟨0,rfl,by lia,by lia⟩
  ·exact⟨1,rfl,by lia,by lia⟩
  ·exact⟨1,rfl,by lia,by lia⟩
  ·exact⟨2,rfl,by lia,by lia⟩
  ·exact⟨3,rfl,by lia,by lia⟩
 have R1:=R.more okr;have hrl:rows.length<16777216:=by lia
 have hml:made.length<16777216:=by have:=R.ml;lia
 have hdl:(bD 0 k).length=k:=B6 k;obtain⟨aj,aq,ak,n',sn',s7',R',b1,b2,b3,b4,hs',ef⟩:=B7 ns many ab hl hr hr2 (bD 0 k) (n1+1) s7 (by lia) (by lia) hs1 R1 (by simp) (by simp;lia);refine⟨aj,aq,ak,n',sn',s7',R',by simp at b1;lia,b2 (by simp;lia),by lia,by lia,snM hs' (by lia),?_⟩;obtain⟨y,u,e1,_⟩:=TM okr;have hl2:=SK rows row;have key:=GB y u e1;have hrd:=okr.hard;rw[e1] at hrd;have hsn:=G9 hs1;have hk1:(-4611686018427387904:Int)<=k/\(k:Int)<4611686018427387904:=by lia
 unfold X2;by_cases h3:y= "store" ∨y= "put"
 ·rw [if_neg (by rw [key];simp [h3])] at ef
  simp only[QU] at ef;rw[e1] at ef;rcases h3 with rfl|rfl
  ·simp[QU,e,hl2,e1,hrl,hrd,hsn,ex,hk1,ef]
  ·simp[QU,e,hl2,e1,hrl,hrd,hsn,ex,hk1,ef]
 ·rw [if_pos (by rw [key];exact h3)] at ef
  simp only[QU,Gs,Az,Eg] at ef;rw[e1] at ef;have z1: ¬ "store"=y:=fun z=>h3 (.inl z.symm);have z2: ¬ "put"=y:=fun z=>h3 (.inr z.symm);simp[QU,e,hl2,e1,hrl,hrd,hsn,ex,hk1,z1,z2,hml,ef]
theorem K8{t:VB}{g:VS}{k:Nat}{δ δ1 δ2:Ev}(h:t δ=some (true,δ1))(h2:g δ1=some (.nx δ2)):bE t g (k+1) δ=bE t g k δ2:=by
 show((t δ).bind fun p=>if p.1=true then(g p.2).bind (again (bE t g k)) else some (.nx p.2))=_;rw[h,An];show(if true=true then(g δ1).bind (again (bE t g k)) else _)=_;rw[if_pos rfl,h2];rfl
theorem P7{t:VB}{g:VS}{k:Nat}{δ δ1:Ev}(h:t δ=some (false,δ1)):bE t g (k+1) δ=some (.nx δ1):=by
 show((t δ).bind fun p=>if p.1=true then(g p.2).bind (again (bE t g k)) else some (.nx p.2))=_;rw[h];rfl
theorem B8(ns:List Int)(many ab:Int)(hl:ns.length<=63)(hr:0<ab)(hr2:ab<=64)(h40:many<=40): ∀(f:Nat) (n:Nat) {rows:List dF} {made:List Int} {kds:List Kd} {sn:dF} (s7:Sl),many - rows.length<=f->(rows.length:Int)<=many->n+20*f<500000->OH n sn->RI rows made kds→
  ∃aj aq ak n' sn' s7',RI aj aq ak/\(aj.length:Int)=many/\n<=n'/\n'<=n+20*f/\bE (fB (f2 oLt (f1 Y8 (fO 4)) (fV 2))) X2 (f+1) (QU ns n many ab rows made sn s7)=some (.nx (QU ns n' many ab aj aq sn' s7'))
 |0,n,rows,made,kds,sn,s7,h1,h2,hn,hs,R=>by
  refine⟨rows,made,kds,n,sn,s7,R,by lia,by lia,by lia,P7 ?_⟩;have: ¬(rows.length:Int)<many:=by lia
  simp[QU,this]
 | f + 1,n,rows,made,kds,sn,s7,h1,h2,hn,hs,R => by
  by_cases hlt:(rows.length:Int)<many
  ·obtain ⟨jo,la,mw,n1,sn1,u7,R1,a1,a2,a3,a4,hs1,e1⟩ := zDY ns n many ab s7 hl (by lia) hs hr hr2 R hlt h40
   obtain⟨aj,aq,ak,n',sn',s7',R',b1,b2,b3,e⟩:=B8 ns many ab hl hr hr2 h40 f n1 u7 (by lia) a2 (by lia) hs1 R1;refine⟨aj,aq,ak,n',sn',s7',R',b1,by lia,by lia,?_⟩;rw[K8 (δ1:=QU ns n many ab rows made sn s7) (by simp[QU,hlt]) e1,e]
  ·refine ⟨rows,made,kds,n,sn,s7,R,by lia,by lia,by lia,P7 ?_⟩
   simp[QU,hlt]
theorem zAU(ns:List Int)(n:Nat)(many ab:Int)(hl:ns.length<=63)(hn:n<400000)(hr:0<ab)(hr2:ab<=64)(h0:0<=many)(h40:many<=40):
  ∃rows kds n',Bl [] rows kds/\(rows.length:Int)=many/\n<=n'/\n'<=n+20*40/\YH [UM ns,V8 n,.int many,.int ab]=some (.tup rows,[V8 n']):=by
 obtain⟨rows,made,kds,n',sn,s7,R,a1,a2,a3,e⟩:=B8 ns many ab hl hr hr2 h40 many.toNat n (rows:=[]) (made:=[]) (kds:=[]) (sn:= .dct [] []) .no (by simp;lia) (by simpa using h0) (by lia) ⟨[],[],rfl,rfl,List.nodup_nil,Cr _⟩ ⟨.nil,fun a=>by simp[Nm],by simp⟩;refine⟨rows,kds,n',R.bl,a1,a2,by lia,?_⟩;have e:=NK e;simp only[QU,Eg] at e;unfold YH;rw[cH,T9.eq_1];simp[cF,e]
theorem zCY{f g:VF}{δ δ1 δ2:Ev}{i j:Int}(h1:f δ=some (.int i,δ1))(h2:g δ1=some (.int j,δ2))(hb:(-4611686018427387904<=i/\i<4611686018427387904)/\ -4611686018427387904<=j/\j<4611686018427387904):iR2 f g δ=some (bD i (j - i).toNat,δ2):=by
 unfold iR2;rw[h1,An,h2,An];exact if_pos hb
theorem QD(nn:Nat)(tb:VB)(p:dF->Bool)(fe:VF)(f:dF->dF)(δ:Ev)(hδ:δ.length=nn): ∀(ds acc:List dF),(∀d∈ds,tb (δ++[Sl.va d])=some (p d,δ++[Sl.va d])/\(p d=true->fe (δ++[Sl.va d])=some (f d,δ++[Sl.va d])))->acc.length+ds.length<16777216->aQ nn 1 (gN nn) tb fe ds acc δ=some (acc++(ds.filter p).map f,δ)
 |[],acc,_,_=>by simp
 | d :: ds,acc,h,hl => by
  have cx:(δ++[Sl.no]).set nn (.va d)=δ++[Sl.va d]:=by
   rw[Fj _ _ (by lia)];simp[hδ]
  have ay:(δ++[Sl.va d]).take nn=δ:=by rw[Cw (by lia),Cf (by lia)]
  have au:acc.length<16777216:=by simp at hl;lia
  obtain⟨h1,h2⟩:=h d Au;cases hp:p d with
  |true=>
   have ih:=QD nn tb p fe f δ hδ ds (acc++[f d]) (fun e he=>h e (Ao _ he)) (by simp at hl⊢;lia);have h2:=h2 hp;rw[hp] at h1;simp only[SR,AX,N4,cx,KL,h1,BR,h2,BS,if_pos au,ay,ih];simp[hp]
  |false=>
   have ih:=QD nn tb p fe f δ hδ ds acc (fun e he=>h e (Ao _ he)) (by simp at hl⊢;lia);rw[hp] at h1;simp only[SR,AX,N4,cx,KL,h1,zCJ,ay,ih];simp[hp]
theorem aT.ints{M:Int->Prop}{row:dF}(h:aT M row): ∃(x:String) (a:Int) (as:List Int),row= .tup (.str x:: .int a::as.map .int)/\(x= "over" -> ∃b,as=[b]/\M b):=by
 cases h with
 | @number n _ _=>exact⟨"number",n,[],rfl,fun z=>absurd z (by decide)⟩
 | @two x a b hx ha hb=>exact⟨x,a,[b],rfl,fun _=>⟨b,rfl,hb⟩⟩
 | @pick c a b _ _ _=>exact⟨"pick",c,[a,b],rfl,fun z=>absurd z (by decide)⟩
 | @load p _ _=>exact⟨"load",p,[],rfl,fun z=>absurd z (by decide)⟩
 | @take p c a _ _ _ _=>exact⟨"take",p,[c,a],rfl,fun z=>absurd z (by decide)⟩
 | @store p a _ _ _=>exact⟨"store",p,[a],rfl,fun z=>absurd z (by decide)⟩
 | @put p a c _ _ _ _=>exact⟨"put",p,[a,c],rfl,fun z=>absurd z (by decide)⟩
theorem YE{k:Nat}: ∀as:List Int,∀d∈as.map dF.int,TD k d
 |[],d,h=>nomatch h
 |a::as,d,h=>by
  rcases Ak.mp h with rfl|h
  ·exact aM
  ·exact YE as d h
theorem G7{M:Int->Prop}{row:dF}(h:aT M row):TD 1 row:=by
 obtain⟨x,a,as,rfl,_⟩:=h.ints;exact TF (aU ZB (aU aM (YE as)))
theorem W4{x:String}(h: ¬JG x){t:List dF}:aN [.tup (.str x::t)]=some (.non,[]):=by
 obtain⟨⟨_,z1⟩,⟨_,z2⟩,⟨_,z3⟩,_,z4⟩:=off4 h;unfold aN;rw[cH];unfold WL;simp[cF,UT,Z0,z1,z2,z3,z4]
theorem VY{x:String}(h:JG x){d:dF}{t:List dF}:aN [.tup (.str x::d::t)]=some (d,[]):=by
 unfold aN;rw[cH];unfold WL;rcases h with rfl|rfl|rfl|rfl<;>simp[cF,UT,Z0]
theorem zAT{x:String}{a:Int}{t:List dF}:aR [.tup (.str x:: .int a::t)]=some (.bl (decide (x= "number") && !decide (a=0)),[]):=by
 unfold aR;rw[cH];unfold YN;by_cases h:x= "number"
 ·subst h
  simp[cF]
 ·simp[cF,h]
theorem R0(lo:Int)(n:Nat):bD lo (n+1)= .int lo::bD (lo+1) n:=by
 unfold bD;rw[Fb];simp only[Az,Fh];refine congr (congrArg List.cons (by simp)) (Ex fun k _=> ?_);simp only[Iy];congr 1;push_cast
 lia
theorem AZ{x:String}{a:Int}: ∀(n:Nat) (l:Int),QZ (.tup [.str x,.int a]) ((bD l n).map fun d=> .tup [.str "number",d])=(decide (x= "number") && decide (l<=a/\a<l+n))
 |0,l=>by
  have: ¬(l<=a/\a<l+(0:Nat)):=by lia
  simp[bD,this]
 | n + 1,l => by
  rw[R0,Az,F4,AZ n (l+1)];by_cases hx:x= "number"
  ·subst hx
   simp only[zA5,zG3,zA6,zA4,decide_true,Le,Bool.and_true];rw[<- Bool.decide_or];exact decide_eq_decide.mpr (by push_cast;lia)
  ·simp[hx,Dk hx]
theorem O8{sure:Int}{rows:List dF}{kds:List Kd}(hb:Bl [] rows kds){i:Int}(h0:0<=i)(h1:i<rows.length): ∃b,aA [.tup [.int sure,.tup rows],.int i]=some (.bl b,[])/\aJ [.tup [.int sure,.tup rows],.int i]=some (.bl b,[]):=by
 have ae:kds.length=rows.length:=by simpa using hb.len
 obtain⟨row,gb,e0⟩: ∃row∈rows,V4 rows i=some row:=by
  have hi:i.toNat<rows.length:=by lia
  exact⟨rows[i.toNat],Hh hi,by rw[XT h0 h1];simp[hi]⟩
 have ok:=hb.all row gb;obtain⟨x,a,as,rfl,hov⟩:=ok.ints;unfold aA aJ;rw[cH,cH];unfold RQ VC;by_cases hx:JG x
 ·have m1:=cel4 hx
  have hp:=VY hx (d:= .int a) (t:=as.map .int);have ho: ¬x= "over":=fun z=>by subst z;exact absurd hx (by unfold JG;decide)
  exact⟨decide (sure<=a),by simp[cF,e0,m1],by simp[cF,e0,hp,ho]⟩
 ·have hp:=W4 hx (t:= .int a::as.map .int)
  obtain⟨⟨_,z1⟩,⟨_,z2⟩,⟨_,z3⟩,_,z4⟩:=off4 hx;by_cases ho:x= "over"
  ·obtain⟨b,rfl,hbn⟩:=hov ho
   subst ho;have b0:=hbn.1;have b1:=hbn.lt;obtain⟨jq,hr2,e2⟩: ∃row∈rows,V4 rows b=some row:=by
    have hi:b.toNat<rows.length:=by lia
    exact⟨rows[b.toNat],Hh hi,by rw[XT b0 (by lia)];simp[hi]⟩
   obtain⟨x2,a2,as2,e3,nk⟩: ∃(x:String) (a:Int) (as:List Int),jq= .tup (.str x:: .int a::as.map .int)/\(x= "number" ->0<=a/\a<1000):=by
    cases hb.all jq hr2 with
    | @number n n0 n1=>exact⟨"number",n,[],rfl,fun _=>by lia⟩
    | @two x a b hx ha hb=>exact⟨x,a,[b],rfl,fun z=>by subst z;simp at hx⟩
    | @pick c a b _ _ _=>exact⟨"pick",c,[a,b],rfl,fun z=>absurd z (by decide)⟩
    | @load p _ _=>exact⟨"load",p,[],rfl,fun z=>absurd z (by decide)⟩
    | @take p c a _ _ _ _=>exact⟨"take",p,[c,a],rfl,fun z=>absurd z (by decide)⟩
    | @store p a _ _ _=>exact⟨"store",p,[a],rfl,fun z=>absurd z (by decide)⟩
    | @put p a c _ _ _ _=>exact⟨"put",p,[a,c],rfl,fun z=>absurd z (by decide)⟩
   subst e3;have gf:WZ (.str x2:: .int a2::as2.map dF.int) none (some 2)=[.str x2,.int a2]:=by
    have:=SU (ds:= .str x2:: .int a2::as2.map dF.int) (k:=2);simpa using this
   have ei: ∀δ,iR2 (fC (.int 1)) (fC (.int 1000)) δ=some (bD 1 ((1000:Int) - 1).toNat,δ):=fun δ=>zCY (f:=fC (.int 1)) (g:=fC (.int 1000)) (δ:=δ) (δ1:=δ) (δ2:=δ) (i:=1) (j:=1000) rfl rfl (by lia);have ec:=SS 0 (Z4 (c9 (fC (.str "number")) (c9 (fV 0) cD))) [] (fun d=> .tup [.str "number",d]) rfl (bD 1 ((1000:Int) - 1).toNat) [] (fun d _=>by simp) (by simp[bD]);have hbb:bI true (.tup [.str x2,.int a2]) (.lst ((bD 1 ((1000:Int) - 1).toNat).map fun d=> .tup [.str "number",d]))=some (.bl (!(decide (x2= "number") && !decide (a2=0)))):=by
    rw[PD (j:=1) (k:=1) (TF (aU ZB (aU aM ZC))) (fun e he=>by
     obtain⟨d,hd,rfl⟩:=Be.mp he;obtain⟨q,rfl⟩: ∃q,d= .int q:=by
      unfold bD at hd;obtain⟨q,_,rfl⟩:=Be.mp hd;exact⟨_,rfl⟩
     exact TF (aU ZB (aU aM ZC))),AZ,if_pos rfl]
    congr 3;by_cases hx:x2= "number"
    ·have:=nk hx
     simp only[hx,decide_true,Le,<- decide_not];exact decide_eq_decide.mpr (by lia)
    ·simp[hx]
   simp only[Dr] at ec;generalize (bD 1 ((1000:Int) - 1).toNat).map (fun d=>dF.tup [.str "number",d])=big at*;generalize bD 1 ((1000:Int) - 1).toNat=rg at*;have e3:=zAT (x:=x2) (a:=a2) (t:=as2.map .int);generalize (decide (x2= "number") && !decide (a2=0))=bb at*;refine⟨!bb,by simp -implicitDefEqProofs [cF,e0,e2,gf,cC,ei,ec,hbb],?_⟩;cases bb<;>simp[cF,e0,e2,e3]
  ·exact⟨false,by simp[cF,e0,z1,z2,z3,z4,ho],by simp[cF,e0,hp,ho]⟩
noncomputable def cA(p:Int×Int):dF:= .tup [.int p.1,.int p.2]
noncomputable def U8:dF:= .tup [.str "load",.str "take",.str "store",.str "put"]
noncomputable def RW(blk:dF)(ps:List (Int×Int))(j:Int)(there:Sl)(s5 s6 s7 s8:Sl):Ev:=
 [.va blk,.ow (.lst (ps.map cA)),.va U8,.va (.int j),there,s5,s6,s7,s8]
theorem zIW{bs:List Bool}:bI false (.bl true) (.lst (bs.map .bl))=some (.bl (bs.any id)):=by
 rw[PD (j:=0) (k:=0) A3 (fun e he=>by
  obtain⟨b,_,rfl⟩:=Be.mp he;exact A3)]
 induction bs with
 |nil=>rfl
 |cons b bs ih=>
  have e:MY (.bl b) (.bl true)=b:=by cases b<;>rfl
  simp only[Az,F4,Ha,id,e];simp only[Ef,if_false,Kr,dF.bl.injEq] at ih⊢;rw[ih]
theorem F5{i:Int}: ∀{as:List Int},i∈as->QZ (.int i) (as.map .int)=true
 |q::as,h=>by
  simp only[Az,F4];rcases Ak.mp h with rfl|h
  ·simp
  ·simp[F5 h]
noncomputable def wrT:dF->Bool
 | .tup (.str x::_)=>decide (Bi "store"=x) || decide (Bi "put"=x)
 |_=>false
theorem P0{s1 s2:VS}{δ δ1:Ev}{r:Option Ou}(h1:s1 δ=some (.nx δ1))(h2:s2 δ1=r):cL s1 s2 δ=r:=by rw[CA,h1,qS_n,h2]
noncomputable def cbO:Option (dF×List dF)->Bool
 |some (.bl b,_)=>b
 |_=>false
noncomputable def mS(sure:Int)(rows:List dF)(i j:Int):Bool:=cbO (bW [.tup [.int sure,.tup rows],.int i,.int j])
theorem U3{x:String}{t:List dF}{wx:Bool}(h:bI false (.str x) (.tup [.str "store",.str "put"])=some (.bl wx)):ZD [.tup (.str x::t)]=some (.bl wx,[]):=by
 unfold ZD;rw[cH];unfold OU;simp only[OW] at h;simpa[cF,Z0] using h
theorem CI{x y:String}{a b:Int}{t u:List dF}{bx by' wx wy:Bool}(x4:bI false (.str x) U8=some (.bl bx))(y4:bI false (.str y) U8=some (.bl by'))(x2:bI false (.str x) (.tup [.str "store",.str "put"])=some (.bl wx)) (y2:bI false (.str y) (.tup [.str "store",.str "put"])=some (.bl wy)):bR [.tup (.str x:: .int a::t),.tup (.str y:: .int b::u)]=some (.bl (bx && (by' && (decide (a=b) && (wx || wy)))),[]):=by
 have on: ∀{x:String} {bx wx:Bool},bI false (.str x) U8=some (.bl bx)->bI false (.str x) (.tup [.str "store",.str "put"])=some (.bl wx)->JG x/\bx=true∨ ¬JG x/\bx=false/\wx=false:=fun{x bx wx} h1 h2=>by
  unfold U8 at h1;rw[AE] at h1;rw[OW] at h2;simp only[Ef,if_false,Kr,dF.bl.injEq] at h1 h2;by_cases hx:JG x
  ·exact .inl ⟨hx,by rw[<- h1];exact cel4 hx⟩
  ·obtain⟨⟨_,z1⟩,⟨_,z2⟩,⟨_,z3⟩,_,z4⟩:=off4 hx
   exact .inr ⟨hx,by rw[<- h1];simp[z1,z2,z3,z4],by rw[<- h2];simp[z3,z4]⟩
 have w1:=U3 x2 (t:= .int a::t);have w2:=U3 y2 (t:= .int b::u);unfold bR;rw[cH];unfold ZO;rcases on x4 x2 with⟨h1,rfl⟩|⟨h1,rfl,rfl⟩<;>rcases on y4 y2 with⟨h2,rfl⟩|⟨h2,rfl,rfl⟩
 ·have p1:=VY h1 (d:= .int a) (t:=t)
  have p2:=VY h2 (d:= .int b) (t:=u);clear x2 y2;by_cases hab:a=b
  ·subst hab
   cases wx<;>simp[cF,p1,p2,w1,w2]
  ·simp[cF,p1,p2,hab]
 ·have p1:=VY h1 (d:= .int a) (t:=t)
  have p2:=W4 h2 (t:= .int b::u);have e:=GI (j:=0) (k:=0) (d:= .int a) (e:= .non) aM QN;simp[cF,p1,p2,e,show MY (.int a) .non=false from rfl]
 ·have p1:=W4 h1 (t:= .int a::t)
  have p2:=VY h2 (d:= .int b) (t:=u);have e:=GI (j:=0) (k:=0) (d:= .non) (e:= .int b) QN aM;simp[cF,p1,p2,e,show MY .non (.int b)=false from rfl]
 ·have p1:=W4 h1 (t:= .int a::t)
  have p2:=W4 h2 (t:= .int b::u);have e:=GI (j:=0) (k:=0) (d:= .non) (e:= .non) QN QN;simp[cF,p1,p2,w1,w2,e,show MY .non .non=true from rfl]
theorem ON{ds:List dF}:MY (.lst ds) (.lst [])=ds.isEmpty:=by cases ds<;>rfl
theorem AT{sure:Int}{rows:List dF}{kds:List Kd}(hb:Bl [] rows kds)(ps:List (Int×Int)){i j:Int}{here there:dF}(i0:0<=i)(i1:i<rows.length)(j0:0<=j)(j1:j<rows.length)(hh:V4 rows i=some here)(ht:V4 rows j=some there){as:List Int}(hn:aK [there]=some (.lst (as.map .int),[]))(hn2:YJ [there]=some (.lst (as.map .int),[]))(s7 s8:Sl)(hp:ps.length<1000000):
  ∃t7 t8:Sl,(i∈as->mS sure rows i j=true)/\bW [.tup [.int sure,.tup rows],.int i,.int j]=some (.bl (mS sure rows i j),[])/\X0 (RW (.tup [.int sure,.tup rows]) ps j (.va there) (.va (.int i)) (.va here) s7 s8)=some (.nx (RW (.tup [.int sure,.tup rows]) (ps++if mS sure rows i j then[(i,j)] else[]) j (.va there) (.va (.int i)) (.va here) t7 t8)):=by
 obtain⟨b1,e1,k1⟩:=O8 (sure:=sure) hb i0 i1;obtain⟨b2,e2,k2⟩:=O8 (sure:=sure) hb j0 j1;have okh:=hb.all here (by rw[XT i0 i1] at hh;exact Dc hh);have okt:=hb.all there (by rw[XT j0 j1] at ht;exact Dc ht);have kh:=G7 okh;have kt:=G7 okt;obtain⟨x,a,xs,eh,_⟩:=okh.ints;obtain⟨y,b,ys,et,_⟩:=okt.ints;have hin:bI false (.int i) (.lst (as.map .int))=some (.bl (QZ (.int i) (as.map .int))):=by
  rw[PD (j:=0) (k:=0) aM (YE as)];simp
 have nr:=F5 (i:=i) (as:=as);generalize QZ (.int i) (as.map .int)=bi at*;obtain⟨wx,x2⟩: ∃bx,bI false (.str x) (.tup [.str "store",.str "put"])=some (.bl bx):=⟨_,OW⟩;obtain⟨wy,y2⟩: ∃by',bI false (.str y) (.tup [.str "store",.str "put"])=some (.bl by'):=⟨_,OW⟩;have wT: ∀{x:String} {t:List dF} {wx:Bool},bI false (.str x) (.tup [.str "store",.str "put"])=some (.bl wx)->wrT (.tup (.str x::t))=wx:=fun{x t wx} h=>by
  rw[OW] at h;simp only[Ef,if_false,Kr,dF.bl.injEq] at h;rw[<- h];simp[wrT,YW]
 have ew: ∃w:List dF,aQ 0 1 (gN 0) (fB (f2 (bI false) (f2 cI (fV 0) (fC (.int 0))) (Z4 (c9 (fC (.str "store")) (c9 (fC (.str "put")) cD))))) (fV 0) [here,there] [] []=some (w,[])/\(∀d∈w,TD 1 d)/\(!MY (.lst w) (.lst []))=(wx || wy):=by
  have c:=QD 0 (fB (f2 (bI false) (f2 cI (fV 0) (fC (.int 0))) (Z4 (c9 (fC (.str "store")) (c9 (fC (.str "put")) cD))))) wrT (fV 0) id [] rfl [here,there] [] (fun d hd=>by
   simp only[Ak,Ba,or_false] at hd;rcases hd with rfl|rfl
   ·rw[eh];simp[wrT,YW]
   ·rw[et];simp[wrT,YW]) (by simp)
  refine⟨_,c,fun d hd=> ?_,?_⟩
  ·simp only[Dr,List.map_id_fun,id,Ec,Ak,Ba,or_false] at hd
   rcases hd.1 with rfl|rfl
   ·exact kh
   ·exact kt
  ·have w1 : wrT here = wx := by rw [eh];exact wT x2
   have w2:wrT there=wy:=by rw[et];exact wT y2
   rw[ON];cases wx<;>cases wy<;>simp[w1,w2]
 obtain⟨w,ew,kw,hw⟩:=ew;have hne:OD (.lst w) (.lst [])=some (.bl (!MY (.lst w) (.lst []))):=NA (j:=2) (k:=0+1) (Z7 kw) (Z7 ZC);generalize (!MY (.lst w) (.lst []))=bw at*;have hp':ps.length<16777216:=by lia
 have x4: ∃bx,bI false (.str x) U8=some (.bl bx):=⟨_,AE⟩;have y4: ∃by',bI false (.str y) U8=some (.bl by'):=⟨_,AE⟩;obtain⟨bx,x4⟩:=x4;obtain⟨by',y4⟩:=y4;subst eh et;have hbl:=zIW (bs:=[bi,b1 && b2,bx && (by' && (decide (a=b) && bw)),b1 && wy,b2 && wx]);simp only[Az,Eg] at hbl;have es:bW [.tup [.int sure,.tup rows],.int i,.int j]=some (.bl ([bi,b1 && b2,bx && (by' && (decide (a=b) && bw)),b1 && wy,b2 && wx].any id),[]):=by
  have h3:=CI (a:=a) (b:=b) (t:=xs.map .int) (u:=ys.map .int) x4 y4 x2 y2;have h1:=U3 x2 (t:= .int a::xs.map .int);have h2:=U3 y2 (t:= .int b::ys.map .int);rw[<- hw] at h3;clear hbl ew hne kh kt okh okt e1 e2 hn x2 y2;generalize (bx && (by' && (decide (a=b) && bw)))=q3 at*;generalize xs.map dF.int=T1 at*;generalize ys.map dF.int=T2 at*;generalize as.map dF.int=N at*;unfold bW;rw[cH];unfold VJ;cases bi with
  |true=>simp[cF,hh,ht,hn2,hin]
  |false=>
   cases q3 with
   |true=>simp[cF,hh,ht,hn2,hin,h3]
   |false=>
    cases b1 with
    |true=>
     cases b2 with
     |true=>simp[cF,hh,ht,hn2,hin,h3,k1,k2]
     |false=>cases wy<;>simp[cF,hh,ht,hn2,hin,h3,k1,k2,h2]
    |false=>
     cases b2 with
     |true=>simp[cF,hh,ht,hn2,hin,h3,k1,k2,h1]
     |false=>simp[cF,hh,ht,hn2,hin,h3,k1,k2]
 have hm:mS sure rows i j=[bi,b1 && b2,bx && (by' && (decide (a=b) && bw)),b1 && wy,b2 && wx].any id:=by unfold mS;rw[es];rfl
 rw[hm];refine⟨.va (.lst w),.ow (.lst [.bl bi,.bl (b1 && b2),.bl (bx && (by' && (decide (a=b) && bw))),.bl (b1 && wy),.bl (b2 && wx)]),fun hi=>by rw[nr hi];rfl,es,?_⟩;clear es hm hw
 ·unfold X0
  refine P0 (δ1:=RW (.tup [.int sure,.tup rows]) ps j (.va (.tup (.str y:: .int b::ys.map .int))) (.va (.int i)) (.va (.tup (.str x:: .int a::xs.map .int))) (.va (.lst w)) s8) (by simp[RW,cC,ew]) ?_;refine P0 (δ1:=RW (.tup [.int sure,.tup rows]) ps j (.va (.tup (.str y:: .int b::ys.map .int))) (.va (.int i)) (.va (.tup (.str x:: .int a::xs.map .int))) (.va (.lst w)) (.ow (.lst [.bl bi,.bl (b1 && b2)]))) ?_ ?_
  ·clear hbl
   cases b1<;>simp[RW,hn,hin,e1,e2]
  refine P0 (δ1:=RW (.tup [.int sure,.tup rows]) ps j (.va (.tup (.str y:: .int b::ys.map .int))) (.va (.int i)) (.va (.tup (.str x:: .int a::xs.map .int))) (.va (.lst w)) (.ow (.lst [.bl bi,.bl (b1 && b2),.bl (bx && (by' && (decide (a=b) && bw)))]))) ?_ ?_
  ·clear hbl
   cases bx<;>cases by'<;>by_cases hab:a=b<;>simp[RW,x4,y4,hne,hab]
  refine P0 (δ1:=RW (.tup [.int sure,.tup rows]) ps j (.va (.tup (.str y:: .int b::ys.map .int))) (.va (.int i)) (.va (.tup (.str x:: .int a::xs.map .int))) (.va (.lst w)) (.ow (.lst [.bl bi,.bl (b1 && b2),.bl (bx && (by' && (decide (a=b) && bw))),.bl (b1 && wy)]))) ?_ ?_
  ·clear hbl
   generalize (bx && (by' && (decide (a=b) && bw)))=q3;cases b1<;>simp[-OW,RW,e1,y2]
  refine P0 (δ1:=RW (.tup [.int sure,.tup rows]) ps j (.va (.tup (.str y:: .int b::ys.map .int))) (.va (.int i)) (.va (.tup (.str x:: .int a::xs.map .int))) (.va (.lst w)) (.ow (.lst [.bl bi,.bl (b1 && b2),.bl (bx && (by' && (decide (a=b) && bw))),.bl (b1 && wy),.bl (b2 && wx)]))) ?_ ?_
  ·clear hbl
   generalize (bx && (by' && (decide (a=b) && bw)))=q3;cases b2<;>simp[-OW,RW,e2,x2]
  generalize (bx && (by' && (decide (a=b) && bw)))=q3 at*;generalize hq1:(b1 && b2)=q1 at*;generalize hq4:(b1 && wy)=q4 at*;generalize hq5:(b2 && wx)=q5 at*;generalize hc:[bi,q1,q3,q4,q5].any id=c at*;cases c
  ·simp[RW,hbl]
  ·simp[RW,hbl,hp',cA]
theorem RM(i:Nat)(d:dF)(ds:List dF):YU i (d::ds)= .tup [.int i,d]::YU (i+1) ds:=rfl
abbrev GP(a b:Nat):VG:=LC 2 (bS (gN a) (bS (gN b) X5))
theorem OI{α:Type}{rows:List α}{k:Nat}{d:α}(h:rows[k]? =some d):V4 rows (k:Int)=some d:=by
 have:=(Ae.mp h).1;rw[XT (by lia) (by lia)];simpa using h
theorem AG{as bs:List Int}(h:as.map dF.int=bs.map dF.int):as=bs:=by
 induction as generalizing bs with
 |nil=>cases bs with
  |nil=>rfl
  |cons=>simp at h
 | cons a as ih => cases bs with
  |nil=>simp at h
  |cons b bs=>
   simp only[Az,Jr,dF.int.injEq] at h;rw[h.1,ih h.2]
theorem MD{sure:Int}{rows:List dF}{kds:List Kd}(hb:Bl [] rows kds){i j:Nat}(hi:i<rows.length)(hj:j<rows.length):bW [.tup [.int sure,.tup rows],.int i,.int j]=some (.bl (mS sure rows i j),[])/\ ∀as:List Int,aK [rows[j]]=some (.lst (as.map .int),[])->(i:Int)∈as->mS sure rows i j=true:=by
 have e1:=OI (Cg hi);have e2:=OI (Cg hj);obtain⟨as,_,_,hn,hn2⟩:=PB (hb.all _ (Hh hj));obtain⟨_,_,h1,h2,_⟩:=AT (sure:=sure) hb [] (by lia) (by lia) (by lia) (by lia) e1 e2 hn hn2 .no .no (by simp);refine⟨h2,fun bs hbs=> ?_⟩;rw[hn] at hbs;have:as=bs:=AG (by simpa using hbs);subst this;exact h1
noncomputable def lq(sure:Int)(rows:List dF)(j:Nat)(k n:Nat):List (Int×Int):=((Hj k n).filter fun i=>mS sure rows (i:Nat) (j:Nat)).map fun i=>((i:Nat),(j:Nat))
theorem zBR{sure:Int}{rows:List dF}{j k n:Nat}:lq sure rows j k (n+1)=(if mS sure rows k j then[((k:Int),(j:Int))] else[])++lq sure rows j (k+1) n:=by
 unfold lq;rw[Ln,List.filter_cons];split<;>rfl
theorem AU{sure:Int}{rows:List dF}{kds:List Kd}(hb:Bl [] rows kds){j:Nat}{there:dF}(j1:j<rows.length)(ht:rows[j]? =some there): ∀(hs:List dF) (k:Nat) (ps:List (Int×Int)) (s5 s6 s7 s8:Sl),(∀m d,hs[m]? =some d->rows[k+m]? =some d)->k+hs.length<=rows.length->ps.length+hs.length<1000000→
  ∃t5 t6 t7 t8:Sl,YD (GP 5 6) X0 (YU k hs) (RW (.tup [.int sure,.tup rows]) ps j (.va there) s5 s6 s7 s8)=some (.nx (RW (.tup [.int sure,.tup rows]) (ps++lq sure rows j k hs.length) j (.va there) t5 t6 t7 t8))
 |[],k,ps,s5,s6,s7,s8,_,_,_=>⟨s5,s6,s7,s8,by simp[YU,lq]⟩
 |h::hs,k,ps,s5,s6,s7,s8,hm,hk,hp=>by
  simp only[Bm] at hk hp;obtain⟨as,_,_,hn,hn2⟩:=PB (hb.all there (Dc ht));obtain⟨t7,t8,_,_,e⟩:=AT (sure:=sure) hb ps (i:=(k:Int)) (j:=j) (here:=h) (there:=there) (by lia) (by lia) (by lia) (by lia) (OI (hm 0 h rfl)) (OI ht) hn hn2 s7 s8 (by lia);obtain⟨u5,u6,u7,u8,ih⟩:=AU hb j1 ht hs (k+1) (ps++if mS sure rows k j then[((k:Int),(j:Int))] else[]) (.va (.int k)) (.va h) t7 t8 (fun m d hd=>by rw[Ja,Pf 1];exact hm (m+1) d (by simpa using hd)) (by lia) (by split<;>simp<;>lia);refine⟨u5,u6,u7,u8,?_⟩;rw[RM,WH];have s1:GP 5 6 (.tup [.int k,h]) (RW (.tup [.int sure,.tup rows]) ps j (.va there) s5 s6 s7 s8)=some (RW (.tup [.int sure,.tup rows]) ps j (.va there) (.va (.int k)) (.va h) s7 s8):=by simp[RW]
  rw[s1,Q5,e,Q6,ih,Ay,Bm,zBR]
noncomputable def oq(sure:Int)(rows:List dF)(k n:Nat):List (Int×Int):=(Hj k n).flatMap fun j=>lq sure rows j 0 j
theorem zFO{sure:Int}{rows:List dF}{j k n:Nat}:(lq sure rows j k n).length<=n:=by
 unfold lq;rw[Bz];exact Bu (List.length_filter_le _ _) (by simp)
theorem AW{sure:Int}{rows:List dF}{kds:List Kd}(hb:Bl [] rows kds)(h40:rows.length<=40): ∀(ts:List dF) (k:Nat) (ps:List (Int×Int)) (s4 s5 s6 s7 s8:Sl) (x3:Sl),rows.drop k=ts->k+ts.length=rows.length->ps.length+40*ts.length<10000→
  ∃t3 t4 t5 t6 t7 t8:Sl,(oq sure rows k ts.length).length<=40*ts.length/\YD (GP 3 4) X1 (YU k ts) [.va (.tup [.int sure,.tup rows]),.ow (.lst (ps.map cA)),.va U8,x3,s4,s5,s6,s7,s8]=some (.nx [.va (.tup [.int sure,.tup rows]),.ow (.lst ((ps++oq sure rows k ts.length).map cA)),.va U8,t3,t4,t5,t6,t7,t8])
 |[],k,ps,s4,s5,s6,s7,s8,x3,h1,h2,_=>⟨x3,s4,s5,s6,s7,s8,by simp[oq],by simp[YU,oq]⟩
 | t :: ts,k,ps,s4,s5,s6,s7,s8,x3,h1,h2,hp => by
  simp only[Bm] at h2 hp;have hk:rows[k]? =some t:=by
   have:(rows.drop k)[0]? =some t:=by rw[h1];rfl
   simpa using this
  have ae:(rows.take k).length=k:=by rw[Bp];lia
  have hq:=zFO (sure:=sure) (rows:=rows) (j:=k) (k:=0) (n:=k);obtain⟨t5,t6,t7,t8,e⟩:=AU (sure:=sure) hb (by lia) hk (rows.take k) 0 ps s5 s6 s7 s8 (fun m d hd=>by rw[Jz] at hd;rw[Fw];split at hd<;>first|exact hd|cases hd) (by lia) (by lia);rw[ae] at e;obtain⟨u3,u4,u5,u6,u7,u8,r3,ih⟩:=AW (sure:=sure) hb h40 ts (k+1) (ps++lq sure rows k 0 k) (.va t) t5 t6 t7 t8 (.va (.int k)) (by rw[<- Rg,h1];rfl) (by lia) (by simp;lia);have eo:oq sure rows k (ts.length+1)=lq sure rows k 0 k++oq sure rows (k+1) ts.length:=by
   unfold oq;rw[Ln,Pa]
  refine⟨u3,u4,u5,u6,u7,u8,?_,?_⟩
  ·rw[Bm,eo,Cd]
   lia
  ·rw[RM,WH]
   have s1:GP 3 4 (.tup [.int k,t]) [.va (.tup [.int sure,.tup rows]),.ow (.lst (ps.map cA)),.va U8,x3,s4,s5,s6,s7,s8]=some (RW (.tup [.int sure,.tup rows]) ps k (.va t) s5 s6 s7 s8):=by simp[RW]
   have s2:X1 (RW (.tup [.int sure,.tup rows]) ps k (.va t) s5 s6 s7 s8)=some (.nx (RW (.tup [.int sure,.tup rows]) (ps++lq sure rows k 0 k) k (.va t) t5 t6 t7 t8)):=by
    unfold X1;have hc:=SU (ds:=rows) (k:=k);rw[zDW];have:OV (EH (f2 cI (fV 0) (fC (.int 1))) A8 (EX (fV 3))) (RW (.tup [.int sure,.tup rows]) ps k (.va t) s5 s6 s7 s8)=some (YU 0 (rows.take k),RW (.tup [.int sure,.tup rows]) ps k (.va t) s5 s6 s7 s8):=by simp[RW,hc]
    rw[this,qF_s];exact e
   rw[s1,Q5,s2,Q6];simp only[RW];rw[ih,Ay,Bm,eo]
structure Prs(rows:List dF)(ps:List (Int×Int)):Prop where
 lt: ∀p∈ps,0<=p.1/\p.1<p.2/\p.2<rows.length
 nm: ∀(j:Nat) (row:dF) (as:List Int),rows[j]? =some row->aK [row]=some (.lst (as.map .int),[])-> ∀i∈as,0<=i->i<j->(i,(j:Int))∈ps
theorem GV: ∀ps:List (Int×Int),PN (ps.map cA)=some ps
 |[]=>rfl
 |p::ps=>by
  show(prD (cA p)).bind (fun q=>(PN (ps.map cA)).map fun qs=>q::qs)=_;rw[GV ps];rfl
abbrev DI(p q:Int×Int):Prop:=TS.lexP p q=true
theorem F9: ∀{l m:List (Int×Int)},l.Pairwise DI->m.Pairwise DI->(∀x,x∈l↔x∈m)->l=m
 |[],[],_,_,_=>rfl
 |[],y::m,_,_,h=>absurd ((h y).mpr Au) (Ba)
 |x::l,[],_,_,h=>absurd ((h x).mp Au) (Ba)
 | x :: l,y :: m,h1,h2,h => by
  obtain⟨a1,a2⟩:=Go.mp h1;obtain⟨b1,b2⟩:=Go.mp h2;have irr: ∀p q,DI p q->DI q p->False:=fun p q h1 h2=>by
   unfold DI TS.lexP at h1 h2;split at h1<;>split at h2<;>simp only[decide_eq_true_eq] at h1 h2<;>lia
  have e:x=y:=by
   rcases Ak.mp ((h x).mp Au) with e|e
   ·exact e
   ·rcases Ak.mp ((h y).mpr Au) with e2|e2
    ·exact e2.symm
    ·exact(irr _ _ (b1 x e) (a1 y e2)).elim
  subst e;rw[F9 a2 b2 fun z=>⟨fun hz=> ?_,fun hz=> ?_⟩]
  ·rcases Ak.mp ((h z).mp (Ao _ hz)) with e|e
   ·rw[e] at hz;exact(irr _ _ (a1 x hz) (a1 x hz)).elim
   ·exact e
  ·rcases Ak.mp ((h z).mpr (Ao _ hz)) with e|e
   ·rw[e] at hz;exact(irr _ _ (b1 x hz) (b1 x hz)).elim
   ·exact e
theorem CK(ps qs:List (Int×Int))(hn:ps.Nodup)(hq:qs.Pairwise DI)(he: ∀x,x∈ps↔x∈qs):IB (.lst (ps.map cA))=some (.lst (qs.map cA)):=by
 have hp:((OB ps).map fun i=>ps.getD i (0,0)).Perm ps:=by
  have h:=(U2 ps).map fun i=>ps.getD i (0,0);refine h.trans ?_;have:(At ps.length).map (fun i=>ps.getD i (0,0))=ps:=by
   refine List.ext_getElem (by simp) fun i h1 h2=> ?_;simp at h1;simp[h1]
  rw[this]
 have hs:((OB ps).map fun i=>ps.getD i (0,0)).Pairwise fun p q=>TS.lexP q p=false:=by
  refine Ks.mpr ((TS.zDI ps.length (TS.kyP ps)).imp fun{i j} h=> ?_);rw[<- TS.AO];exact decide_eq_false (Nat.not_lt.mpr h)
 have hs2:((OB ps).map fun i=>ps.getD i (0,0)).Pairwise DI:=by
  refine(hs.and (hp.nodup_iff.mpr hn)).imp fun{p q} h=> ?_;obtain⟨h1,h2⟩:=h;have h2:p≠q:=h2;refine Kc fun h3=>h2 ?_;unfold DI at h3;unfold TS.lexP at h1 h3;split at h1<;>split at h3<;>simp only[decide_eq_true_eq,decide_eq_false_iff_not] at h1 h3<;>refine Sy ?_ ?_<;>lia
 have e:=F9 hs2 hq fun x=>(hp.mem_iff).trans (he x);show(PN (ps.map cA)).bind (fun qs=>some (dF.lst ((OB qs).map fun i=>(ps.map cA).getD i dF.non)))=_;rw[GV,An,<- e,Fh];congr 2;refine Ex fun i hi=> ?_;have:i<ps.length:=Ci.mp ((U2 ps).mem_iff.mp hi);simp[this]
noncomputable def pq(sure:Int)(rows:List dF)(n:Nat)(i k:Nat):List (Int×Int):=(Hj i k).flatMap fun(a:Nat)=>((Hj (a+1) (n - (a+1))).filter fun b=>mS sure rows (a:Nat) (b:Nat)).map fun b=>((a:Nat),(b:Nat))
theorem RV{sure:Int}{rows:List dF}{n:Nat}{x:Int×Int}:x∈pq sure rows n 0 n↔ ∃a b:Nat,a<b/\b<n/\mS sure rows a b=true/\x=((a:Int),(b:Int)):=by
 simp only[pq,Pw,Be,Ec,Ko];constructor
 ·rintro ⟨a,⟨_,h1⟩,b,⟨⟨h2,h3⟩,h4⟩,rfl⟩
  exact⟨a,b,by lia,by lia,h4,rfl⟩
 ·rintro ⟨a,b,h1,h2,h3,rfl⟩
  exact⟨a,⟨by lia,by lia⟩,b,⟨⟨by lia,by lia⟩,h3⟩,rfl⟩
theorem AS{sure:Int}{rows:List dF}{n:Nat}{x:Int×Int}:x∈oq sure rows 0 n↔ ∃a b:Nat,a<b/\b<n/\mS sure rows a b=true/\x=((a:Int),(b:Int)):=by
 simp only[oq,lq,Pw,Be,Ec,Ko];constructor
 ·rintro ⟨b,⟨_,h1⟩,a,⟨⟨h2,h3⟩,h4⟩,rfl⟩
  exact⟨a,b,by lia,by lia,h4,rfl⟩
 ·rintro ⟨a,b,h1,h2,h3,rfl⟩
  exact⟨b,⟨by lia,by lia⟩,a,⟨⟨by lia,by lia⟩,h3⟩,rfl⟩
theorem zCM{sure:Int}{rows:List dF}{n i k:Nat}:(pq sure rows n i k).Pairwise DI:=by
 refine Mm.mpr ⟨fun a _=>Ks.mpr (Mt _ ((Gb (step:=1)).imp fun{b c} h=> ?_)),(Gb (step:=1)).imp fun{a c} h x hx y hy=> ?_⟩
 ·simp[DI,TS.lexP];lia
 ·obtain⟨b,_,rfl⟩:=Be.mp hx
  obtain⟨d,_,rfl⟩:=Be.mp hy;have: ¬(a:Int)=c:=by lia
  simp[DI,TS.lexP,this];lia
theorem zCO{sure:Int}{rows:List dF}{i k:Nat}:(oq sure rows i k).Nodup:=by
 refine Mm.mpr ⟨fun a _=>Ks.mpr (Mt _ ((Gb (step:=1)).imp fun{b c} h e=> ?_)),(Gb (step:=1)).imp fun{a c} h x hx y hy e=> ?_⟩
 ·have:=congrArg Dh e
  simp at this;lia
 ·obtain⟨b,_,rfl⟩:=Be.mp hx
  obtain⟨d,_,rfl⟩:=Be.mp hy;have:=congrArg Eh e;simp at this;lia
theorem J8{sure:Int}{rows:List dF}{kds:List Kd}(hb:Bl [] rows kds)(h40:rows.length<=40):(pq sure rows rows.length 0 rows.length).length<=1600/\Z5 [.tup [.int sure,.tup rows]]=some (.lst ((pq sure rows rows.length 0 rows.length).map cA),[]):=by
 obtain⟨t3,t4,t5,t6,t7,t8,q3,e⟩:=AW (sure:=sure) hb h40 rows 0 [] .no .no .no .no .no .no (by simp) (by simp) (by simp;lia);simp only[Eg,Dr,U8] at e;have es:=CK (oq sure rows 0 rows.length) (pq sure rows rows.length 0 rows.length) zCO zCM fun x=>AS.trans RV.symm;refine⟨?_,?_⟩
 ·have := (List.perm_ext_iff_of_nodup zCO (zCM (sure := sure) (rows := rows) (n := rows.length) (i := 0) (k := rows.length) |>.imp fun {p q} h e => by rw [e] at h;simp [DI,TS.lexP] at h)).mpr fun x => AS.trans RV.symm
  rw[<- this.length_eq];lia
 ·unfold Z5
  rw[cH,T7.eq_1];simp[cF,e,es]
theorem zBO{sure:Int}{rows:List dF}{kds:List Kd}(hb:Bl [] rows kds)(h40:rows.length<=40): ∃ps:List (Int×Int),Prs rows ps/\ps.length<=1600/\Z5 [.tup [.int sure,.tup rows]]=some (.lst (ps.map cA),[]):=by
 obtain⟨h1,h2⟩:=J8 (sure:=sure) hb h40;refine⟨_,⟨fun p h=> ?_,fun j row as hr hn i hi i0 i1=> ?_⟩,h1,h2⟩
 ·obtain⟨a,b,g1,g2,_,rfl⟩:=RV.mp h
  exact⟨by lia,by lia,by lia⟩
 ·have hj:=(Ae.mp hr)
  obtain⟨k,rfl⟩: ∃k:Nat,i=k:=⟨i.toNat,by lia⟩;exact RV.mpr ⟨k,j,by lia,hj.1,(MD hb (by lia) hj.1).2 as (by rw[hj.2];exact hn) hi,rfl⟩
theorem WY(nn:Nat)(tb:VB)(p:dF->Bool)(fe:VF)(f:dF->dF)(δ:Ev)(hδ:δ.length=nn): ∀(ds acc:List dF),(∀d∈ds,∃a b,d= .tup [a,b]/\tb (δ++[Sl.va a,Sl.va b])=some (p d,δ++[Sl.va a,Sl.va b])/\(p d=true->fe (δ++[Sl.va a,Sl.va b])=some (f d,δ++[Sl.va a,Sl.va b])))->acc.length+ds.length<16777216->aQ nn 2 (GP nn (nn+1)) tb fe ds acc δ=some (acc++(ds.filter p).map f,δ)
 |[],acc,_,_=>by simp
 | d :: ds,acc,h,hl => by
  obtain⟨a,b,rfl,h1,h2⟩:=h d Au;have cx:GP nn (nn+1) (.tup [a,b]) (δ++[Sl.no,Sl.no])=some (δ++[Sl.va a,Sl.va b]):=by
   have e1:(δ++[Sl.no,Sl.no]).set nn (.va a)=δ++[Sl.va a,Sl.no]:=by
    rw[Fj _ _ (by lia)];simp[hδ]
   have e2:(δ++[Sl.va a,Sl.no]).set (nn+1) (.va b)=δ++[Sl.va a,Sl.va b]:=by
    rw[Fj _ _ (by lia),hδ,show nn+1 - nn=1 by lia];rfl
   simp[e1,e2]
  have ay:(δ++[Sl.va a,Sl.va b]).take nn=δ:=by rw[Cw (by lia),Cf (by lia)]
  have au:acc.length<16777216:=by simp at hl;lia
  cases hp:p (.tup [a,b]) with
  |true=>
   have ih:=WY nn tb p fe f δ hδ ds (acc++[f (.tup [a,b])]) (fun e he=>h e (Ao _ he)) (by simp at hl⊢;lia);have h2:=h2 hp;rw[hp] at h1;simp only[SR,AY,cx,KL,h1,BR,h2,BS,if_pos au,ay,ih];simp[hp]
  |false=>
   have ih:=WY nn tb p fe f δ hδ ds acc (fun e he=>h e (Ao _ he)) (by simp at hl⊢;lia);rw[hp] at h1;simp only[SR,AY,cx,KL,h1,zCJ,ay,ih];simp[hp]
noncomputable def ost(ns:List Int)(n:Nat)(blk:dF)(ps:List (Int×Int))(left made:List Int)(s6:Sl):Ev:=
 [.va (UM ns),.ow (V8 n),.va blk,.va (.lst (ps.map cA)),.ow (.lst (left.map .int)),.ow (.lst (made.map .int)),s6]
noncomputable def pw(left:List Int)(r:Int):dF->Bool
 | .tup [.int a,.int b]=>decide (b=r) && QZ (.int a) (left.map .int)
 |_=>false
theorem SW{i:Int}: ∀{as:List Int},QZ (.int i) (as.map .int)=true↔i∈as
 |[]=>by simp
 |a::as=>by
  rw[Az,F4,Fu,zA6,decide_eq_true_eq,SW (as:=as),Ak];exact⟨fun h=>h.imp Eq.symm id,fun h=>h.imp Eq.symm id⟩
theorem zAH(ps:List (Int×Int))(left:List Int)(r:Int)(hp:ps.length<16777216):
  aQ 2 2 (GP 2 3) (SM (fB (f2 XO (fV 3) (fV 1))) (fB (f2 (bI false) (fV 2) (fO 0)))) (fC (.int 1)) (ps.map cA) [] [.ow (.lst (left.map .int)),.va (.int r)]=some (((ps.map cA).filter (pw left r)).map fun _=> .int 1,[.ow (.lst (left.map .int)),.va (.int r)]):=by
 have hin: ∀a:Int,bI false (.int a) (.lst (left.map .int))=some (.bl (QZ (.int a) (left.map .int))):=fun a=>by
  rw[PD (j:=0) (k:=0) aM (YE left)];simp
 have:=WY 2 (SM (fB (f2 XO (fV 3) (fV 1))) (fB (f2 (bI false) (fV 2) (fO 0)))) (pw left r) (fC (.int 1)) (fun _=> .int 1) [.ow (.lst (left.map .int)),.va (.int r)] rfl (ps.map cA) [] (fun d hd=>by
  obtain⟨⟨a,b⟩,_,rfl⟩:=Be.mp hd;refine⟨.int a,.int b,rfl,?_,fun _=>by simp⟩;have hi:=hin a;have hpw:pw left r (cA (a,b))=(decide (b=r) && QZ (.int a) (left.map .int)):=rfl;rw[hpw];generalize left.map dF.int=L at*;by_cases hb:b=r
  ·simp[hb,hi]
  ·simp[hb]) (by simpa using hp)
 simpa using this
noncomputable def rdD(ps:List (Int×Int))(left:List Int):dF->Bool
 | .int r=>((ps.map cA).filter (pw left r)).isEmpty
 |_=>false
theorem PM{x:Int}: ∀{ns:List Int},x∈ns-> ∃j,XF x ns=some j/\ns.eraseIdx j=ns.erase x
 | i :: ns,h => by
  unfold XF;by_cases e:i=x
  ·rw[if_pos e];exact⟨0,rfl,by simp[e]⟩
  ·rw[if_neg e]
   obtain⟨j,h1,h2⟩:=PM (ns:=ns) (by
    rcases Ak.mp h with z|z
    ·exact absurd z.symm e
    ·exact z)
   refine⟨j+1,by rw[h1];rfl,?_⟩;rw[List.eraseIdx_cons_succ,h2,List.erase_cons_tail (by simpa using e)]
theorem zBQ{x:Int}{ns:List Int}(h:x∈ns):mRem (ns.map .int) [.int x]=some ((ns.erase x).map .int):=by
 obtain⟨j,h1,h2⟩:=PM h;show(YQ (ns.map .int)).bind (fun ns=>(XF x ns).map fun j=>(ns.eraseIdx j).map dF.int)=_;rw[UX,An,h1,Mn,h2]
theorem G3{ps:List (Int×Int)}{left:List Int}{r:Int}:rdD ps left (.int r)=true↔ ∀p∈ps,p.2=r->p.1∉left:=by
 show((ps.map cA).filter (pw left r)).isEmpty=true↔_;rw[Pn,List.filter_eq_nil_iff];constructor
 ·intro h p hp he hl
  have:=h (cA p) (Be.mpr ⟨p,hp,rfl⟩);refine this ?_;show(decide (p.2=r) && QZ (.int p.1) (left.map .int))=true;rw[SW.mpr hl,he];simp
 ·intro h d hd z
  obtain⟨p,hp,rfl⟩:=Be.mp hd;have z:(decide (p.2=r) && QZ (.int p.1) (left.map .int))=true:=z;rw[Ad,decide_eq_true_eq,SW] at z;exact h p hp z.1 z.2
theorem B0(ps:List (Int×Int))(left:List Int)(hp:ps.length<16777216)(hll:left.length<16777216):
  aQ 2 1 (gN 2) (fB (f2 XO (Z3 [1,2] 2 (VM (fV 0)) (LC 2 (bS (gN 2) (bS (gN 3) X5))) (SM (fB (f2 XO (fV 3) (fV 1))) (fB (f2 (bI false) (fV 2) (fO 0)))) (fC (.int 1))) (Y7 cD))) (fV 2) (left.map .int) [] [.va (.lst (ps.map cA)),.ow (.lst (left.map .int))]=some ((left.filter fun r=>rdD ps left (.int r)).map .int,[.va (.lst (ps.map cA)),.ow (.lst (left.map .int))]):=by
 have:=QD 2 (fB (f2 XO (Z3 [1,2] 2 (VM (fV 0)) (LC 2 (bS (gN 2) (bS (gN 3) X5))) (SM (fB (f2 XO (fV 3) (fV 1))) (fB (f2 (bI false) (fV 2) (fO 0)))) (fC (.int 1))) (Y7 cD))) (rdD ps left) (fV 2) id [.va (.lst (ps.map cA)),.ow (.lst (left.map .int))] rfl (left.map .int) [] (fun d hd=>by
  obtain⟨r,_,rfl⟩:=Be.mp hd;refine⟨?_,fun _=>by simp⟩;have w:=zAH ps left r hp;have hq:XO (.lst (((ps.map cA).filter (pw left r)).map fun _=>dF.int 1)) (.lst [])=some (.bl (rdD ps left (.int r))):=by
   rw[GI (j:=1) (k:=1) (Z7 fun d hd=>by
    obtain⟨_,_,rfl⟩:=Be.mp hd;exact aM) (Z7 ZC),ON,List.isEmpty_map]
   rfl
  generalize ((ps.map cA).filter (pw left r)).map (fun _=>dF.int 1)=W at*;generalize rdD ps left (.int r)=B at*;generalize left.map dF.int=L at*;generalize ps.map cA=Q at*;simp[cC,w,hq]) (by simpa using hll)
 rw[this,Qx];simp[Function.comp_def]
theorem zBE(ns:List Int)(n:Nat)(blk:dF)(ps:List (Int×Int))(left made:List Int)(s6:Sl)(hl:ns.length<=63)(hn:n<800000)(hne:left≠[])(hs:left.Pairwise (· < ·))(hlt: ∀p∈ps,p.1<p.2)(hll:left.length<1000)(hml:made.length<1000)(hpl:ps.length<10000):
  ∃x∈left,(∀p∈ps,p.2=x->p.1∉left)/\ ∃s6',aH (ost ns n blk ps left made s6)=some (.nx (ost ns (n+1) blk ps (left.erase x) (made++[x]) s6')):=by
 have hr:=B0 ps left (by lia) (by lia);have h0:0<((left.filter fun r=>rdD ps left (.int r)).map dF.int).length:=by
  match left,hne,hs with
  |a::t,_,hs=>
   have:a∈((a::t).filter fun r=>rdD ps (a::t) (.int r)):=by
    refine Ec.mpr ⟨Au,G3.mpr fun p hp he hi=> ?_⟩;have h1:=hlt p hp;rw[he] at h1;rcases Ak.mp hi with z|z
    ·lia
    ·have:=(Go.mp hs).1 _ z
     lia
   rw[Bz];exact List.length_pos_of_mem this
 obtain⟨d,hd,ed⟩:=WO ns n ((left.filter fun r=>rdD ps left (.int r)).map .int) hl (by lia) h0;obtain⟨x,hx,rfl⟩:=Be.mp hd;obtain⟨hx1,hx2⟩:=Ec.mp hx;have hm:=zBQ hx1;have hla:=SK (made.map dF.int) (.int x);have nq:made.length<16777216:=by lia
 refine⟨x,hx1,G3.mp hx2,.va (.lst ((left.filter fun r=>rdD ps left (.int r)).map .int)),?_⟩;unfold aH;simp only[ost,Gs,Az,Eg];generalize (left.filter fun r=>rdD ps left (.int r)).map dF.int=R at*;generalize (left.erase x).map dF.int=E at*;generalize left.map dF.int=L at*;generalize ps.map cA=Q at*;have np:(made.map dF.int).length<16777216:=by simpa using nq
 generalize made.map dF.int=D at*;simp[cC,hr,ed,hm,hla,np]
theorem GO(ns:List Int)(blk:dF)(ps:List (Int×Int))(hl:ns.length<=63)(hlt: ∀p∈ps,p.1<p.2)(hpl:ps.length<10000): ∀(f n:Nat) (left made:List Int) (s6:Sl),left.length=f->n+f<700000->left.Pairwise (· < ·)->made.length+left.length<1000->(∀p∈ps,p.1∈made∨p.1∈left)->(∀p∈ps,∀k:Nat,made[k]? =some p.2->p.1∈made.take k)→
  ∃(order:List Int) (s6':Sl),order.Perm (made++left)/\(∀p∈ps,∀k:Nat,order[k]? =some p.2->p.1∈order.take k)/\bE (fB (f2 OD (fO 4) (Y7 cD))) aH (f+1) (ost ns n blk ps left made s6)=some (.nx (ost ns (n+f) blk ps [] order s6'))
 | 0,n,left,made,s6,hf,hn,hs,hm,h1,h2 => by
  have:left=[]:=Ga.mp hf;subst this;refine⟨made,s6,by simp,h2,P7 ?_⟩;have e:OD (.lst []) (.lst [])=some (.bl false):=by
   rw[NA (j:=1) (k:=1) (Z7 ZC) (Z7 ZC),ON];rfl
  simp[ost,e]
 | f + 1,n,left,made,s6,hf,hn,hs,hm,h1,h2 => by
  have hne:left≠[]:=fun z=>by rw[z] at hf;simp at hf
  obtain⟨x,hx,hp,u6,e1⟩:=zBE ns n blk ps left made s6 hl (by lia) hne hs hlt (by lia) (by lia) hpl;have hle:=List.length_erase_of_mem hx;obtain⟨order,s6',o1,o2,e2⟩:=GO ns blk ps hl hlt hpl f (n+1) (left.erase x) (made++[x]) u6 (by lia) (by lia) (hs.sublist (List.erase_sublist)) (by simp;lia) (fun p hp'=>by
   rcases h1 p hp' with z|z
   ·exact .inl (Bo.mpr (.inl z))
   ·by_cases hxx:p.1=x
    ·exact .inl (by simp[hxx])
    ·exact .inr ((List.mem_erase_of_ne hxx).mpr z)) (fun p hp' k hk=>by
   by_cases hkl:k<made.length
   ·rw[Ai hkl] at hk
    rw[Cw (by lia)];exact h2 p hp' k hk
   ·have db:=(Ae.mp hk).1
    simp at db;have:k=made.length:=by lia
    subst this;simp at hk;have hnl:=hp p hp' hk.symm;rw[Rj];exact(h1 p hp').resolve_right hnl)
  refine⟨order,s6',?_,o2,?_⟩
  ·refine o1.trans ?_
   rw[Ay,List.singleton_append];exact(List.perm_cons_erase hx).symm.append_left made
  ·have e:OD (.lst (left.map .int)) (.lst [])=some (.bl true):=by
    rw[NA (j:=1) (k:=1) (Z7 (YE left)) (Z7 ZC),ON];cases left with
    |nil=>exact absurd rfl hne
    |cons=>rfl
   rw[K8 (δ1:=ost ns n blk ps left made s6) (by simp[ost,e]) e1,e2,show n+1+f=n+(f+1) by lia]
theorem EG{f:VF}{δ δ1:Ev}{j:Int}(h:f δ=some (.int j,δ1))(h0:0<=j)(h1:j<=16777216):UW f δ=some (.lst (bD 0 j.toNat),δ1):=by
 unfold UW;rw[h,An];exact if_pos ⟨h0,h1⟩
def E7(k:Nat):List Int:=(At k).map fun i:Nat=>(i:Int)
theorem zAV(k:Nat):bD 0 k=(E7 k).map .int:=by simp[bD,E7]
theorem G6{k:Nat}{a:Int}:a∈E7 k↔0<=a/\a<k:=by
 unfold E7;rw[Be];constructor
 ·rintro ⟨i,hi,rfl⟩
  have:=Ci.mp hi;lia
 ·rintro ⟨h0,h1⟩
  exact⟨a.toNat,Ci.mpr (by lia),by lia⟩
theorem IL(k:Nat):(E7 k).Pairwise (· < ·):=Kt _ (fun a b h=>by lia) (List.pairwise_lt_range)
theorem L9(k:Nat):(E7 k).length=k:=by simp[E7]
theorem A7(ns:List Int)(n:Nat){sure:Int}{rows:List dF}{kds:List Kd}(hl:ns.length<=63)(hn:n<500000)(hb:Bl [] rows kds)(h40:rows.length<=40):
  ∃(ps:List (Int×Int)) (order:List Int),Prs rows ps/\order.Perm (E7 rows.length)/\(∀p∈ps,∀k:Nat,order[k]? =some p.2->p.1∈order.take k)/\aW [UM ns,V8 n,.tup [.int sure,.tup rows]]=some (.lst (order.map .int),[V8 (n+rows.length)]):=by
 obtain⟨ps,P,hpl,em⟩:=zBO (sure:=sure) hb h40;obtain⟨order,s6,o1,o2,e⟩:=GO ns (.tup [.int sure,.tup rows]) ps hl (fun p hp=>(P.lt p hp).2.1) (by lia) rows.length n (E7 rows.length) [] .no (L9 _) (by lia) (IL _) (by simp[L9];lia) (fun p hp=> .inr (G6.mpr ⟨(P.lt p hp).1,by have:=P.lt p hp;lia⟩)) (fun p hp k hk=>by simp at hk);refine⟨ps,order,P,by simpa using o1,o2,?_⟩;have e:=NK e;simp only[ost,Eg] at e;have er:UW (f1 Y8 (f2 cI (fV 2) (fC (.int 1)))) [.va (UM ns),.ow (V8 n),.va (.tup [.int sure,.tup rows]),.no,.no,.no,.no]=some (.lst ((E7 rows.length).map .int),[.va (UM ns),.ow (V8 n),.va (.tup [.int sure,.tup rows]),.no,.no,.no,.no]):=by
  rw[<- zAV,EG (j:=(rows.length:Int)) (δ1:=[.va (UM ns),.ow (V8 n),.va (.tup [.int sure,.tup rows]),.no,.no,.no,.no]) (by simp) (by lia) (by lia)];simp
 unfold aW;rw[cH,YV.eq_1];generalize (E7 rows.length).map dF.int=L at*;generalize order.map dF.int=O at*;generalize ps.map cA=Q at*;simp[cF,em,er,e]
theorem aT.strong{M:Int->Prop}{row:dF}(h:aT M row): ∃as:List Int,(∀a∈as,M a)/\aT (· ∈as) row/\aK [row]=some (.lst (as.map .int),[]):=by
 cases h with
 | @number n h0 h1=>exact⟨[],(fun _ h=>nomatch h),.number h0 h1,by kernel_rfl⟩
 | @two x a b hx ha hb=>
  refine⟨[a,b],by simp[ha,hb],.two hx (by simp) (by simp),?_⟩;simp only[Ak,Ba,or_false] at hx;rcases hx with rfl|rfl|rfl|rfl|rfl|rfl|rfl<;>kernel_rfl
 | @pick c a b hc ha hb=>exact⟨[c,a,b],by simp[hc,ha,hb],.pick (by simp) (by simp) (by simp),by kernel_rfl⟩
 | @load p h0 h1=>exact⟨[],(fun _ h=>nomatch h),.load h0 h1,by kernel_rfl⟩
 | @take p c a h0 h1 hc ha=>exact⟨[c,a],by simp[hc,ha],.take h0 h1 (by simp) (by simp),by kernel_rfl⟩
 | @store p a h0 h1 ha=>exact⟨[a],by simp[ha],.store h0 h1 (by simp),by kernel_rfl⟩
 | @put p a c h0 h1 ha hc=>exact⟨[a,c],by simp[ha,hc],.put h0 h1 (by simp) (by simp),by kernel_rfl⟩
theorem IK{as:List Int}{row:dF}(h:aT (· ∈as) row){ks:List a0}{vs:List dF}(μ:Int->Int)(hk: ∀a∈as,bQ ks vs (.inl a)=some (.int (μ a))):
  ∃bp,cK [row,.dct ks vs]=some (bp,[])/\aT (fun b=> ∃a∈as,b=μ a) bp/\QL .w bp=QL .w row:=by
 cases h with
 | @number n h0 h1=>
  refine⟨_,?_,.number h0 h1,rfl⟩;unfold cK;rw[cH];unfold a8;simp[cF]
 | @two x a b hx ha hb=>
  have z0:=(dne hx (y:= "number") (by decide)).1;have z1:=(dne hx (y:= "load") (by decide)).2;have z2:=(dne hx (y:= "take") (by decide)).2;have z3:=(dne hx (y:= "store") (by decide)).2;have z4:=(dne hx (y:= "put") (by decide)).2;refine⟨.tup [.str x,.int (μ a),.int (μ b)],?_,.two hx ⟨a,ha,rfl⟩ ⟨b,hb,rfl⟩,?_⟩
  ·unfold cK
   rw[cH];unfold a8;simp[cF,z0,z1,z2,z3,z4,cC,hk a ha,hk b hb]
  ·simp only[Ak,Ba,or_false] at hx
   rcases hx with rfl|rfl|rfl|rfl|rfl|rfl|rfl<;>rfl
 | @pick c a b hc ha hb=>
  refine⟨.tup [.str "pick",.int (μ c),.int (μ a),.int (μ b)],?_,.pick ⟨c,hc,rfl⟩ ⟨a,ha,rfl⟩ ⟨b,hb,rfl⟩,rfl⟩;unfold cK;rw[cH];unfold a8;simp[cF,cC,hk a ha,hk b hb,hk c hc]
 | @load p h0 h1=>
  refine⟨.tup [.str "load",.int p],?_,.load h0 h1,rfl⟩;unfold cK;rw[cH];unfold a8;simp[cF,cC]
 | @take p c a h0 h1 hc ha=>
  refine⟨.tup [.str "take",.int p,.int (μ c),.int (μ a)],?_,.take h0 h1 ⟨c,hc,rfl⟩ ⟨a,ha,rfl⟩,rfl⟩;unfold cK;rw[cH];unfold a8;simp[cF,cC,hk a ha,hk c hc]
 | @store p a h0 h1 ha=>
  refine⟨.tup [.str "store",.int p,.int (μ a)],?_,.store h0 h1 ⟨a,ha,rfl⟩,rfl⟩;unfold cK;rw[cH];unfold a8;simp[cF,cC,hk a ha]
 | @put p a c h0 h1 ha hc=>
  refine⟨.tup [.str "put",.int p,.int (μ a),.int (μ c)],?_,.put h0 h1 ⟨a,ha,rfl⟩ ⟨c,hc,rfl⟩,rfl⟩;unfold cK;rw[cH];unfold a8;simp[cF,cC,hk a ha,hk c hc]
theorem Bl.at{kds ak:List Kd}{rows:List dF}(h:Bl kds rows ak): ∀{j:Nat} {row:dF},rows[j]? =some row->aT (fun a=>Nm ak .w a/\a<kds.length+j) row/\ak[kds.length+j]? =some (QL .w row)/\ ∀a,Nm kds .w a->Nm ak .w a:=by
 have keep: ∀{k k':List Kd} {rs:List dF},Bl k rs k'-> ∀(i:Nat) (x:Kd),k[i]? =some x->k'[i]? =some x:=by
  intro k k' rs h;induction h with
  |nil=>exact fun _ _ z=>z
  |cons _ _ ih=>exact fun i x z=>ih i x (by rw[Ai (Ae.mp z).1];exact z)
 induction h with
 |nil=>intro j row hr;simp at hr
 | @cons kds ak r rows a t ih=>
  intro j row hr;cases j with
  |zero=>
   simp at hr;subst hr;refine⟨a.imp fun x hx=>⟨⟨hx.1,keep t _ _ (hx.snoc (j:=QL .w r)).2⟩,by have:=hx.lt;lia⟩,keep t _ _ (by simp),fun x hx=>⟨hx.1,keep t _ _ (hx.snoc (j:=QL .w r)).2⟩⟩
  |succ j=>
   obtain⟨h1,h2,h3⟩:=ih (by simpa using hr);rw[Cd,Ff] at h1 h2;refine⟨h1.imp fun x hx=>⟨hx.1,by have:=hx.2;lia⟩,by rw[show kds.length+(j+1)=kds.length+1+j by lia];exact h2,fun x hx=>h3 x hx.snoc⟩
noncomputable def swD:dF->dF
 | .tup [a,b]=> .tup [b,a]
 |_=> .non
noncomputable def DM:Nat->List Int->List (a0×dF)
 |_,[]=>[]
 |k,x::xs=>(.inl x,.int (k:Int))::DM (k+1) xs
theorem JY: ∀(xs:List Int) (k:Nat),VO ((YU k (xs.map .int)).map swD)=some (DM k xs)
 |[],_=>rfl
 |x::xs,k=>by
  rw[Az,RM,Az];show(EQ (.tup [.int x,.int (k:Int)])).bind (fun p=>(VO ((YU (k+1) (xs.map .int)).map swD)).map fun ps=>p::ps)=_;rw[JY xs (k+1)];rfl
theorem QJ: ∀(xs:List Int) (k:Nat),(DM k xs).map Dh=xs.map .inl
 |[],_=>rfl
 |x::xs,k=>by rw[DM,Az,QJ xs (k+1)];rfl
theorem F7: ∀(xs:List Int) (k i:Nat),i<xs.length->((DM k xs).map Eh)[i]? =some (.int ((k+i:Nat):Int))
 |[],_,i,h=>by simp at h
 |x::xs,k,0,_=>rfl
 |x::xs,k,i+1,h=>by
  have:=F7 xs (k+1) i (by simpa using h);rw[DM,Az,List.getElem?_cons_succ,this];congr 3;lia
theorem AN{order:List Int}(nd:order.Nodup){a:Int}(ha:a∈order):bQ ((DM 0 order).map Dh) ((DM 0 order).map Eh) (.inl a)=some (.int (order.idxOf a:Int)):=by
 have hi:order.idxOf a<order.length:=Js ha;rw[J1 _ _ (order.idxOf a) (.inl a) ?_ (by simp) ?_,F7 _ _ _ hi]
 ·simp
 ·rw[QJ]
  exact Kt _ (fun a b h e=>h (by injection e)) nd
 ·rw[QJ,Cq,Cg hi,Oe hi]
  rfl
noncomputable def WA(rows:List dF)(r:Int):dF:=(rows[r.toNat]?).getD .non
noncomputable def IJ(rows:List dF)(names:dF):dF->dF
 | .int r=>match cK [WA rows r,names] with
  |some (d,_)=>d
  |none=> .non
 |_=> .non
theorem G4{rows os:List dF}{names bp:dF}{r:Int}(e:cK [WA rows r,names]=some (bp,os)):IJ rows names (.int r)=bp:=by simp only[IJ,e]
def LU(order:List Int):dF:= .dct ((DM 0 order).map Dh) ((DM 0 order).map Eh)
theorem zCD{rows:List dF}{kds:List Kd}(hb:Bl [] rows kds){ps:List (Int×Int)}(P:Prs rows ps){order:List Int}(o1:order.Perm (E7 rows.length))(o2: ∀p∈ps,∀k:Nat,order[k]? =some p.2->p.1∈order.take k){pre rest:List Int}{r:Int}(ho:order=pre++r::rest):
  ∃bp,cK [WA rows r,LU order]=some (bp,[])/\V4 rows r=some (WA rows r)/\aT (Nm (pre.map fun a=>QL .w (WA rows a)) .w) bp/\QL .w bp=QL .w (WA rows r):=by
 have nd:order.Nodup:=o1.nodup_iff.mpr ((IL _).imp fun h=>by lia);have hr:r∈order:=by rw[ho];simp
 have hr2:=G6.mp (o1.mem_iff.mp hr);have gb:rows[r.toNat]? =some (WA rows r):=by
  unfold WA;rw[Cg (by lia)];rfl
 obtain⟨h1,h2,_⟩:=hb.at gb;obtain⟨as,a1,a2,a3⟩:=h1.strong;have dm: ∀a∈as,a∈pre:=fun a ha=>by
  have h3:=a1 a ha;have h4:a<r:=by have:=h3.2;simp at this;lia
  have hp:=P.nm r.toNat _ as gb a3 a ha h3.1.1 (by lia);have:=o2 _ hp pre.length (by rw[ho];simp;lia);rw[ho,Rj] at this;exact this
 obtain⟨bp,e,ok,mk⟩:=IK a2 (ks:=(DM 0 order).map Dh) (vs:=(DM 0 order).map Eh) (fun a=>(order.idxOf a:Int)) (fun a ha=>AN nd (by rw[ho];exact Bo.mpr (.inl (dm a ha))));refine⟨bp,e,by rw[XT hr2.1 (by lia)];exact gb,ok.imp fun b hb'=> ?_,mk⟩;obtain⟨a,ha,rfl⟩:=hb';have hap:=dm a ha;have hi:pre.idxOf a<pre.length:=Js hap;have hio:order.idxOf a=pre.idxOf a:=by rw[ho,List.idxOf_append,if_pos hap]
 refine⟨by lia,?_⟩;rw[hio,Gz,Cq,Cg hi,Oe hi];have h3:=(a1 a ha).1;have hlt:=h3.lt;have ae:kds.length=rows.length:=by simpa using hb.len
 have lj:rows[a.toNat]? =some (WA rows a):=by
  unfold WA;rw[Cg (by have:=h3.1;lia)];rfl
 obtain⟨_,h5,_⟩:=hb.at lj;simp only[Mb,Fw] at h5;have:=h3.2;rw[h5] at this;injection this with this;rw[Mn,this]
theorem B4{rows:List dF}{kds:List Kd}(hb:Bl [] rows kds){ps:List (Int×Int)}(P:Prs rows ps){order:List Int}(o1:order.Perm (E7 rows.length))(o2: ∀p∈ps,∀k:Nat,order[k]? =some p.2->p.1∈order.take k): ∀(rest pre:List Int),order=pre++rest->Bl (pre.map fun a=>QL .w (WA rows a)) ((rest.map .int).map (IJ rows (LU order))) (order.map fun a=>QL .w (WA rows a))
 |[],pre,ho=>by rw[ho,Dn];exact .nil
 |r::rest,pre,ho=>by
  obtain⟨bp,e,_,ok,mk⟩:=zCD hb P o1 o2 ho;have er:=G4 e;have ih:=B4 hb P o1 o2 rest (pre++[r]) (by rw[ho,Ay];rfl);rw[Az,Az,er];refine .cons ok ?_;rw[mk];simpa using ih
theorem zAB(ns:List Int)(n:Nat)(most:Int)(hl:ns.length<=63)(hn:n<100000)(h0:0<=most)(h40:most<=40):
  ∃(sure:Int) (rows:List dF) (kds:List Kd) (n':Nat),Bl [] rows kds/\(rows.length:Int)<=most/\0<=sure/\sure<=64/\n'<=n+1000/\ZN [UM ns,V8 n,.int most]=some (.tup [.int sure,.tup rows],[V8 n']):=by
 obtain⟨x,hx,ex⟩:=WO ns n [.int 3,.int 6,.int 9,.int 64] hl (by lia) (by simp);obtain⟨ab,rfl,r0,r1⟩: ∃q:Int,x= .int q/\0<q/\q<=64:=by
  simp only[Ak,Ba,or_false] at hx;rcases hx with rfl|rfl|rfl|rfl<;>exact⟨_,rfl,by lia,by lia⟩
 have d1:=X3 ns (n+1) (ab+1) hl (by lia) (by lia);have d1a:=OK ns (n+1) (b:=ab+1) (by lia);have d1b:LB ns (n+1) (ab+1)<ab+1:=Eo _ (by lia);obtain⟨y,hy,ey⟩:=WO ns (n+2) [.int 0,.int ab,.int ab,.int (LB ns (n+1) (ab+1))] hl (by lia) (by simp);obtain⟨sure,rfl,s0,s1⟩: ∃q:Int,y= .int q/\0<=q/\q<=64:=by
  simp only[Ak,Ba,or_false] at hy;rcases hy with rfl|rfl|rfl|rfl<;>exact⟨_,rfl,by lia,by lia⟩
 have d2:=X3 ns (n+3) (most+1) hl (by lia) (by lia);have d2a:=OK ns (n+3) (b:=most+1) (by lia);have d2b:LB ns (n+3) (most+1)<most+1:=Eo _ (by lia);obtain⟨rows,kds,n1,hb,ae,m1,m2,e1⟩:=zAU ns (n+4) (LB ns (n+3) (most+1)) ab hl (by lia) r0 r1 d2a (by lia);have d3:=X3 ns n1 3 hl (by lia) (by decide);have hrl:rows.length<=40:=by lia
 by_cases h3:0<LB ns n1 3
 ·refine ⟨sure,rows,kds,n1 + 1,hb,by lia,s0,s1,by lia,?_⟩
  unfold ZN;rw[cH];unfold XH;simp[cF,ex,d1,ey,d2,e1,d3,h3]
 ·obtain ⟨ps,order,P,o1,o2,e2⟩ := A7 ns (n1 + 1) (sure := sure) hl (by lia) hb hrl
  have hol:order.length=rows.length:=by rw[o1.length_eq,L9]
  have nd:order.Nodup:=o1.nodup_iff.mpr ((IL _).imp fun h=>by lia);have c1:=WY 0 V5 (fun _=>true) (Z4 (c9 (fV 1) (c9 (fV 0) cD))) swD [] rfl (YU 0 (order.map .int)) [] (fun d hd=>by
   obtain⟨i,hi,e⟩:=Nh hd;obtain⟨z,_,rfl⟩:=OL (Ae.mpr ⟨hi,e⟩);exact⟨_,_,rfl,by simp,fun _=>by simp[swD]⟩) (by rw[OM];simp;lia)
  have f1:(YU 0 (order.map dF.int)).filter (fun _=>true)=YU 0 (order.map .int):=List.filter_eq_self.mpr fun _ _=>rfl;rw[f1,Dr] at c1;have hd:GH (.lst ((YU 0 (order.map .int)).map swD))=some (LU order):=by
   show(VO ((YU 0 (order.map .int)).map swD)).bind (fun kds=>if(kds.map Dh).Nodup then some (dF.dct (kds.map Dh) (kds.map Eh)) else none)=_;rw[JY,An,if_pos]
   ·rfl
   ·rw[QJ]
    exact Kt _ (fun a b h e=>h (by injection e)) nd
  have c2:=SS 2 (cV 2 [] cK (aE (f2 cI (f2 cI (fV 0) (fC (.int 1))) (fV 2)) (aE (fV 1) cG))) [.va (.tup [.int sure,.tup rows]),.va (LU order)] (IJ rows (LU order)) rfl (order.map .int) [] (fun d hd=>by
   obtain⟨r,hr,rfl⟩:=Be.mp hd;obtain⟨pre,rest,ho⟩:=List.append_of_mem hr;obtain⟨bp,e,ea,_,_⟩:=zCD hb P o1 o2 ho;have er:=G4 e;rw[er];simp[ea,e]) (by simp;lia)
  rw[Dr] at c2;have B:=B4 hb P o1 o2 order [] rfl;refine⟨sure,(order.map .int).map (IJ rows (LU order)),_,n1+1+rows.length,B,by simp;lia,s0,s1,by lia,?_⟩;have h3': ¬0<LB ns n1 3:=h3;unfold ZN;rw[cH];unfold XH;have hln:((order.map dF.int).map (IJ rows (LU order))).length<=16777216:=by simp;lia
  generalize (order.map dF.int).map (IJ rows (LU order))=R at*;generalize (YU 0 (order.map dF.int)).map swD=S at*;generalize LU order=D at*;simp[cF,ex,d1,ey,d2,e1,d3,h3',e2,cC,c1,hd,c2]
noncomputable def DL:Kd->Bool
 | .w=>true
 |_=>false
theorem zIY{kds:List Kd}{a:Int}(h:Nm kds .w a):Ab (kds.map DL) a:=⟨h.1,by rw[Cq,h.2];rfl⟩
theorem mkw{x:String}{t:List dF}:ZF [.tup (.str x::t)]=some (.bl (DL (QL .w (.tup (.str x::t)))),[]):=by
 unfold ZF;rw[cH];unfold WJ;by_cases h:x= "store"
 ·subst h
  simp[cF,Z0,QL,YW,DL]
 ·by_cases h2:x= "put"
  ·subst h2
   simp[cF,Z0,QL,YW,DL]
  ·have h3 : ¬ "store" = x := fun z => h z.symm
   have h4: ¬ "put"=x:=fun z=>h2 z.symm;simp[cF,Z0,QL,YW,DL,h,h2,h3,h4]
theorem zC5(rest:List dF)(blk rws:dF)(sure:Int){kds ak:List Kd}{rows:List dF}(h:Bl kds rows ak):kds.length+rows.length<1000-> ∀s:Sl,∃s',YD (gN 4) YS (rows++rest) [.va blk,.va (.int sure),.va rws,.ow (.lst ((kds.map DL).map .bl)),s]=YD (gN 4) YS rest [.va blk,.va (.int sure),.va rws,.ow (.lst ((ak.map DL).map .bl)),s']:=by
 induction h with
 |nil=>exact fun _ s=>⟨s,rfl⟩
 | @cons kds ak row rows ok h ih=>
  intro hk s;obtain⟨s',ih⟩:=ih (by simp at hk⊢;lia) (.va row);refine⟨s',?_⟩;have e:=AI (ok.imp fun a=>zIY);obtain⟨x,t,rfl,_⟩:=TM ok;have hk':kds.length<16777216:=by simp at hk;lia
  rw[Gs,Gs] at ih;simp only[Az,Eg] at ih;rw[Gd,WH,N4,Q5];have b1:YS [.va blk,.va (.int sure),.va rws,.ow (.lst ((kds.map DL).map .bl)),.va (.tup (.str x::t))]=some (.nx [.va blk,.va (.int sure),.va rws,.ow (.lst ((kds.map DL).map .bl++[.bl (DL (QL .w (.tup (.str x::t))))])),.va (.tup (.str x::t))]):=by
   unfold YS;simp only[Fh] at e;simp[e,mkw,hk',dF.hard]
  have s1:([.va blk,.va (.int sure),.va rws,.ow (.lst ((kds.map DL).map .bl)),s]:Ev).set 4 (.va (.tup (.str x::t)))=[.va blk,.va (.int sure),.va rws,.ow (.lst ((kds.map DL).map .bl)),.va (.tup (.str x::t))]:=rfl;rw[s1,b1,Q6];exact ih
theorem OY{sure:Int}{rows:List dF}{kds:List Kd}(h:Bl [] rows kds)(s0:0<=sure)(s1:sure<=64)(r40:rows.length<=40):ZM [.tup [.int sure,.tup rows]]=some (.bl true,[]):=by
 obtain⟨s',e1⟩:=zC5 [] (.tup [.int sure,.tup rows]) (.tup rows) sure h (by simp;lia) .no;rw[Dn] at e1;simp only[Eg] at e1;have h40: ¬(40:Int)<(rows.length:Int):=by lia
 unfold ZM;rw[cH,T4.eq_1];simp[cF,U6,U5,s0,s1,h40,e1]
noncomputable def qK2(ix:List Nat)(nl:Nat)(r:Option (List dF×Ev))(gg:VG)(tb:VB)(fi2:VI)(gg2:VG)(tb2:VB)(fe:VF):Option (dF×Ev):=r.bind fun p=>(YM ix.length nl gg tb fi2 gg2 tb2 fe p.1 [] (cC ix p.2)).map fun q=>(.lst q.1,Z1 ix q.2 p.2)
@[simp] theorem zIP{ix:List Nat}{nl:Nat}{fi fi2:VI}{gg gg2:VG}{tb tb2:VB}{fe:VF}{δ:Ev}:RP ix nl fi gg tb fi2 gg2 tb2 fe δ=qK2 ix nl (fi δ) gg tb fi2 gg2 tb2 fe:=(rfl)
@[simp] theorem zN8{ix:List Nat}{nl:Nat}{fi2:VI}{gg gg2:VG}{tb tb2:VB}{fe:VF}{ds:List dF}{δ:Ev}:qK2 ix nl (some (ds,δ)) gg tb fi2 gg2 tb2 fe=qKb ix δ (YM ix.length nl gg tb fi2 gg2 tb2 fe ds [] (cC ix δ)):=(rfl)
noncomputable def DP(n:Nat):Nat->Nat->List dF
 |_,0=>[]
 |j,k+1=>(bD ((j:Int)+1) ((n:Int) - ((j:Int)+1)).toNat).map (fun d=>dF.tup [.int j,d])++DP n (j+1) k
theorem AF(n i:Int): ∀(ds acc:List dF) (s:Sl),acc.length+ds.length<100000-> ∃s',N5 (gN 2) V5 (Z4 (c9 (fV 1) (c9 (fV 2) cD))) ds acc [.va (.int n),.va (.int i),s]=some (acc++ds.map (fun d=>dF.tup [.int i,d]),[.va (.int n),.va (.int i),s'])
 |[],acc,s,_=>⟨s,by simp[N5]⟩
 |d::ds,acc,s,hl=>by
  simp only[Bm] at hl;obtain⟨s',ih⟩:=AF n i ds (acc++[.tup [.int i,d]]) (.va d) (by simp;lia);refine⟨s',?_⟩;have au:acc.length<16777216:=by lia
  simp only[N5];simp[au,ih]
theorem FY(n:Nat)(hn:n<=40): ∀(k j:Nat) (acc:List dF),j+k<=40->acc.length+k*40<100000->YM 1 2 (gN 1) V5 (iR2 (f2 ZR (fV 1) (fC (.int 1))) (fV 0)) (gN 2) V5 (Z4 (c9 (fV 1) (c9 (fV 2) cD))) (bD (j:Int) k) acc [.va (.int n)]=
  some (acc++DP n j k,[.va (.int n)])
 |0,j,acc,_,_=>by simp[bD,YM,DP]
 |k+1,j,acc,hj,hl=>by
  have hrl:(bD ((j:Int)+1) ((n:Int) - ((j:Int)+1)).toNat).length<=40:=by simp[bD];lia
  obtain⟨s',e⟩:=AF (n:Int) (j:Int) (bD ((j:Int)+1) ((n:Int) - ((j:Int)+1)).toNat) acc .no (by lia);have ih:=FY n hn k (j+1) (acc++(bD ((j:Int)+1) ((n:Int) - ((j:Int)+1)).toNat).map (fun d=>dF.tup [.int j,d])) (by lia) (by simp;lia);have ei:iR2 (f2 ZR (fV 1) (fC (.int 1))) (fV 0) [.va (.int n),.va (.int j),.no]=some (bD ((j:Int)+1) ((n:Int) - ((j:Int)+1)).toNat,[.va (.int n),.va (.int j),.no]):=zCY (δ1:=[.va (.int n),.va (.int j),.no]) rfl rfl (by lia);rw[R0];simp -implicitDefEqProofs only[YM,AY,Gd,Dr,N4,Hw,Hx,An,zAC,if_true,ei,e,Nd,Rf];rw[show((j:Int)+1)=((j+1:Nat):Int) by push_cast;rfl] at ih⊢;rw[ih];simp[DP]
theorem GS(n:Nat)(hn:n<=40): ∀k j,(DP n j k).length<=k*40
 |0,j=>by simp[DP]
 |k+1,j=>by
  have:=GS n hn k (j+1);simp[DP,bD];lia
theorem GU(n:Nat){d:dF}: ∀k j,j+k<=n->d∈DP n j k-> ∃a b:Nat,d= .tup [.int a,.int b]/\a<b/\b<n
 |0,j,_,h=>by simp[DP] at h
 | k + 1,j,hk,h => by
  rcases Bo.mp h with h|h
  ·obtain⟨e,he,rfl⟩:=Be.mp h
   unfold bD at he;obtain⟨q,hq,rfl⟩:=Be.mp he;have:=Ci.mp hq;exact⟨j,j+1+q,by push_cast;rfl,by lia,by lia⟩
  ·exact GU n k (j+1) (by lia) h
noncomputable def styB(sure:Int)(rows:List dF):dF->Bool
 | .tup [a,b]=>cbO (bW [.tup [.int sure,.tup rows],a,b])
 |_=>false
theorem BJ{sure:Int}{rows:List dF}{n:Nat}: ∀k j:Nat,j+k<=n->(DP n j k).filter (styB sure rows)=(pq sure rows n j k).map cA
 |0,j,_=>rfl
 | k + 1,j,h => by
  have e:pq sure rows n j (k+1)=((Hj (j+1) (n - (j+1))).filter fun b=>mS sure rows (j:Nat) (b:Nat)).map (fun b=>(((j:Nat):Int),((b:Nat):Int)))++pq sure rows n (j+1) k:=by
   unfold pq;rw[Ln,Pa]
  have er:bD ((j:Int)+1) ((n:Int) - ((j:Int)+1)).toNat=(Hj (j+1) (n - (j+1))).map fun b:Nat=>dF.int b:=by
   rw[show((n:Int) - ((j:Int)+1)).toNat=n - (j+1) by lia];unfold bD;rw[List.range'_eq_map_range,Fh];refine Ex fun b _=> ?_;simp only[Iy];congr 1
  rw[e,Gs,<- BJ k (j+1) (by lia)];show((bD ((j:Int)+1) ((n:Int) - ((j:Int)+1)).toNat).map (fun d=>dF.tup [.int j,d])++DP n (j+1) k).filter _=_;rw[List.filter_append,er,Fh,Qx,Fh];rfl
theorem zBN{sure:Int}{rows:List dF}{kds:List Kd}(hb:Bl [] rows kds)(s0:0<=sure)(s1:sure<=64)(r40:rows.length<=40):RD [.tup [.int sure,.tup rows]]=some (.lst ((pq sure rows rows.length 0 rows.length).map cA),[]):=by
 have e1:=OY hb s0 s1 r40;have e2:=FY rows.length r40 rows.length 0 [] (by lia) (by simp;lia);have e3:=WY 1 (fB (cV 3 [] bW (aE (fV 0) (aE (fV 1) (aE (fV 2) cG))))) (styB sure rows) (Z4 (c9 (fV 1) (c9 (fV 2) cD))) id [.va (.tup [.int sure,.tup rows])] rfl (DP rows.length 0 rows.length) [] (fun d hd=>by
  obtain⟨a,b,rfl,h1,h2⟩:=GU rows.length rows.length 0 (by lia) hd;have hq:=(MD (sure:=sure) hb (i:=a) (j:=b) (by lia) h2).1;refine⟨_,_,rfl,?_,fun _=>by simp⟩;simp -implicitDefEqProofs [hq,styB,cbO]) (by have:=GS rows.length r40 rows.length 0;simp;lia)
 simp only[Dr,List.map_id] at e2 e3;rw[show((0:Nat):Int)=0 from rfl] at e2;rw[BJ _ _ (by lia)] at e3;have e4:ZG [.tup [.int sure,.tup rows]]=some (.lst ((pq sure rows rows.length 0 rows.length).map cA),[]):=by
  unfold ZG;rw[cH];unfold WK;have hr:(-4611686018427387904:Int)<=rows.length/\(rows.length:Int)<4611686018427387904:=by lia
  simp -implicitDefEqProofs [cF,cC,hr,e2,e3]
 unfold RD;rw[cH];unfold HW;simp -implicitDefEqProofs [cF,e1,e4]
noncomputable def fd(sure:Int)(rows:List dF)(r:Nat):Nat->List Nat->List Nat
 |0,fs=>fs
 |k+1,fs=>fd sure rows r k (if(fs++[r]).any fun l=>mS sure rows (k:Nat) (l:Nat) then fs++[k] else fs)
noncomputable abbrev nI(fs:List Nat):List dF:=fs.map fun f:Nat=>dF.int f
theorem NG(k:Nat):UN (k+1)= .int k::UN k:=by
 unfold UN;rw[Fb,Az,Fh];refine congr (congrArg List.cons (by congr 1;push_cast;lia)) (Ex fun i _=> ?_);simp only[Iy];congr 1;push_cast
 lia
theorem JL: ∀bs:List Bool,SN (bs.map .bl)=some bs
 |[]=>rfl
 |b::bs=>by
  show(SN (bs.map .bl)).map (fun ks=>b::ks)=_;rw[JL bs];rfl
theorem FS{sure:Int}{rows:List dF}{kds:List Kd}(hb:Bl [] rows kds){r:Nat}(hr:r<rows.length)(r40:rows.length<=40): ∀(k:Nat) (fs:List Nat) (s3:Sl),k<=r->(∀f∈fs,k<=f/\f<rows.length)->fs.length+k<=r-> ∃t3:Sl,(fd sure rows r k fs).length<=r/\YD (gN 3) WX (UN k) [.va (.tup [.int sure,.tup rows]),.va (.int r),.ow (.lst (nI fs)),s3]=some (.nx [.va (.tup [.int sure,.tup rows]),.va (.int r),.ow (.lst (nI (fd sure rows r k fs))),t3])
 |0,fs,s3,_,_,hl=>⟨s3,by simpa[fd] using hl,by simp[UN,fd]⟩
 | k + 1,fs,s3,hk,hf,hl => by
  have hc:=SS 2 (cV 3 [] bW (aE (fV 0) (aE (fV 1) (aE (fV 2) cG)))) [.va (.tup [.int sure,.tup rows]),.va (.int k)] (fun d=>match d with| .int l=> .bl (mS sure rows k l)|_=> .non) rfl (nI (fs++[r])) [] (fun d hd=>by
   obtain⟨l,hl,rfl⟩:=Be.mp hd;have hl2:l<rows.length:=by
    rcases Bo.mp hl with h|h
    ·exact(hf l h).2
    ·rw[Ar.mp h];exact hr
   have e:=(MD (sure:=sure) hb (i:=k) (j:=l) (by lia) hl2).1;simp[e]) (by simp;lia)
  rw[Dr,Fh] at hc;have he:((fun d:dF=>match d with| .int l=>dF.bl (mS sure rows k l)|_=> .non)∘fun f:Nat=>dF.int f)=fun l:Nat=>dF.bl (mS sure rows k l):=rfl;rw[he] at hc;have ha:oAny (.lst ((fs++[r]).map fun l:Nat=>dF.bl (mS sure rows k l)))=some (.bl ((fs++[r]).any fun l=>mS sure rows (k:Nat) (l:Nat))):=by
   have:=JL ((fs++[r]).map fun l:Nat=>mS sure rows k l);rw[Fh] at this;show(SN ((fs++[r]).map (dF.bl∘fun l:Nat=>mS sure rows k l))).map (fun ks=>dF.bl (ks.any id))=_;rw[this,Mn,Si];rfl
  have hp:nI fs++[.int r]=nI (fs++[r]):=by simp[nI]
  have au:fs.length<16777216:=by lia
  obtain⟨t3,h1,ih⟩:=FS hb hr r40 k (if(fs++[r]).any fun l=>mS sure rows (k:Nat) (l:Nat) then fs++[k] else fs) (.va (.int k)) (by lia) (fun f h=>by
   split at h
   ·rcases Bo.mp h with h|h
    ·have:=hf f h;lia
    ·have:=Ar.mp h;lia
   ·have:=hf f h;lia) (by split<;>(try rw[Cd,Ff])<;>lia)
  refine⟨t3,h1,?_⟩;rw[NG,WH];have e2:WX [.va (.tup [.int sure,.tup rows]),.va (.int r),.ow (.lst (nI fs)),.va (.int k)]=some (.nx [.va (.tup [.int sure,.tup rows]),.va (.int r),.ow (.lst (nI (if(fs++[r]).any fun l=>mS sure rows (k:Nat) (l:Nat) then fs++[k] else fs))),.va (.int k)]):=by
   unfold WX;have hk2:nI (fs++[k])=nI fs++[.int k]:=by simp[nI]
   have ae:(nI fs).length<16777216:=by simp[nI];lia
   have hle:(nI fs).length<=16777215:=by lia
   generalize (fs++[r]).map (fun l:Nat=>dF.bl (mS sure rows k l))=Z at*;generalize ((fs++[r]).any fun l=>mS sure rows (k:Nat) (l:Nat))=c at*;generalize nI (fs++[r])=Y at*;cases c
   ·rw [if_neg (by decide)]
    generalize nI fs=N at*;simp -implicitDefEqProofs [-GG,cC,hp,hc,ha,hle]
   ·rw[if_pos rfl,hk2]
    generalize nI fs=N at*;simp -implicitDefEqProofs [-GG,cC,hp,hc,ha,ae,hle]
  rw[N4];simp only[Hw,Hx];rw[Q5,e2,Q6,ih];rfl
theorem zET{k:Nat}(fs:List Nat): ∀d∈nI fs,TD k d:=fun d h=>by
 obtain⟨f,_,rfl⟩:=Be.mp h;exact aM
noncomputable def pf(r:Nat)(fs:List Nat)(o:Nat):dF->Bool
 | .tup [.int a,.int b]=>decide (a=o) && (decide (b=r) || QZ (.int b) (nI fs))
 |_=>false
theorem L3(fs:List Nat):nI fs=(fs.map fun f:Nat=>(f:Int)).map .int:=by simp[nI]
noncomputable def fSnd:dF->dF
 | .tup [_,b]=>b
 |_=> .non
theorem zFP{sure:Int}{rows:List dF}{r o:Nat}{fs:List Nat}(ho:o<r)(hr:r<rows.length)(hf: ∀f∈fs,o<f/\f<rows.length):((((pq sure rows rows.length 0 rows.length).map cA).filter (pf r fs o)).map fSnd).isEmpty= !((fs++[r]).any fun l=>mS sure rows (o:Nat) (l:Nat)):=by
 have h: ∀{b c:Bool},(b=false↔c=true)->b= !c:=fun{b c} h=>by cases b<;>cases c<;>simp_all
 refine h ?_;rw[List.isEmpty_eq_false_iff_exists_mem,List.any_eq_true];constructor
 ·rintro ⟨d,hd⟩
  obtain⟨e,he,rfl⟩:=Be.mp hd;obtain⟨he1,he2⟩:=Ec.mp he;obtain⟨x,hx,rfl⟩:=Be.mp he1;obtain⟨a,b,h1,h2,h3,rfl⟩:=RV.mp hx;have he2:(decide ((a:Int)=o) && (decide ((b:Int)=r) || QZ (.int (b:Int)) (nI fs)))=true:=he2;rw[L3,Ad,Fu,decide_eq_true_eq,decide_eq_true_eq,SW] at he2;obtain⟨g1,g2⟩:=he2;obtain rfl:a=o:=by lia
  refine⟨b,?_,h3⟩;rcases g2 with g|g
  ·exact Bo.mpr (.inr (Ar.mpr (by lia)))
  ·obtain⟨f,hf,e⟩:=Be.mp g
   obtain rfl:f=b:=by lia
   exact Bo.mpr (.inl hf)
 ·rintro ⟨l,hl,hm⟩
  have hl2:o<l/\l<rows.length:=by
   rcases Bo.mp hl with h|h
   ·exact hf l h
   ·rw[Ar.mp h];exact⟨ho,hr⟩
  refine⟨_,Be.mpr ⟨cA ((o:Int),(l:Int)),Ec.mpr ⟨Be.mpr ⟨_,RV.mpr ⟨o,l,hl2.1,hl2.2,hm,rfl⟩,rfl⟩,?_⟩,rfl⟩⟩;show(decide ((o:Int)=o) && (decide ((l:Int)=r) || QZ (.int (l:Int)) (nI fs)))=true;rw[L3,Ad,Fu,decide_eq_true_eq,decide_eq_true_eq,SW];refine⟨rfl,?_⟩;rcases Bo.mp hl with h|h
  ·exact .inr (Be.mpr ⟨l,h,rfl⟩)
  ·exact .inl (by rw[Ar.mp h])
noncomputable abbrev s05(a b:Sl)(blk:dF)(ps:List (Int×Int))(r:Nat)(fs:List Nat)(s6:Sl):Ev:=[a,b,.va blk,.va (.lst (ps.map cA)),.va (.int r),.ow (.lst (nI fs)),s6]
theorem zCU{sure:Int}{rows:List dF}{r:Nat}(hr:r<rows.length)(r40:rows.length<=40)(hl:(pq sure rows rows.length 0 rows.length).length<=1600)(a b:Sl): ∀(k:Nat) (fs:List Nat) (s6:Sl),k<=r->(∀f∈fs,k<=f/\f<rows.length)->fs.length+k<=r-> ∃t6:Sl,YD (gN 6) QA (UN k) (s05 a b (.tup [.int sure,.tup rows]) (pq sure rows rows.length 0 rows.length) r fs s6)=some (.nx (s05 a b (.tup [.int sure,.tup rows]) (pq sure rows rows.length 0 rows.length) r (fd sure rows r k fs) t6))
 |0,fs,s6,_,_,_=>⟨s6,by simp[UN,fd]⟩
 | k + 1,fs,s6,hk,hf,ae => by
  have hc:=WY 3 (SM (fB (f2 XO (fV 3) (fV 2))) (FT (fB (f2 XO (fV 4) (fV 0))) (fB (f2 (bI false) (fV 4) (fO 1))))) (pf r fs k) (fV 4) fSnd [.va (.int r),.ow (.lst (nI fs)),.va (.int k)] rfl ((pq sure rows rows.length 0 rows.length).map cA) [] (fun d hd=>by
   obtain⟨⟨x,y⟩,_,rfl⟩:=Be.mp hd;refine⟨.int x,.int y,rfl,?_,fun _=>by simp[cA,fSnd]⟩;have hpf:pf r fs k (cA (x,y))=(decide (x=k) && (decide (y=r) || QZ (.int y) (nI fs))):=rfl;have hin:bI false (.int y) (.lst (nI fs))=some (.bl (QZ (.int y) (nI fs))):=by
    rw[PD (j:=0) (k:=0) aM (zET fs)];simp
   rw[hpf];generalize nI fs=N at*;by_cases h1:x=k
   ·by_cases h2:y=r
    ·simp[h1,h2]
    ·simp[h1,h2,hin]
   ·simp[h1]) (by simp;lia)
  rw[Dr] at hc;dsimp only[GP,Nat.reduceAdd] at hc;have hne:=NA (j:=1) (k:=0+1) (d:= .lst ((((pq sure rows rows.length 0 rows.length).map cA).filter (pf r fs k)).map fSnd)) (e:= .lst []) (Z7 fun d hd=>by
   obtain⟨e,he,rfl⟩:=Be.mp hd;obtain⟨⟨x,y⟩,_,rfl⟩:=Be.mp (Ec.mp he).1;exact aM (k:=0)) (Z7 ZC)
  rw[ON,zFP (by lia) hr fun f h=>by have:=hf f h;lia,Bool.not_not] at hne;obtain⟨t6,ih⟩:=zCU hr r40 hl a b k (if(fs++[r]).any fun l=>mS sure rows (k:Nat) (l:Nat) then fs++[k] else fs) (.va (.int k)) (by lia) (fun f h=>by
   split at h
   ·rcases Bo.mp h with h|h
    ·have:=hf f h;lia
    ·have:=Ar.mp h;lia
   ·have:=hf f h;lia) (by split<;>(try rw[Cd,Ff])<;>lia)
  refine⟨t6,?_⟩;rw[NG,WH];have e2:QA (s05 a b (.tup [.int sure,.tup rows]) (pq sure rows rows.length 0 rows.length) r fs (.va (.int k)))=some (.nx (s05 a b (.tup [.int sure,.tup rows]) (pq sure rows rows.length 0 rows.length) r (if(fs++[r]).any fun l=>mS sure rows (k:Nat) (l:Nat) then fs++[k] else fs) (.va (.int k)))):=by
   unfold QA;have hk2:nI (fs++[k])=nI fs++[.int k]:=by simp[nI]
   have ae:(nI fs).length<16777216:=by simp[nI];lia
   simp only[s05];generalize (((pq sure rows rows.length 0 rows.length).map cA).filter (pf r fs k)).map fSnd=W at*;generalize (pq sure rows rows.length 0 rows.length).map cA=D at*;generalize ((fs++[r]).any fun l=>mS sure rows (k:Nat) (l:Nat))=c at*;cases c
   ·rw [if_neg (by decide)]
    generalize nI fs=N at*;simp -implicitDefEqProofs [cC,hc,hne]
   ·rw[if_pos rfl,hk2]
    generalize nI fs=N at*;simp -implicitDefEqProofs [cC,hc,hne,ae]
  rw[N4];simp only[Hw,Hx];rw[Q5,e2,Q6,ih];rfl
end L2
namespace RR
open PySem L2
theorem KO{sure:Int}{rows:List dF}{kds:List Kd}(h:Bl [] rows kds)(s0:0<=sure)(s1:sure<=64)(r40:rows.length<=40){k:Nat}(hk:k<rows.length):YA [.tup [.int sure,.tup rows],.int k]=some (rows[k],[]):=by
 have e:=OY h s0 s1 r40;have h1:(k:Int)<=(rows.length:Int) - 1:=by lia
 have ea:=OI (Cg hk);unfold YA;rw[cH];unfold OT;simp[cF,e,h1,ea]
theorem zCF{f:VF}{δ:Ev}{r:Nat}(h:f δ=some (.int r,δ))(hr:r<=40):iRB f δ=some (UN r,δ):=by
 unfold iRB;rw[h,An];have hb: -4611686018427387904<=(r:Int)/\(r:Int)<4611686018427387904:=by lia
 refine Eq.trans (if_pos hb) ?_;rw[Gz]
theorem CM{fs:List Nat}(h:fs.length<=40):L5 (.lst (nI fs))=some (.lst ((W7 (fs.map fun f:Nat=>(f:Int))).map .int)):=by
 rw[L3];show(YQ ((fs.map fun f:Nat=>(f:Int)).map .int)).bind (fun ns=>if ns.length<64 then some (dF.lst ((W7 ns).map dF.int)) else none)=_;rw[UX,An,if_pos (by simp;lia)]
theorem zAE{sure:Int}{rows:List dF}{kds:List Kd}(hb:Bl [] rows kds)(s0:0<=sure)(s1:sure<=64)(r40:rows.length<=40){r:Nat}(hr:r<rows.length):(fd sure rows r r []).length<=r/\UR [.tup [.int sure,.tup rows],.int r]=some (.lst ((W7 ((fd sure rows r r []).map fun f:Nat=>(f:Int))).map .int),[]):=by
 have e1:=KO hb s0 s1 r40 hr;obtain⟨t3,hl,e2⟩:=FS (sure:=sure) hb hr r40 r [] .no (Ag _) (fun _ h=>nomatch h) (by simp);refine⟨hl,?_⟩;have e3:=CM (fs:=fd sure rows r r []) (by lia);have e4:iRB (fV 1) [.va (.tup [.int sure,.tup rows]),.va (.int r),.ow (.lst []),.no]=some (UN r,[.va (.tup [.int sure,.tup rows]),.va (.int r),.ow (.lst []),.no]):=zCF rfl (by lia);have e2:YD (gN 3) WX (UN r) [.va (.tup [.int sure,.tup rows]),.va (.int r),.ow (.lst []),.no]=_:=e2;unfold UR;rw[cH];unfold LY;generalize nI (fd sure rows r r [])=N at*;generalize dF.tup [.int sure,.tup rows]=blk at*;simp -implicitDefEqProofs [cF,e1,e4,e2,e3]
theorem CT(b:Bool):aB [.bl b,.bl b]=some (.bl true,[]):=by cases b<;>kernel_rfl
theorem zAO{sure:Int}{rows:List dF}{kds:List Kd}(hb:Bl [] rows kds)(s0:0<=sure)(s1:sure<=64)(r40:rows.length<=40)(hl:(pq sure rows rows.length 0 rows.length).length<=1600)(a b:Sl){r:Nat}(hr:r<rows.length)(s5 s6:Sl): ∃t5 t6:Sl,QB [a,b,.va (.tup [.int sure,.tup rows]),.va (.lst ((pq sure rows rows.length 0 rows.length).map cA)),.va (.int r),s5,s6]=some (.nx [a,b,.va (.tup [.int sure,.tup rows]),.va (.lst ((pq sure rows rows.length 0 rows.length).map cA)),.va (.int r),t5,t6]):=by
 obtain⟨c,f1,f2⟩:=O8 (sure:=sure) hb (i:=(r:Int)) (by lia) (by lia);have e1:=KO hb s0 s1 r40 hr;have em:Y6 [.tup [.int sure,.tup rows],.int r]=some (.bl c,[]):=by
  unfold Y6;rw[cH];unfold VH;simp[cF,e1,f2]
 have et:=CT c;obtain⟨hfl,ea⟩:=zAE hb s0 s1 r40 hr;obtain⟨t6,e2⟩:=zCU hr r40 hl a b r [] s6 (Ag _) (fun _ h=>nomatch h) (by simp);have e3:=CM (fs:=fd sure rows r r []) (by lia);have hne:=NA (j:=1) (k:=1) (Z7 (YE (k:=0) (W7 ((fd sure rows r r []).map fun f:Nat=>(f:Int))))) (Z7 (YE (k:=0) (W7 ((fd sure rows r r []).map fun f:Nat=>(f:Int)))));rw[JS (Z7 (YE (k:=0) _)),Sa] at hne;have e4:iRB (fV 4) (s05 a b (.tup [.int sure,.tup rows]) (pq sure rows rows.length 0 rows.length) r [] s6)=some (UN r,s05 a b (.tup [.int sure,.tup rows]) (pq sure rows rows.length 0 rows.length) r [] s6):=zCF rfl (by lia);simp only[s05] at e2 e4;have hn0:nI []=[]:=rfl;rw[hn0] at e2 e4;refine⟨.ow (.lst (nI (fd sure rows r r []))),t6,?_⟩;generalize nI (fd sure rows r r [])=N at*;generalize (W7 ((fd sure rows r r []).map fun f:Nat=>(f:Int))).map dF.int=L at*;generalize (pq sure rows rows.length 0 rows.length).map cA=D at*;generalize dF.tup [.int sure,.tup rows]=blk at*;unfold QB;simp -implicitDefEqProofs [em,f1,et,e4,e2,ea,e3,hne]
theorem GA{sure:Int}{rows:List dF}{kds:List Kd}(hb:Bl [] rows kds)(s0:0<=sure)(s1:sure<=64)(r40:rows.length<=40)(hl:(pq sure rows rows.length 0 rows.length).length<=1600)(a b:Sl): ∀(k i:Nat) (s4 s5 s6:Sl),i+k<=rows.length-> ∃t4 t5 t6:Sl,YD (gN 4) QB (bD (i:Int) k) [a,b,.va (.tup [.int sure,.tup rows]),.va (.lst ((pq sure rows rows.length 0 rows.length).map cA)),s4,s5,s6]=some (.nx [a,b,.va (.tup [.int sure,.tup rows]),.va (.lst ((pq sure rows rows.length 0 rows.length).map cA)),t4,t5,t6])
 |0,i,s4,s5,s6,_=>⟨s4,s5,s6,by simp[bD]⟩
 |k+1,i,s4,s5,s6,h=>by
  obtain⟨t5,t6,e⟩:=zAO hb s0 s1 r40 hl a b (r:=i) (by lia) s5 s6;obtain⟨u4,u5,u6,ih⟩:=GA hb s0 s1 r40 hl a b k (i+1) (.va (.int i)) t5 t6 (by lia);refine⟨u4,u5,u6,?_⟩;rw[R0,WH,N4];simp only[Hw,Hx];rw[Q5,e,Q6,show((i:Int)+1)=((i+1:Nat):Int) by push_cast;rfl,ih]
theorem AR(ns:List Int)(hl:ns.length<=63):MK [.lst (ns.map .int)]=some (.bl true,[]):=by
 obtain⟨sure,rows,kds,n,hb,ae,s0,s1,hn,e1⟩:=zAB ns 0 14 hl (by lia) (by lia) (by lia);have r40:rows.length<=40:=by lia
 have hS:dF.lst (ns.map .int)=UM ns:=rfl;obtain⟨hp,e2⟩:=J8 (sure:=sure) hb r40;have e3:=zBN hb s0 s1 r40;obtain⟨t4,t5,t6,e4⟩:=GA hb s0 s1 r40 hp (.va (UM ns)) (.ow (V8 n)) rows.length 0 .no .no .no (by lia);rw[show((0:Nat):Int)=0 from rfl] at e4;have kp:TD 2 (.lst ((pq sure rows rows.length 0 rows.length).map cA)):=Z7 fun d hd=>by
  obtain⟨⟨x,y⟩,_,rfl⟩:=Be.mp hd;exact TF (aU aM (aU aM ZC))
 have hne:=NA kp kp;rw[JS kp,Sa] at hne;have hx:cF [] 7 [UM ns]=[.va (UM ns),.no,.no,.no,.no,.no,.no]:=(rfl);have cx:(aG 1 (xO (Y7 cD))) [.va (UM ns),.no,.no,.no,.no,.no,.no]=some (.nx [.va (UM ns),.ow (V8 0),.no,.no,.no,.no,.no]):=(rfl);have hr:(-4611686018427387904:Int)<=rows.length/\(rows.length:Int)<4611686018427387904:=by lia
 rw[hS];unfold MK;rw[cH,zA1.eq_1,hx,CA,cx,qS_n];generalize (pq sure rows rows.length 0 rows.length).map cA=D at*;simp -implicitDefEqProofs [-WH,e1,e2,e3,hne,hr,e4]
end RR
namespace KK
open PySem PySem.W
noncomputable abbrev g(a i:Nat)(n:Str)(d m:Value):Obj:=⟨.type "function",none,.func (fnOf n n (L2.YG (RR.top i)) (L2.ZJ (RR.top i)) (L2.cY (RR.top i)) d .none .none m none (.ref (a - 1)) .none),#[]⟩
theorem p(P:Qb)(a i:Nat)(n:Str)(m:Value)(h1:nsIn (K P) mainGlobals n=some (some (.ref a)):=by kernel_rfl)(h2:(K P).lookup a=some (g a i n .none m):=by kernel_rfl)(h3:codeIn (K P) (.ref (a - 1)) n=true:=by kernel_rfl):L2.A4 (K P) n (RR.top i) a:=L2.a4 h1 h2 h3 (by unfold keepIn;simp only[h2])
end KK
namespace RR
open PySem L2
abbrev Zn(K:Ap)(x:Str):Prop:=Pe K mainGlobals x=some none
abbrev Gn(K:Ap)(x:Str)(v:Value):Prop:=Pe K mainGlobals x=some (some v)
theorem OF{α:Type}{P:List α->Prop}(z: ∀a,P [a]): ∀us:List α,us.length=1->P us
 |[a],_=>z a
theorem OG{α:Type}{P:List α->Prop}(z: ∀a b,P [a,b]): ∀us:List α,us.length=2->P us
 |[a,b],_=>z a b
theorem JH{α:Type}{P:List α->Prop}(z: ∀a b c,P [a,b,c]): ∀us:List α,us.length=3->P us
 |[a,b,c],_=>z a b c
theorem Len4{α:Type}{P:List α->Prop}(z: ∀a b c d,P [a,b,c,d]): ∀us:List α,us.length=4->P us
 |[a,b,c,d],_=>z a b c d
theorem Len5{α:Type}{P:List α->Prop}(z: ∀a b c d e,P [a,b,c,d,e]): ∀us:List α,us.length=5->P us
 |[a,b,c,d,e],_=>z a b c d e
theorem Len6{α:Type}{P:List α->Prop}(z: ∀a b c d e f,P [a,b,c,d,e,f]): ∀us:List α,us.length=6->P us
 |[a,b,c,d,e,f],_=>z a b c d e f
theorem zGG{l:Sg}{w:World}{K:Ap}{h:Heap}{mg:Str->Option Value}{fa:Addr}(X:K.In h)(G:h.Ns mainGlobals mg)(hfa:mg "law"=some (.ref fa))
  {f_x0 f_x1 f_x2 f_x3 f_x4 f_x5 f_x6 f_x7 f_x8 f_x9 f_x10 f_x11 f_x12 f_x13 f_x14 f_x15 f_x16 f_x17 f_x18 f_x19 f_x20 f_x21 f_x22 f_x23 f_x24 f_x25 f_x27 f_x26 f_x29 f_x30 f_x31 f_x32 f_x33 f_x28 f_x34:Addr}
  {kV_x34 dc_x34 pm_x34 cd_x34 ct_x34:Value}
  {t1 t2 t3 t4 t5 t6 t7 t8:Tok}
  {a9:Addr}
  {t10 t11 t12 t13 t14:Tok}
  {a15:Addr}
  {t16 t17 t18 t19 t20 t21 t22:Tok}
  {a23:Addr}
  {t24 t25 t26:Tok}
  {a27:Addr}
  {t28:Tok}
  {a29:Addr}
  {t30 t31 t32:Tok}
  {a33:Addr}
  {t34 t35:Tok}
  {a36:Addr}
  {t37 t38 t39:Tok}
  {a40 a41:Addr}
  {h42 h43 h44 h45 h46 h47:Int}
  {t48 t49:Tok}
  {a50:Addr}
  {t51 t52:Tok}
  {a53:Addr}
  (mj:A4 K "is_whole" (top 7) f_x0)
  (mi:A4 K "parts_of" (top 16) f_x1)
  (mh:A4 K "makes_word" (top 17) f_x2)
  (mf:A4 K "place_of" (top 18) f_x3)
  (me:A4 K "names_of" (top 19) f_x4)
  (md:A4 K "may_name" (top 20) f_x5)
  (ma:A4 K "fits" (top 21) f_x6)
  (m9:A4 K "is_row" (top 22) f_x7)
  (m8:A4 K "is_block" (top 23) f_x8)
  (m6:A4 K "row_at" (top 24) f_x9)
  (kq:A4 K "writes" (top 26) f_x10)
  (ko:A4 K "is_safe_number" (top 27) f_x11)
  (kn:A4 K "can_fault" (top 28) f_x12)
  (km:A4 K "share_written_cell" (top 29) f_x13)
  (kj:A4 K "must_stay" (top 30) f_x14)
  (ki:A4 K "must_pairs" (top 31) f_x15)
  (kg:A4 K "may_fault" (top 32) f_x16)
  (kf:A4 K "must" (top 33) f_x17)
  (kc:A4 K "ahead" (top 34) f_x18)
  (k9:A4 K "_law_cell_at" (top 36) f_x19)
  (k8:A4 K "_law_mixed" (top 37) f_x20)
  (k7:A4 K "_law_draw" (top 38) f_x21)
  (k6:A4 K "_law_pick" (top 39) f_x22)
  (k5:A4 K "_law_same_truth" (top 40) f_x23)
  (k4:A4 K "_law_place" (top 41) f_x24)
  (jz:A4 K "_law_row" (top 42) f_x25)
  (jx:A4 K "_law_next" (top 44) f_x27)
  (jy:A4 K "_law_rows" (top 43) f_x26)
  (jv:A4 K "_law_names" (top 46) f_x29)
  (ju:A4 K "_law_may" (top 47) f_x30)
  (jt:A4 K "_law_must" (top 48) f_x31)
  (js:A4 K "_law_mixed_order" (top 49) f_x32)
  (jr:A4 K "_law_renamed" (top 50) f_x33)
  (jw:A4 K "_law_block" (top 45) f_x28)
  (lx:Pe K mainGlobals "law"=some (some (.ref f_x34)))
  (lc:K.lookup f_x34=some ⟨.type "function",none,.func (Mu "law" "law" (YG (top 51)) (ZJ (top 51)) (cY (top 51)) .none kV_x34 dc_x34 pm_x34 none cd_x34 ct_x34),#[]⟩)
  (lw:Np K cd_x34 "law"=true)
  (lg:Mo K (.ref f_x34)=true)
  (jj:Zn K "len")
  (i9:Zn K "range")
  (jh:Zn K "min")
  (ji:Zn K "max")
  (iq:Zn K "list")
  (i8:Zn K "tuple")
  (fw:Zn K "sorted")
  (cw:Zn K "isinstance")
  (iw:Zn K "bool")
  (jk:Zn K "int")
  (jg:Zn K "str")
  (d8:Zn K "enumerate")
  (jf:Zn K "zip")
  (jm:Zn K "all")
  (jl:Zn K "any")
  (iu:Zn K "dict")
  (dk:Zn K "reversed")
  (dh:Gn K "MOST_WORD" (.int 999 t1))
  (mm:K.lookup a9=some ⟨.type "tuple",none,.seq #[.str "plus" t2,.str "minus" t3,.str "times" t4,.str "least" t5,.str "most" t6,.str "less" t7,.str "over" t8] 0,#[]⟩)
  (ii:Gn K "DEEDS" (.ref a9))
  (di:Gn K "MOST_SURE" (.int 64 t10))
  (dj:Gn K "MOST_ROWS" (.int 40 t11))
  (cz:Gn K "MOST_PLACE" (.int 63 t12))
  (l8:K.lookup a15=some ⟨.type "tuple",none,.seq #[.str "row" t13,.str "row" t14] 0,#[]⟩)
  (d7:Gn K "DEED_PARTS" (.ref a15))
  (l7:K.lookup a23=some ⟨.type "tuple",none,.seq #[.str "word" t22] 0,#[]⟩)
  (l6:K.lookup a27=some ⟨.type "tuple",none,.seq #[.str "row" t24,.str "row" t25,.str "row" t26] 0,#[]⟩)
  (l5:K.lookup a29=some ⟨.type "tuple",none,.seq #[.str "place" t28] 0,#[]⟩)
  (l4:K.lookup a33=some ⟨.type "tuple",none,.seq #[.str "place" t30,.str "row" t31,.str "row" t32] 0,#[]⟩)
  (l3:K.lookup a36=some ⟨.type "tuple",none,.seq #[.str "place" t34,.str "row" t35] 0,#[]⟩)
  (l0:K.lookup a40=some ⟨.type "tuple",none,.seq #[.str "place" t37,.str "row" t38,.str "row" t39] 0,#[]⟩)
  (kz:K.lookup a41=some ⟨.type "dict",none,.dict #[⟨h42,.str "number" t16,.ref a23⟩,⟨h43,.str "pick" t17,.ref a27⟩,⟨h44,.str "load" t18,.ref a29⟩,⟨h45,.str "take" t19,.ref a33⟩,⟨h46,.str "store" t20,.ref a36⟩,⟨h47,.str "put" t21,.ref a40⟩] 6,#[]⟩)
  (lb:(a41==Fm)=false)
  (cr:Gn K "OTHER_PARTS" (.ref a41))
  (kx:K.lookup a50=some ⟨.type "tuple",none,.seq #[.str "load" t48,.str "take" t49] 0,#[]⟩)
  (fm:Gn K "READERS" (.ref a50))
  (ku:K.lookup a53=some ⟨.type "tuple",none,.seq #[.str "store" t51,.str "put" t52] 0,#[]⟩)
  (fj:Gn K "WRITERS" (.ref a53)):
  ∃fd:Gk,(∀(s:Af) (v:Value),Qj s fd ⟨[v],[]⟩ [("_law_script",v)])/\ ∀base:Heap,K.In base->base.Ns mainGlobals mg->aP l.prog w K mg base CX0 9 fa fd ["_law_script"] (spV K [] 1 MK):=by
 have e:=hfa.symm.trans (Jn X G lx);cases e;have T:Txt K mg:=⟨fun _ _ e=>Jn X G e,
   Dd X G jj,
   Dd X G i9,
   Dd X G jh,
   Dd X G ji,
   Dd X G iq,
   Dd X G i8,
   Dd X G fw,
   Dd X G cw,
   Dd X G iw,
   Dd X G jk,
   Dd X G jg,
   Dd X G d8,
   Dd X G jf,
   Dd X G jm,
   Dd X G jl,
   Dd X G iu,
   Dd X G dk,
   ⟨_,.ref a9,Jn X G ii,rfl,fun _ _ _=>(.tup (xs:=[.str "plus",.str "minus",.str "times",.str "least",.str "most",.str "less",.str "over"]) (.inr ⟨_,_,_,mm,rfl,rfl,(by show 7<=sizeLine;decide),(.cons ⟨_,rfl⟩ (.cons ⟨_,rfl⟩ (.cons ⟨_,rfl⟩ (.cons ⟨_,rfl⟩ (.cons ⟨_,rfl⟩ (.cons ⟨_,rfl⟩ (.cons ⟨_,rfl⟩ .nil)))))))⟩) (.cons (.str _) (.cons (.str _) (.cons (.str _) (.cons (.str _) (.cons (.str _) (.cons (.str _) (.cons (.str _) .nil))))))))⟩,
   ⟨_,.ref a15,Jn X G d7,rfl,fun _ _ _=>(.tup (xs:=[.str "row",.str "row"]) (.inr ⟨_,_,_,l8,rfl,rfl,(by show 2<=sizeLine;decide),(.cons ⟨_,rfl⟩ (.cons ⟨_,rfl⟩ .nil))⟩) (.cons (.str _) (.cons (.str _) .nil)))⟩,
   ⟨_,.int 63,Jn X G cz,⟨_,rfl⟩,fun _ _ _=>(.int _)⟩,
   ⟨_,.int 40,Jn X G dj,⟨_,rfl⟩,fun _ _ _=>(.int _)⟩,
   ⟨_,.int 64,Jn X G di,⟨_,rfl⟩,fun _ _ _=>(.int _)⟩,
   ⟨_,.int 999,Jn X G dh,⟨_,rfl⟩,fun _ _ _=>(.int _)⟩,
   ⟨_,.ref a41,Jn X G cr,rfl,fun _ _ _=>(.ktb (D:=[("number",.ref a23),("pick",.ref a27),("load",.ref a29),("take",.ref a33),("store",.ref a36),("put",.ref a40)]) ⟨lb,_,_,_,kz,⟨rfl,rfl,rfl⟩,rfl,(.cons rfl rfl (.cons rfl rfl (.cons rfl rfl (.cons rfl rfl (.cons rfl rfl (.cons rfl rfl .nil))))))⟩ (.cons (.tup (xs:=[.str "word"]) (.inr ⟨_,_,_,l7,rfl,rfl,(by show 1<=sizeLine;decide),(.cons ⟨_,rfl⟩ .nil)⟩) (.cons (.str _) .nil)) (.cons (.tup (xs:=[.str "row",.str "row",.str "row"]) (.inr ⟨_,_,_,l6,rfl,rfl,(by show 3<=sizeLine;decide),(.cons ⟨_,rfl⟩ (.cons ⟨_,rfl⟩ (.cons ⟨_,rfl⟩ .nil)))⟩) (.cons (.str _) (.cons (.str _) (.cons (.str _) .nil)))) (.cons (.tup (xs:=[.str "place"]) (.inr ⟨_,_,_,l5,rfl,rfl,(by show 1<=sizeLine;decide),(.cons ⟨_,rfl⟩ .nil)⟩) (.cons (.str _) .nil)) (.cons (.tup (xs:=[.str "place",.str "row",.str "row"]) (.inr ⟨_,_,_,l4,rfl,rfl,(by show 3<=sizeLine;decide),(.cons ⟨_,rfl⟩ (.cons ⟨_,rfl⟩ (.cons ⟨_,rfl⟩ .nil)))⟩) (.cons (.str _) (.cons (.str _) (.cons (.str _) .nil)))) (.cons (.tup (xs:=[.str "place",.str "row"]) (.inr ⟨_,_,_,l3,rfl,rfl,(by show 2<=sizeLine;decide),(.cons ⟨_,rfl⟩ (.cons ⟨_,rfl⟩ .nil))⟩) (.cons (.str _) (.cons (.str _) .nil))) (.cons (.tup (xs:=[.str "place",.str "row",.str "row"]) (.inr ⟨_,_,_,l0,rfl,rfl,(by show 3<=sizeLine;decide),(.cons ⟨_,rfl⟩ (.cons ⟨_,rfl⟩ (.cons ⟨_,rfl⟩ .nil)))⟩) (.cons (.str _) (.cons (.str _) (.cons (.str _) .nil)))) .nil)))))))⟩,
   ⟨_,.ref a50,Jn X G fm,rfl,fun _ _ _=>(.tup (xs:=[.str "load",.str "take"]) (.inr ⟨_,_,_,kx,rfl,rfl,(by show 2<=sizeLine;decide),(.cons ⟨_,rfl⟩ (.cons ⟨_,rfl⟩ .nil))⟩) (.cons (.str _) (.cons (.str _) .nil)))⟩,
   ⟨_,.ref a53,Jn X G fj,rfl,fun _ _ _=>(.tup (xs:=[.str "store",.str "put"]) (.inr ⟨_,_,_,ku,rfl,rfl,(by show 2<=sizeLine;decide),(.cons ⟨_,rfl⟩ (.cons ⟨_,rfl⟩ .nil))⟩) (.cons (.str _) (.cons (.str _) .nil)))⟩⟩
 have ly:=zA2 (st:=top 51) lc lw lg;refine⟨Mu "law" "law" (YG (top 51)) (ZJ (top 51)) (cY (top 51)) .none kV_x34 dc_x34 pm_x34 none cd_x34 ct_x34,fun s v=> .of_eq rfl,fun base _ _=> ?_⟩;have bz:cJ l.prog w K mg base "is_whole" 1 Qx0 [] bA f_x0:=ZK X G mj (fun U=>zHZ U T) (JH fun _ _ _=>rfl);have fu:cJ l.prog w K mg base "parts_of" 1 Qx1 [] bB f_x1:=ZK X G mi (fun U=>zHY U T) (OF fun _=>rfl);have je:cJ l.prog w K mg base "makes_word" 1 Qx2 [] ZF f_x2:=ZK X G mh (fun U=>zHX U T) (OF fun _=>rfl);have dw:cJ l.prog w K mg base "place_of" 1 Qx3 [] aN f_x3:=ZK X G mf (fun U=>zHW U T) (OF fun _=>rfl);have jd:cJ l.prog w K mg base "names_of" 2 Qx4 [] YJ f_x4:=ZK X G me (fun U=>zHV U T fu) (OF fun _=>rfl);have jc:cJ l.prog w K mg base "may_name" 2 Qx5 [] YI f_x5:=ZK X G md (fun U=>zHU U T bz) (OG fun _ _=>rfl);have j9:cJ l.prog w K mg base "fits" 3 Qx6 [] XB f_x6:=ZK X G ma (fun U=>zHT U T bz jc) (JH fun _ _ _=>rfl);have j8:cJ l.prog w K mg base "is_row" 4 Qx7 [] WW f_x7:=ZK X G m9 (fun U=>zHS U T fu j9) (OG fun _ _=>rfl);have ft:cJ l.prog w K mg base "is_block" 5 Qx8 [] ZM f_x8:=ZK X G m8 (fun U=>zHR U T bz je j8) (OF fun _=>rfl);have fo:cJ l.prog w K mg base "row_at" 6 Qx9 [] YA f_x9:=ZK X G m6 (fun U=>zHQ U T bz ft) (OG fun _ _=>rfl);have ca:cJ l.prog w K mg base "writes" 1 DV [] ZD f_x10:=ZK X G kq (fun U=>zFI U T) (OF fun _=>rfl);have i7:cJ l.prog w K mg base "is_safe_number" 1 Qx11 [] aR f_x11:=ZK X G ko (fun U=>zFH U T) (OF fun _=>rfl);have cq:cJ l.prog w K mg base "can_fault" 2 DW [] aJ f_x12:=ZK X G kn (fun U=>zFG U T dw i7) (OG fun _ _=>rfl);have i6:cJ l.prog w K mg base "share_written_cell" 2 Qx13 [] bR f_x13:=ZK X G km (fun U=>zFF U T dw ca) (OG fun _ _=>rfl);have cv:cJ l.prog w K mg base "must_stay" 3 DX [] bW f_x14:=ZK X G kj (fun U=>zFE U T jd ca cq i6) (JH fun _ _ _=>rfl);have i5:cJ l.prog w K mg base "must_pairs" 4 Qx15 [] ZG f_x15:=ZK X G ki (fun U=>zFD U T cv) (OF fun _=>rfl);have i4:cJ l.prog w K mg base "may_fault" 7 Qx16 [] Y6 f_x16:=ZK X G kg (fun U=>zFC U T fo cq) (OG fun _ _=>rfl);have i3:cJ l.prog w K mg base "must" 6 Qx17 [] RD f_x17:=ZK X G kf (fun U=>zFB U T ft i5) (OF fun _=>rfl);have gy:cJ l.prog w K mg base "ahead" 7 Qx18 [] UR f_x18:=ZK X G kc (fun U=>zFA U T fo cv) (OG fun _ _=>rfl);have gx:cJ l.prog w K mg base "_law_cell_at" 1 Qx19 [] aS f_x19:=ZK X G k9 (fun U=>zF9 U T) (OG fun _ _=>rfl);have gw:cJ l.prog w K mg base "_law_mixed" 2 Qx20 [] Y5 f_x20:=ZK X G k8 (fun U=>zF8 U T gx) (JH fun _ _ _=>rfl);have ap:cJ l.prog w K mg base "_law_draw" 3 JI [1] cE f_x21:=ZK X G k7 (fun U=>zF7 U T gw) (JH fun _ _ _=>rfl);have ao:cJ l.prog w K mg base "_law_pick" 4 NU [1] bY f_x22:=ZK X G k6 (fun U=>zF6 U T ap) (JH fun _ _ _=>rfl);have gv:cJ l.prog w K mg base "_law_same_truth" 1 Qx23 [] aB f_x23:=ZK X G k5 (fun U=>zF5 U T) (OG fun _ _=>rfl);have cp:cJ l.prog w K mg base "_law_place" 5 Qx24 [1,2] aZ f_x24:=ZK X G k4 (fun U=>zF4 U T ap ao) (Len5 fun _ _ _ _ _=>rfl);have gu:cJ l.prog w K mg base "_law_row" 6 Qx25 [1,3] XX f_x25:=ZK X G jz (fun U=>zF3 U T ap ao cp) (Len5 fun _ _ _ _ _=>rfl);have gp:cJ l.prog w K mg base "_law_next" 5 Qx27 [1,4] Z6 f_x27:=ZK X G jx (fun U=>zF1 U T ao) (Len6 fun _ _ _ _ _ _=>rfl);have gq:cJ l.prog w K mg base "_law_rows" 7 Qx26 [1] YH f_x26:=ZK X G jy (fun U=>zF2 U T ao gu gp) (Len4 fun _ _ _ _=>rfl);have gm:cJ l.prog w K mg base "_law_names" 1 Qx29 [] aK f_x29:=ZK X G jv (fun U=>zEZ U T) (OF fun _=>rfl);have bq:cJ l.prog w K mg base "_law_may" 1 DY [] aA f_x30:=ZK X G ju (fun U=>zEY U T) (OG fun _ _=>rfl);have cu:cJ l.prog w K mg base "_law_must" 2 DZ [] Z5 f_x31:=ZK X G jt (fun U=>zEX U T gm bq) (OF fun _=>rfl);have gl:cJ l.prog w K mg base "_law_mixed_order" 5 Qx32 [1] aW f_x32:=ZK X G js (fun U=>zEW U T ao cu) (JH fun _ _ _=>rfl);have gk:cJ l.prog w K mg base "_law_renamed" 1 Qx33 [] cK f_x33:=ZK X G jr (fun U=>zEV U T) (OG fun _ _=>rfl);have gn:cJ l.prog w K mg base "_law_block" 8 Qx28 [1] ZN f_x28:=ZK X G jw (fun U=>zF0 U T ap ao gq gl gk) (JH fun _ _ _=>rfl);exact zEU ly T i4 i3 gy gv gn bq cu
theorem CL(K:Ap)(H:Hp)(a:Addr)(ns:List Int)(hl:ns.length<=63)(h:X9 K H a (ns.map V.int)):spV K [] 1 MK [.ref a] H (fun v _=>v= .bl true) fun _ _ _=>False:=by
 have hr:cR K (Zp (fun _=>False) [] [.ref a]) H (ns.map V.int) (ns.map dF.int):=by
  clear h hl;induction ns with
  |nil=>exact .nil
  |cons n ns ih=>exact .cons (.int n) ih
 have hz: ∀b,¬Zp (fun _=>False) [] [V.ref a] b:=fun b h=>by
  rcases h with h|⟨i,h,_⟩
  ·exact h
  ·cases h
 refine⟨fun _=>False,[.lst (ns.map .int)],.bl true,[],rfl,⟨rfl,(fun i h=>nomatch h),fun i d hi e=> ?_,(fun i d h=>nomatch h),(fun i j b h=>nomatch h),fun a h=>h.elim⟩,AR ns hl,fun v H' _ _ r=>by cases r;rfl⟩;cases i with
 |zero=>
  cases e;refine⟨_,rfl,?_⟩;rcases h with(h|⟨o,h⟩)|h
  ·exact .lst h (hz a) hr
  ·exact .fzl (.inl ⟨o,h⟩) hr
  ·exact .fzl (.inr h) hr
 |succ i=>cases i<;>cases e
end RR
open PySem PySem.W PyProof.Rows
set_option maxRecDepth 100000 in
set_option maxHeartbeats 0 in
theorem PySem.Challenge.cw_lanepacks_k05_whole_must_holds : PySem.Challenge.rw_lanepacks_k05_whole_must.Holds := by
 w_on;refine holds_law KK.said fun said=> ?_
 refine holds_open (q:=KK.view) (loose:=KK.lo) (Xt:=KK.X) (XP:=XL KK.view []) (Yf:=KK.H.obs) (Ya:=KK.H.val) (YP:=KK.H.says) (N:=3994) KK.hl (Hook.of _) (Hook.keeps _) (fun s e=>xl_of s (Dm.mp e).1) XL.keeps (by rfl) (by rfl) (by rfl) (fun s e=>recFacts_of (Dm.mp e).2) (by rfl) (by first|assumption|decide+kernel) (by decide+kernel) ⟨rfl,rfl,rfl,rfl,rfl,by decide+kernel⟩ ?hw ?hc
 case hw=>w_witness2
 refine L2.DE (l:=Lg) (n:=63) (k:=9) (x:= "_law_script") (CX:=L2.CX0) (sp:=fun K=>L2.spV K [] 1 L2.MK) rfl (by decide) rfl ⟨rfl,by decide,by decide⟩ (fun w h Y=>W.kIn_of (K:=KK.K) (as:=KK.A) (e:=KK.kA) Y) ?F (fun K H a ns hl _ hS=>RR.CL K H a ns hl hS) fun _ _ _ _ z=>z
 case F=>
  intro w mg fa h KX G hmg;exact RR.zGG (K:=KK.K w.params) (f_x0:=66) (f_x1:=83) (f_x2:=90) (f_x3:=97) (f_x4:=102) (f_x5:=109) (f_x6:=116) (f_x7:=121) (f_x8:=128) (f_x9:=135) (f_x10:=142) (f_x11:=149) (f_x12:=156) (f_x13:=163) (f_x14:=170) (f_x15:=175) (f_x16:=182) (f_x17:=189) (f_x18:=194) (f_x19:=201) (f_x20:=208) (f_x21:=215) (f_x22:=222) (f_x23:=229) (f_x24:=236) (f_x25:=241) (f_x27:=255) (f_x26:=248) (f_x29:=267) (f_x30:=272) (f_x31:=277) (f_x32:=282) (f_x33:=287) (f_x28:=260) (f_x34:=292) (kV_x34:= .none) (dc_x34:= .none) (pm_x34:= .str "law_lanepacks_k05_whole_must" 457) (cd_x34:= .ref 291) (ct_x34:= .none) (t1:=250) (t2:=252) (t3:=253) (t4:=254) (t5:=255) (t6:=256) (t7:=257) (t8:=258) (a9:=59) (t10:=271) (t11:=273) (t12:=275) (t13:=277) (t14:=278) (a15:=67) (t16:=280) (t17:=282) (t18:=286) (t19:=288) (t20:=292) (t21:=295) (t22:=281) (a23:=69) (t24:=283) (t25:=284) (t26:=285) (a27:=70) (t28:=287) (a29:=71) (t30:=289) (t31:=290) (t32:=291) (a33:=72) (t34:=293) (t35:=294) (a36:=73) (t37:=296) (t38:=297) (t39:=298) (a40:=74) (a41:=68) (h42:=Er w.params "number") (h43:=Er w.params "pick") (h44:=Er w.params "load") (h45:=Er w.params "take") (h46:=Er w.params "store") (h47:=Er w.params "put") (t48:=306) (t49:=307) (a50:=75) (t51:=309) (t52:=310) (a53:=76) KX G hmg
   (KK.p _ 66 7 "is_whole" (.str "lanepacks.words" 248))
   (KK.p _ 83 16 "parts_of" (.str "lanepacks.blocks" 269))
   (KK.p _ 90 17 "makes_word" (.str "lanepacks.blocks" 269))
   (KK.p _ 97 18 "place_of" (.str "lanepacks.blocks" 269))
   (KK.p _ 102 19 "names_of" (.str "lanepacks.blocks" 269))
   (KK.p _ 109 20 "may_name" (.str "lanepacks.blocks" 269))
   (KK.p _ 116 21 "fits" (.str "lanepacks.blocks" 269))
   (KK.p _ 121 22 "is_row" (.str "lanepacks.blocks" 269))
   (KK.p _ 128 23 "is_block" (.str "lanepacks.blocks" 269))
   (KK.p _ 135 24 "row_at" (.str "lanepacks.blocks" 269))
   (KK.p _ 142 26 "writes" (.str "lanepacks.orders" 382))
   (KK.p _ 149 27 "is_safe_number" (.str "lanepacks.orders" 382))
   (KK.p _ 156 28 "can_fault" (.str "lanepacks.orders" 382))
   (KK.p _ 163 29 "share_written_cell" (.str "lanepacks.orders" 382))
   (KK.p _ 170 30 "must_stay" (.str "lanepacks.orders" 382))
   (KK.p _ 175 31 "must_pairs" (.str "lanepacks.orders" 382))
   (KK.p _ 182 32 "may_fault" (.str "lanepacks.orders" 382))
   (KK.p _ 189 33 "must" (.str "lanepacks.orders" 382))
   (KK.p _ 194 34 "ahead" (.str "lanepacks.orders" 382))
   (KK.p _ 201 36 "_law_cell_at" KK.m)
   (KK.p _ 208 37 "_law_mixed" KK.m)
   (KK.p _ 215 38 "_law_draw" KK.m)
   (KK.p _ 222 39 "_law_pick" KK.m)
   (KK.p _ 229 40 "_law_same_truth" KK.m)
   (KK.p _ 236 41 "_law_place" KK.m)
   (KK.p _ 241 42 "_law_row" KK.m)
   (KK.p _ 255 44 "_law_next" KK.m)
   (KK.p _ 248 43 "_law_rows" KK.m)
   (KK.p _ 267 46 "_law_names" KK.m)
   (KK.p _ 272 47 "_law_may" KK.m)
   (KK.p _ 277 48 "_law_must" KK.m)
   (KK.p _ 282 49 "_law_mixed_order" KK.m)
   (KK.p _ 287 50 "_law_renamed" KK.m)
   (KK.p _ 260 45 "_law_block" KK.m)
   (by kernel_rfl)
   (by kernel_rfl)
   (by kernel_rfl)
   (by kernel_rfl)
   (by kernel_rfl)
   (by kernel_rfl)
   (by kernel_rfl)
   (by kernel_rfl)
   (by kernel_rfl)
   (by kernel_rfl)
   (by kernel_rfl)
   (by kernel_rfl)
   (by kernel_rfl)
   (by kernel_rfl)
   (by kernel_rfl)
   (by kernel_rfl)
   (by kernel_rfl)
   (by kernel_rfl)
   (by kernel_rfl)
   (by kernel_rfl)
   (by kernel_rfl)
   (by kernel_rfl)
   (by kernel_rfl)
   (by kernel_rfl)
   (by kernel_rfl)
   (by kernel_rfl)
   (by kernel_rfl)
   (by kernel_rfl)
   (by kernel_rfl)
   (by kernel_rfl)
   (by kernel_rfl)
   (by kernel_rfl)
   (by kernel_rfl)
   (by kernel_rfl)
   (by kernel_rfl)
   (by kernel_rfl)
   (by decide)
   (by kernel_rfl)
   (by kernel_rfl)
   (by kernel_rfl)
   (by kernel_rfl)
   (by kernel_rfl)
end
