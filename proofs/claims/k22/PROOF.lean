import PyProof.Rows.All
import KE.KFromBytes
import KE.KTab
import KE.KIsAll
import KE.KDictOf
import KE.KEqDeep
import KE.KItem
import KE.KUnpackStar
import Wide.FinOn
import Wide.Line
import KE.KSortTup
import KE.KBits
import PyProof.Rows.SetFrom
import PyProof.AttrMissSeq
import PySem.Challenge.RW_lanepacks_k22_whole_packs
set_option Elab.async false
set_option linter.all false
set_option maxRecDepth 100000
set_option maxHeartbeats 4000000
set_option bootstrap.genMatcherCode false
set_option compiler.extract_closed false
open Option renaming bind_eq_some_iff→Aa,map_eq_some_iff→Aq,bind_some→At,isSome_some→Mx,getD_none→Ov,map_some→Qk
open PySem renaming wpAny_bind→Ac,Shared→Af,wpAny_pure→Aj,starEach→Ak,wpAny_mono→Az,bootBuiltins→Bj,Program→Bq,mem_of_lookup→Bt,wpAny_holding→Ce,wpAny_newObj_type→Cu,Around→Cy,sizeLine_eq→Dc,compareOp→Df,wpAny_callSpecial?_slot→Dh,wpAny_truthy_bool→Dr,wpAny_standAt→Dw,wpAny_field→Dz,wpAny_call_entry→Ec,wpAny_seqItems→El,wpAny_pyIter_list→Em,letOwnedTupleGo→Ep,assign→Ex,swapsWithSole→Fc,swappedStores→Fd,binaryOp→Fe,wpAny_setField_rec→Ff,sysModules→Fm,wpAny_passesOwn→Fn,wpAny_comprehension_free→Fq,codeAny_builtin→Fs,backTo→Fw,codeAny→Ga,FuncData→Gd,wpAny_Call_Name_kw→Ge,swapsWith→Gf,wpAny_assign_Name→Go,wpAny_rule→Gp,codeAny_mono→Gz,wpAny_pyIter_tuple→He,behindInMarks→Hg,attributeBase→Hi,tupleKind_room_in1→Hk,wpAny_pyNext_list_item→Hs,sliceBounds→Hy,wpAny_bindName→Ib,wpAny_pyNext_list_end→Ic,wpAny_typeOf→Ig,wpAny_updateSeq_pair→Im,bindName→Ip,unpackItems→Iy,keywordEach→Ja,Keyword→Jb,pushCells_keeps→Ji,newFunctionEnv→Jw,Spec→Jx,wpAny_sequenceKey→Jz,pushCells→Kf,getItem→Km,wpAny_onRaise→Ks,noFill_tuple_add→Ky,codeAny_compStart_list→Le,DictEntry→Li,importedModules→Lj,wpAny_execs_nil→Ll,concat_meets→Ln,call_meetsIn→Lo,theTreesLotGoes→Lq,Builtin→Lu,exec_Assign_Name_used→Lv,ZipApart→Ly,PyData→Me,callerA→Mj,bltViewBooted→Mp,seq_tuple_add→Mv,backToKw→Mw,wpAny_attempt→Na,name_of_addr→Nc,wpAny_newList→Nf,getattributeRaised→Nh,plainId_quiet→Nj,standAt→Nr,call_meets→Nu,valueAt→Nv,wpAny_Call_method→Nw,wpAny_pyIter_enum→Ny,pyIter→Og,Result→Oh,codeAny_loop→Oj,compTurn→Pf,compEnvC→Pg,Params→Pk,PassesOwn→Pn,lastMarks→Po,BindsTo→Pp,noteFrame→Pr,wpAny_noted→Ps,wpAny_letGo→Px,newList→Pz,wpAny_Name→Qu,call→Qv,compPost→Rc,Within→Rh,stored→Rj,again→Ru
open PySem.Heap renaming get?_push_of_some→Ad,lt_size→An,get?_push_size→Au,size_push→Co,SameBut→Fb,get?_push_ne→Hz,ExtBut→Jf,get?_update_ne→Mn
open Bool renaming and_eq_true→Ae,false_ne_true→De,and_eq_true_iff→Di,false_eq_true→Dk,or_eq_true→Er,not_eq_true→Il,beq_eq_decide_eq→Lw,not_eq_true'→Of,false_or→Rb,true_and→Rf
open List renaming getElem?_eq_some_iff→Ag,mem_cons_of_mem→Ah,mem_cons_self→Ai,mem_cons→Al,range→Am,getElem?_append_left→Ap,map_cons→Ar,size_toArray→Av,mem_singleton→Ax,mem_append_right→Ay,length_cons→Bb,mem_map→Bd,length_map→Bf,not_mem_nil→Bg,nil_append→Bh,replicate→Bi,mem_range→Bk,mem_append_left→Bo,getElem?_eq_none→Bu,length_append→Bv,getElem?_set_ne→Bw,take_of_length_le→Ca,mem_append→Cc,length_set→Cd,length_take→Cg,getElem?_take_of_lt→Ch,getElem?_append_right→Ci,lookup_cons→Cj,map_congr_left→Ck,map_map→Cm,append_assoc→Cn,getElem?_replicate→Cp,nodup_cons→Cq,take_append_of_le_length→Cs,getElem?_map→Cv,drop_eq_getElem_cons→Cw,getElem?_set_self→Db,map_nil→Dj,mem_filter→Dm,map_append→Dn,lookup_cons_self→Dt,set_comm→Dx,append_nil→Ef,getElem?_eq_getElem→Eh,all_eq_true→Ei,mem_of_getElem?→Ej,length_range→Eo,range_succ_eq_map→Ew,pairwise_cons→Fg,eq_nil_or_concat→Fh,concat_eq_append→Fi,pairwise_map→Ft,any_cons→Fu,length_eq_zero_iff→Fv,drop_length→Fx,cons_append→Fy,find?_cons→Gh,set_append_right→Gj,length_filter_le→Gk,flatMap_cons→Gr,getElem_mem→Gx,length_nil→Hj,pairwise_singleton→Hn,foldl_cons→Hr,length_replicate→Ie,length_singleton→Ih,mem_iff_getElem?→Ij,any_eq_true→Ik,filterMap_cons→Iw,forIn_cons→Jd,take_succ_cons→Je,filter_map→Jl,idxOf_lt_length_of_mem→Jm,filter_append→Js,set_cons_zero→Jt,drop_zero→Jv,ext_getElem?→Kb,zip_nil_left→Kc,nodup_append→Ke,filter_congr→Ki,map_id→Kr,countP_cons→La,mem_flatMap→Lb,filter_cons→Lc,filter_eq_nil_iff→Lg,of_mem_zip→Lm,zip_append→Ls,getElem?_mapIdx→Lz,mem_of_mem_drop→Ma,pairwise_append→Mb,forIn_nil→Mf,take_zero→Mg,lookup→Mk,filter_eq_self→Mo,mem_filterMap→Mt,all_cons→Nb,getElem?_take→Nd,getElem_idxOf→Nk,countP_append→Nl,set_cons_succ→No,map_singleton→Np,any_map→Om,getElem_inj→Op,length_drop→Ot,isEmpty_iff→Ox,zipIdx_cons→Oy,isEmpty_map→Pd,zipIdx_nil→Pw,range_succ→Ql,mapM_cons→Qo,take_left→Qp,all_map→Rl
open Nat renaming le_refl→Ao,lt_of_lt_of_le→Ba,ne_of_lt→Be,lt_irrefl→Bz,le_trans→Cf,zero_le→Dd,le_of_succ_le→Ee,le_of_not_lt→Ez,le_of_lt→Fa,ne_of_gt→Gg,le_succ→Gy,zero_add→Hc,pow_le_pow_right→Io,testBit_lt_two_pow→Lh,lt_of_le_of_lt→My,lt_trans→Oi,lt_succ_self→Ow,succ_le_succ→Pa,not_le_of_lt→Pb,not_lt_zero→Py,min_le_left→Qa,le_antisymm→Qg,min_eq_left→Qj
open PySem.W renaming Frag→As,mg_none_of→Cz,kia_one→Fo,mg_of→Hm,kas_item→Kt,keepIn→Lx,fnOf→Mc,kitx_list→Mi,codeIn→Mu,kas_rev→Oa,nsIn→Ol,cellsFrom_some→Oq,methodObj→Pl,kasC_bind→Qc,kasC_modify→Qd,kasC_cons→Qe,kas_item_eq→Qi,looseW→Qq,instObj→Rg,OpenLaw→Rk
open PySem.Str renaming ofString→Aw,ofString_eq_toList→Hv
open PySem.F renaming slot_list_append→Bm,type_list_append→Bn,slot_dict_get→Ds,entry_dict_get→Eu,slot_tuple_iterator_next→Ey,args_tuple_add_2→Ha,entry_tuple_add→Hh,args_dict_get_2→Hl,slot_tuple_add→Ht,args_tuple_iterator_next_1→Iq,entry_tuple_iterator_next→Jg,slot_zip_next→Jh,slot_dict_getitem→Ju,args_dict_get_3→Kn,plainAttrs_dict→Ko,plainAttrs_list→Kp,type_dict_get→Lp,args_zip_next_1→Nz,entry_zip_next→Oz
open PySem.NameKind renaming free→Bp,cell→Bx
open PySem.Value renaming ref→Br,type→Fl,int→Mq,str→Mr,bool→Nq,isStrOf→Qz,isInt→Ro,float→Rp
open PySem.Builtin.SmallTypes renaming nextOf→By,ownedTupleIsFree→Dq,ownedTupleHandOut→Gw
open Option.some renaming inj→Cb
open ForInStep renaming yield→Cr
open Prod renaming fst→Ct,snd→Du
open Ne renaming symm→Dg
open PyProof.Rows renaming assignInOrder_cons→Dv,callWith_type1→Dy,slot_tuple_getitem→Ed,seqObj→Gi,SortSt→Hu,assignInOrder_nil→Hw,IntsAre→Iz,listUpdate_at→Ku,envOfC→Kx,subscriptTail_builtinR→Ld,AllBare→Lk,unpackItems_tuple→Nt,pairsOf→Ob,listItems_at→Oo,SortKind→Ph,seqEpoch_at→Qh,expectedOf→Qr,plainGoodE→Qs,plainGoodD→Qt,drecsOf→Qy,tail_any→Ra
open PySem.PassesOwn renaming never→Ea
open Int renaming emod_lt_of_pos→Eb,toNat_natCast→Gq,emod_nonneg→Hq,fdiv_eq_ediv_of_nonneg→Jo
open PySem.SeqAt renaming shaped→Eg
open PySem.PyData renaming keyHash→Ek,depthAll→Es,canLay0→Fz,canLayAll0→Ia,depth→Ii,eqv→Iu,int→Nx,strOk→Rm
open List.cons renaming injEq→Et
open PySem.Builtin.Slice renaming slicePlaces→Fj,sliceAdjust→Gv,sliceApplied→Jp,slicePartIndex→Pe,sliceFields→Qn
open PyProof.Rows.KTD renaming datumAt→Fk
open PySem.Builtin.Tuple renaming tupleExact→Fp,tupleItemsOf→Jq,tupleIsExact→Qm
open PySem.Calls renaming callWith_builtin→Gb,spliced_cons→Gc,evalArgs_plain→Gs,spliced_nil→Hx,Name_function_global→Jn
open False renaming elim→Gm
open PySem.Around renaming under_plainId→Gu
open PySem.Obj renaming mapSeq→Hb,data_mapFields→Mz
open PySem.AutoSeq1 renaming wpAny_loadPart'→Hd
open PySem.Builtin.Range renaming rangeSize→Hf,small→Rs
open PyProof.Rows.F renaming plain_set_update_loop→Ho,entry_set_update_loop→Kw
open Function renaming comp→Ir,comp_def→Oe
open Prod.mk renaming inj→Iv
open Array renaming length_toList→Ix,getD_eq_getD_getElem?→Jj,perm_iff_toList_perm→Jr,toList_inj→Pc,getD→Qx,toList→Ri
open PySem.Builtin.List renaming listExtendWith→Jk
open PyProof.Rows.IsTup renaming new→Jy
open List.Pairwise renaming nil→Ka,map→Kh
open PyProof.Rows.SortSt renaming mk'→Kg
open PySem.Challenge renaming pw_lanepacks_k22_whole_packs→Kj,rw_lanepacks_k22_whole_packs→Kk
open Sum renaming inr→Kl,inl→Mh
open PySem.Builtin.Dict renaming updateFrom→Kv,pairItems→Lf,missed→Mm
open Or renaming inr→Kz,inl→Md
open Classical renaming choose_spec→Lr
open PySem.Heap.SameBut renaming update→Ml
open PySem.Paired renaming length→Ms,snoc→Rr
open PySem.Code renaming quiet_builtin→Ng
open Char renaming toNat→Od
open PySem.Builtin.Frozenset renaming updateFrom→Pj
open PySem.Heap.DictOf renaming new→Pq
open PySem.Shared renaming heap→Pt
open Pure renaming pure→Qb
open List.Perm renaming trans→Qf
open PySem.Walks renaming list→Qw
open PySem.MeetsSeq.EqGives renaming int→Rn
open PySem.IsRange renaming new→Rq
open PySem.Heap.Ns renaming new→Rt
open PySem.Heap.IsSliceOf renaming new→Rv
open PySem.W.WShape renaming has→Rw
noncomputable section
namespace RR
open PySem
def top(i:Nat):Stmt:=PySem.Challenge.pw_lanepacks_k22_whole_packs.main.body.getD i (.Pass ⟨0,0,0,0⟩)
end RR
namespace KK
open PySem PySem.W PySem.Calls PyProof.Rows
def dA(s:Stmt):Arguments:=match s with
 | .FunctionDef _ a _ _ _ _ _ _ _ _=>a
 |_=>⟨[],[],none,[],[],none,[]⟩
def dB(s:Stmt):List Stmt:=match s with
 | .FunctionDef _ _ b _ _ _ _ _ _ _=>b
 |_=>[]
def dS(s:Stmt):Scope:=match s with
 | .FunctionDef _ _ _ _ _ _ c _ _ _=>c
 |_=>{kind:= .function,names:=[],isGenerator:=false,isCoroutine:=false}
abbrev s(x:Str)(t:Nat):Value:= .str x t
abbrev e(P:Pk)(x:Str)(t:Nat)(v:Value):Li:=⟨PyData.keyHash P x,s x t,v⟩
abbrev f(a i:Nat)(n:Str)(d m:Value):Nat×Obj:=(a,⟨.type "function",none,.func (fnOf n n (dA (RR.top i)) (dB (RR.top i)) (dS (RR.top i)) d .none .none m none (.ref (a - 1)) .none),#[]⟩)
abbrev fk(a i:Nat)(n:Str)(d k m:Value):Nat×Obj:=(a,⟨.type "function",none,.func (fnOf n n (dA (RR.top i)) (dB (RR.top i)) (dS (RR.top i)) d k .none m none (.ref (a - 1)) .none),#[]⟩)
abbrev co(a:Nat)(n:Str)(t:Nat)(l k:Int)(u:Nat)(x y z v:Value):Nat×Obj:=(a,⟨.type "code",none,.fields #[s n t,s n (t+1),s "/claim/cut.py" (t+2),.int l 0,.int k 0,.int 0 0,.int 0 0,.int 3 0,x,.bool true,.int 181 0,y,.none,z,v,.ref (a - 1),.int u 0,.int l 0,s "/claim/cut.py" (u+1)],#[]⟩)
abbrev c(a:Nat)(n:Str)(t:Nat)(l k:Int)(u:Nat):Nat×Obj:=co a n t l k u (.ref (a - 5)) (.ref (a - 4)) (.ref (a - 3)) (.ref (a - 2))
abbrev b(a:Nat)(n:Str)(t:Nat)(l k:Int)(u:Nat):Nat×Obj:=co a n t l k u (.ref (a - 3)) (.ref (a - 2)) .none .none
abbrev m:Value:=s "law_lanepacks_k22_whole_packs" 465
noncomputable def K(P:Pk):Frag:=[(3,⟨.type "dict",none,.dict #[e P "__name__" 165 (s "law_lanepacks_k22_whole_packs" 465),e P "__doc__" 166 (.none),e P "__package__" 167 (.none),e P "__loader__" 168 (.builtin "__main__.__loader__#opaque"),e P "__spec__" 169 (.none),e P "__annotations__" 170 (.ref 6),e P "__builtins__" 171 (.ref 4),e P "__file__" 173 (s "/claim/cut.py" 172),e P "__cached__" 174 (.none),e P "PackError" 206 (.ref 24),e P "NoBlock" 222 (.ref 37),e P "NoLanes" 238 (.ref 49),e P "TooMany" 254 (.ref 61),e P "MOST_WORD" 258 (.int 999 257),e P "DEEDS" 266 (.ref 64),e P "is_whole" 275 (.ref 71),e P "MOST_SURE" 279 (.int 64 278),e P "MOST_ROWS" 281 (.int 40 280),e P "MOST_PLACE" 283 (.int 63 282),e P "DEED_PARTS" 286 (.ref 72),e P "OTHER_PARTS" 312 (.ref 73),e P "READERS" 315 (.ref 80),e P "WRITERS" 318 (.ref 81),e P "parts_of" 325 (.ref 88),e P "makes_word" 332 (.ref 95),e P "place_of" 339 (.ref 102),e P "names_of" 345 (.ref 107),e P "may_name" 353 (.ref 114),e P "fits" 362 (.ref 121),e P "is_row" 368 (.ref 126),e P "is_block" 379 (.ref 133),e P "LEAST_LANES" 383 (.int 2 382),e P "MOST_LANES" 385 (.int 4 384),e P "is_lanes" 392 (.ref 140),e P "may_follow" 403 (.ref 147),e P "is_pack" 409 (.ref 152),e P "rows_within" 415 (.ref 157),e P "fits_plan" 421 (.ref 162),e P "check_lanes" 429 (.ref 169),e P "is_plan" 438 (.ref 176),e P "MOST_TRIED_ROWS" 442 (.int 8 441),e P "check_few" 450 (.ref 183),e P "all_packs" 456 (.ref 188),e P "packs" 464 (.ref 195),e P "_law_cell_at" 476 (.ref 202),e P "_law_mixed" 486 (.ref 209),e P "_law_draw" 495 (.ref 216),e P "_law_pick" 504 (.ref 223),e P "_law_place" 515 (.ref 230),e P "_law_row" 521 (.ref 235),e P "_law_rows" 535 (.ref 242),e P "_law_next" 552 (.ref 249),e P "_law_block" 558 (.ref 254),e P "_law_names" 565 (.ref 261),e P "_law_may" 571 (.ref 266),e P "_law_must" 577 (.ref 271),e P "_law_is_pack" 583 (.ref 276),e P "_law_mixed_order" 589 (.ref 281),e P "_law_renamed" 595 (.ref 286),e P "law" 601 (.ref 291)] 60,#[]⟩),
 (64,⟨.type "tuple",none,.seq #[s "plus" 259,s "minus" 260,s "times" 261,s "least" 262,s "most" 263,s "less" 264,s "over" 265] 0,#[]⟩),
 f 71 8 "is_whole" (.none) (s "lanepacks.words" 255),
 c 70 "is_whole" 267 13 3 273,
 (72,⟨.type "tuple",none,.seq #[s "row" 284,s "row" 285] 0,#[]⟩),
 (73,⟨.type "dict",none,.dict #[e P "number" 287 (.ref 74),e P "pick" 289 (.ref 75),e P "load" 293 (.ref 76),e P "take" 295 (.ref 77),e P "store" 299 (.ref 78),e P "put" 302 (.ref 79)] 6,#[]⟩),
 (74,⟨.type "tuple",none,.seq #[s "word" 288] 0,#[]⟩),
 (75,⟨.type "tuple",none,.seq #[s "row" 290,s "row" 291,s "row" 292] 0,#[]⟩),
 (76,⟨.type "tuple",none,.seq #[s "place" 294] 0,#[]⟩),
 (77,⟨.type "tuple",none,.seq #[s "place" 296,s "row" 297,s "row" 298] 0,#[]⟩),
 (78,⟨.type "tuple",none,.seq #[s "place" 300,s "row" 301] 0,#[]⟩),
 (79,⟨.type "tuple",none,.seq #[s "place" 303,s "row" 304,s "row" 305] 0,#[]⟩),
 (80,⟨.type "tuple",none,.seq #[s "load" 313,s "take" 314] 0,#[]⟩),
 (81,⟨.type "tuple",none,.seq #[s "store" 316,s "put" 317] 0,#[]⟩),
 f 88 17 "parts_of" (.none) (s "lanepacks.blocks" 276),
 c 87 "parts_of" 319 25 1 323,
 f 95 18 "makes_word" (.none) (s "lanepacks.blocks" 276),
 c 94 "makes_word" 326 29 1 330,
 f 102 19 "place_of" (.none) (s "lanepacks.blocks" 276),
 c 101 "place_of" 333 31 1 337,
 f 107 20 "names_of" (.none) (s "lanepacks.blocks" 276),
 b 106 "names_of" 340 33 1 343,
 f 114 21 "may_name" (.none) (s "lanepacks.blocks" 276),
 c 113 "may_name" 346 36 2 351,
 f 121 22 "fits" (.none) (s "lanepacks.blocks" 276),
 c 120 "fits" 354 38 3 360,
 f 126 23 "is_row" (.none) (s "lanepacks.blocks" 276),
 b 125 "is_row" 363 44 2 366,
 f 133 24 "is_block" (.none) (s "lanepacks.blocks" 276),
 c 132 "is_block" 369 52 1 377,
 f 140 28 "is_lanes" (.none) (s "lanepacks.plans" 380),
 c 139 "is_lanes" 386 69 1 390,
 f 147 29 "may_follow" (.none) (s "lanepacks.plans" 380),
 c 146 "may_follow" 393 71 3 401,
 f 152 30 "is_pack" (.none) (s "lanepacks.plans" 380),
 b 151 "is_pack" 404 77 3 407,
 f 157 31 "rows_within" (.none) (s "lanepacks.plans" 380),
 b 156 "rows_within" 410 86 1 413,
 f 162 32 "fits_plan" (.none) (s "lanepacks.plans" 380),
 b 161 "fits_plan" 416 88 3 419,
 f 169 33 "check_lanes" (.none) (s "lanepacks.plans" 380),
 c 168 "check_lanes" 422 93 2 427,
 f 176 34 "is_plan" (.none) (s "lanepacks.plans" 380),
 c 175 "is_plan" 430 98 3 436,
 f 183 37 "check_few" (.none) (s "lanepacks.finding" 439),
 c 182 "check_few" 443 103 2 448,
 f 188 38 "all_packs" (.none) (s "lanepacks.finding" 439),
 b 187 "all_packs" 451 107 2 454,
 f 195 39 "packs" (.none) (s "lanepacks.finding" 439),
 c 194 "packs" 457 114 2 462,
 f 202 41 "_law_cell_at" (.none) m,
 c 201 "_law_cell_at" 467 118 2 474,
 f 209 42 "_law_mixed" (.none) m,
 c 208 "_law_mixed" 477 127 3 484,
 f 216 43 "_law_draw" (.none) m,
 c 215 "_law_draw" 487 130 3 493,
 f 223 44 "_law_pick" (.none) m,
 c 222 "_law_pick" 496 133 3 502,
 f 230 45 "_law_place" (.none) m,
 c 229 "_law_place" 505 135 5 513,
 f 235 46 "_law_row" (.none) m,
 b 234 "_law_row" 516 138 5 519,
 f 242 47 "_law_rows" (.none) m,
 c 241 "_law_rows" 522 156 4 533,
 f 249 48 "_law_next" (.none) m,
 c 248 "_law_next" 536 168 6 550,
 f 254 49 "_law_block" (.none) m,
 b 253 "_law_block" 553 179 3 556,
 f 261 50 "_law_names" (.none) m,
 c 260 "_law_names" 559 188 1 563,
 f 266 51 "_law_may" (.none) m,
 b 265 "_law_may" 566 192 2 569,
 f 271 52 "_law_must" (.none) m,
 b 270 "_law_must" 572 197 1 575,
 f 276 53 "_law_is_pack" (.none) m,
 b 275 "_law_is_pack" 578 209 3 581,
 f 281 54 "_law_mixed_order" (.none) m,
 b 280 "_law_mixed_order" 584 217 3 587,
 f 286 55 "_law_renamed" (.none) m,
 b 285 "_law_renamed" 590 224 2 593,
 f 291 56 "law" (.none) m,
 b 290 "law" 596 229 1 599]
noncomputable def A:List Nat:=[3,64,71,70,72,73,74,75,76,77,78,79,80,81,88,87,95,94,102,101,107,106,114,113,121,120,126,125,133,132,140,139,147,146,152,151,157,156,162,161,169,168,176,175,183,182,188,187,195,194,202,201,209,208,216,215,223,222,230,229,235,234,242,241,249,248,254,253,261,260,266,265,271,270,276,275,281,280,286,285,291,290]
noncomputable def view:Bq:={Kj with main:={PySem.Challenge.pw_lanepacks_k22_whole_packs.main with body:=[1,2,3,4,6,7,8,10,11,12,13,14,15,16,17,18,19,20,21,22,23,24,26,27,28,29,30,31,32,33,34,36,37,38,39,41,42,43,44,45,46,47,48,49,50,51,52,53,54,55,56].map RR.top}}
abbrev lo:List Str:=["OTHER_PARTS"]
theorem kA(P:Pk):A=(K P).map (·.1):=by kernel_rfl
noncomputable def X(s:Af):Bool:=xlAt view [] s && recOk (RowW.records (OpenRow.toRowW PySem.Challenge.rw_lanepacks_k22_whole_packs.row)) s
noncomputable abbrev H:Hook:=kHook K A kA
abbrev pr:Bq:=PySem.Challenge.rw_lanepacks_k22_whole_packs.row.prog
abbrev go(w:World)(b:Bool):Option Af:=openEnds treeTable pr (w.withFollow "special-get-raises" b) 4398
noncomputable abbrev fA(s:Af):=seen ((recsOf view).map (·.name)) (ownsOf view) [] {s with gens:= #[]}
noncomputable abbrev fB(s:Af):=(s.heap.bltView,tabsOk view s)
noncomputable abbrev fC(s:Af):Bool:=s.heap.keysOk (Qq view lo) ((recsOf view).map (·.name)) ((litsOf view).map (·.1)) ((clssOf view (Qq view lo)).map (·.name)) && s.heap.accountedOkI (Lj pr.main.body) && s.heap.isNs mainGlobals && s.heap.isNs builtinsNs && tablesOk view s.heap && X s && (if true then s.gens.size==0 else !leftWithCleanup s.gens)
noncomputable abbrev fD(s:Af):=(pinSeenD view (Qy view) s,plainSeenE view (Qq view lo) s,plainSeenD view lo s,wideSeen view s,clsSeenW view lo s,H.obs s)
set_option maxRecDepth 100000 in
set_option maxHeartbeats 0 in
theorem rAf(w:World):(go w false).map fA=some (Qr view):=by kernel_rfl
set_option maxRecDepth 100000 in
set_option maxHeartbeats 0 in
theorem rBf(w:World):(go w false).map fB=some ((Mp,true)):=by kernel_rfl
set_option maxRecDepth 100000 in
set_option maxHeartbeats 0 in
theorem rCf(w:World):(go w false).map fC=some (true):=by kernel_rfl
set_option maxRecDepth 100000 in
set_option maxHeartbeats 0 in
theorem rDf(w:World):(go w false).map fD=some ((pinGoodD (Qy view),Qs view (Qq view lo),Qt view lo,wideGood view,clsGoodW view lo,H.val (w.withFollow "special-get-raises" false))):=by kernel_rfl
set_option maxRecDepth 100000 in
set_option maxHeartbeats 0 in
theorem rAt(w:World):(go w true).map fA=some (Qr view):=by kernel_rfl
set_option maxRecDepth 100000 in
set_option maxHeartbeats 0 in
theorem rBt(w:World):(go w true).map fB=some ((Mp,true)):=by kernel_rfl
set_option maxRecDepth 100000 in
set_option maxHeartbeats 0 in
theorem rCt(w:World):(go w true).map fC=some (true):=by kernel_rfl
set_option maxRecDepth 100000 in
set_option maxHeartbeats 0 in
theorem rDt(w:World):(go w true).map fD=some ((pinGoodD (Qy view),Qs view (Qq view lo),Qt view lo,wideGood view,clsGoodW view lo,H.val (w.withFollow "special-get-raises" true))):=by kernel_rfl
theorem jn{o:Option Af}{v:H.α}(ha:o.map fA=some (Qr view))(hb:o.map fB=some (Mp,true))(hc:o.map fC=some true)(hd:o.map fD=some (pinGoodD (Qy view),Qs view (Qq view lo),Qt view lo,wideGood view,clsGoodW view lo,v)):
  o.map (fun s=>(openSeen view lo (Lj pr.main.body) X true s,H.obs s))=some (openGood view lo,v):=by
 cases o with
 |none=>cases ha
 |some s=>
  have ea:fA s=_:=Cb ha;have eb:fB s=_:=Cb hb;have ec:fC s=_:=Cb hc;have ed:fD s=_:=Cb hd;obtain⟨b1,b2⟩:=Iv eb;obtain⟨d1,ed⟩:=Iv ed;obtain⟨d2,ed⟩:=Iv ed;obtain⟨d3,ed⟩:=Iv ed;obtain⟨d4,ed⟩:=Iv ed;obtain⟨d5,d6⟩:=Iv ed;show some ((fA s,s.heap.bltView,fC s,tabsOk view s,pinSeenD view (Qy view) s,plainSeenE view (Qq view lo) s,plainSeenD view lo s,wideSeen view s,clsSeenW view lo s),H.obs s)=_;rw[ea,b1,ec,b2,d1,d2,d3,d4,d5,d6];rfl
theorem hl:LeftO pr view lo X H.obs H.val 4398:=fun w=>byRow2 "special-get-raises" (P:=fun w=>(openEnds treeTable pr w 4398).map (fun s=>(openSeen view lo (Lj pr.main.body) X true s,H.obs s))=some (openGood view lo,H.val w)) (fun w=>jn ((rAf w)) ((rBf w)) ((rCf w)) ((rDf w))) (fun w=>jn ((rAt w)) ((rBt w)) ((rCt w)) ((rDt w))) w
set_option maxRecDepth 100000 in
set_option maxHeartbeats 0 in
theorem said:PySem.Challenge.rw_lanepacks_k22_whole_packs.wellSaid=true:=by kernel_rfl
end KK
namespace L2
open PySem PySem.Spec PyProof.Rows
abbrev b9:=Sum Int Str
noncomputable def M6:b9->Value->Bool
 | .inl k,v=>Ro k v
 | .inr x,v=>Qz x v
def keyH(w:World):b9->Int
 | .inl k=>hashInt k
 | .inr x=>hashStr w x
theorem aQ: ∀{k:b9} {v:Value},M6 k v=true->(∃i t,k=Mh i/\v=Mq i t)∨(∃x t,k=Kl x/\v=Mr x t)
 | .inl i,v,h=>by
  obtain⟨t,e⟩:=Value.isInt_shape (k:=i) (v:=v) h;exact .inl ⟨i,t,rfl,e⟩
 | .inr x,v,h=>by
  obtain⟨t,e⟩:=Value.isStrOf_shape (x:=x) (v:=v) h;exact .inr ⟨x,t,rfl,e⟩
theorem DS(i:Int)(t:Tok):M6 (.inl i) (.int i t)=true:=by simp[M6,Ro]
theorem DT(x:Str)(t:Tok):M6 (.inr x) (.str x t)=true:=by simp[M6,Qz]
theorem zGM(a b:Int):decide ((Mh a:b9)=Mh b)=(a==b):=by
 by_cases e:a=b
 ·subst e;simp
 ·have h : ¬ (Mh a : b9) = Mh b := fun q => e (Sum.inl.inj q)
  rw[decide_eq_false h];exact(beq_eq_false_iff_ne.mpr e).symm
theorem zGJ(a b:Str):decide ((Kl a:b9)=Kl b)=decide (a=b):=by
 by_cases e:a=b
 ·subst e;simp
 ·have h : ¬ (Kl a : b9) = Kl b := fun q => e (Sum.inr.inj q)
  rw[decide_eq_false h,decide_eq_false e]
theorem zGL(a:Int)(b:Str):decide ((Mh a:b9)=Kl b)=false:=decide_eq_false (fun q=>nomatch q)
theorem zGK(a:Str)(b:Int):decide ((Kl a:b9)=Mh b)=false:=decide_eq_false (fun q=>nomatch q)
def b7(prog:Bq)(w:World):PySem.KeyKind prog w b9 where
 is:=M6
 hash:=keyH w
 inj:=fun v a b ha hb=>by
  rcases aQ ha with⟨i,t,rfl,rfl⟩|⟨x,t,rfl,rfl⟩
  ·rcases aQ hb with⟨j,u,rfl,e⟩|⟨y,u,rfl,e⟩
   ·injection e with e1 _;rw[e1]
   ·exact nomatch e
  ·rcases aQ hb with⟨j,u,rfl,e⟩|⟨y,u,rfl,e⟩
   ·exact nomatch e
   ·injection e with e1 _;rw[e1]
 byValue:=fun k v h=>by
  rcases aQ h with⟨i,t,rfl,rfl⟩|⟨x,t,rfl,rfl⟩<;>rfl
 pyHash:=fun hv h=>by
  rcases aQ hv with⟨i,t,rfl,rfl⟩|⟨x,t,rfl,rfl⟩
  ·exact wpAny_pyHash_int h
  ·exact wpAny_pyHash_str h
 eqBool:=fun hu hv h=>by
  rcases aQ hu with⟨i,t,rfl,rfl⟩|⟨x,t,rfl,rfl⟩
  ·rcases aQ hv with⟨j,u,rfl,rfl⟩|⟨y,u,rfl,rfl⟩
   ·rw[zGM] at h;exact wpAny_eqBool_int h
   ·rw[zGL] at h;exact SeqAt.EqAt.int_str i t y u _ _ _ _ h
  ·rcases aQ hv with⟨j,u,rfl,rfl⟩|⟨y,u,rfl,rfl⟩
   ·rw[zGK] at h;exact SeqAt.EqAt.str_int x t j u _ _ _ _ h
   ·rw[zGJ] at h;exact wpAny_eqBool_str h
 «strs» :=fun k x t v h=>by
  rcases aQ h with⟨i,u,rfl,e⟩|⟨y,u,rfl,e⟩
  ·exact nomatch e
  ·injection e with e1 _
   subst e1;cases v<;>rfl
theorem JX(prog:Bq)(w:World)(i:Int)(t:Tok):(b7 prog w).is (.inl i) (.int i t)=true:=DS i t
theorem JY(prog:Bq)(w:World)(x:Str)(t:Tok):(b7 prog w).is (.inr x) (.str x t)=true:=DT x t
inductive V where
 |non|bl (b:Bool)|int (i:Int)|str (x:Str)|byt (b:Array UInt8)|flt (b:UInt64)|ref (a:Addr)|ty (n:String)
 deriving DecidableEq
def cL:V->Value->Prop
 | .non,u=>u=Value.none
 | .bl b,u=>u=Nq b
 | .int i,u=> ∃t,u=Mq i t
 | .str x,u=> ∃t,u=Mr x t
 | .byt b,u=> ∃t,u=Value.bytes b t
 | .flt b,u=> ∃t,u=Rp b t
 | .ref a,u=>u=Br a
 | .ty n,u=>u=Fl n
abbrev cG:List V->List Value->Prop:=Paired cL
theorem cG.length{xs:List V}{us:List Value}(r:cG xs us):xs.length=us.length:=Ms r
theorem cG.get: ∀{xs:List V} {us:List Value} {i:Nat} {x:V},cG xs us->xs[i]? =some x-> ∃u,us[i]? =some u/\cL x u
 |_,_,_,_,.nil,e=>by simp at e
 |_,_,0,_,.cons r _,e=>by simp at e;subst e;exact⟨_,rfl,r⟩
 |_,_,i+1,x,.cons _ t,e=>by
  obtain⟨u,h1,h2⟩:=cG.get (i:=i) (x:=x) t (by simpa using e);exact⟨u,by simpa using h1,h2⟩
theorem cG.append: ∀{xs ys:List V} {us ws:List Value},cG xs us->cG ys ws->cG (xs++ys) (us++ws)
 |_,_,_,_,.nil,s=>s
 |_,_,_,_,.cons r t,s=> .cons r (cG.append t s)
theorem cG.take: ∀{xs:List V} {us:List Value} (n:Nat),cG xs us->cG (xs.take n) (us.take n)
 |_,_,0,_=> .nil
 |_,_,_+1,.nil=> .nil
 |_,_,n+1,.cons r t=> .cons r (cG.take n t)
theorem cG.drop: ∀{xs:List V} {us:List Value} (n:Nat),cG xs us->cG (xs.drop n) (us.drop n)
 |_,_,0,r=>r
 |_,_,_+1,.nil=> .nil
 |_,_,n+1,.cons _ t=>cG.drop n t
def RD:Option V->Option Value->Prop
 |some v,some u=>cL v u
 |none,none=>True
 |_,_=>False
def KV{κ:Type}:List (κ×V)->List (κ×Value)->Prop:=Paired fun(p:κ×V) (q:κ×Value)=>p.1=q.1/\cL p.2 q.2
noncomputable def kV:b9->V
 | .inl i=> .int i
 | .inr x=> .str x
inductive HO where
 |lst (xs:List V)
 |tup (xs:List V)
 |dK (kvs:List (b9×V))|dT (kvs:List (List b9×V))
 |set (S:Int->Bool) (n:Nat)
 |ins (C dx:Addr) (fs:List (Str×V))
 |own (x:Addr)
 |xd (fs:List (Str×V))
 |met (f x:Addr)
 |rng (lo hi:Int)
 |frz (o:Obj) (u:HO)
 |tbl (ps:Array Value)
 |ext (φ:Heap->Prop)
abbrev Hp:=Addr->Option HO
def bP(H:Hp)(a:Addr)(o:HO):Hp:=fun b=>if b=a then some o else H b
theorem c0{H:Hp}{a:Addr}{o:HO}:bP H a o a=some o:=by unfold bP;rw[if_pos rfl]
theorem cE{H:Hp}{a b:Addr}{o:HO}(h:b≠a):bP H a o b=H b:=by unfold bP;rw[if_neg h]
theorem zIZ{H:Hp}{a b:Addr}{o u:HO}(h:H a=some o)(h':H b=some u)(d:o≠u):a≠b:=by intro e;subst e;rw[h] at h';exact d (Cb h')
theorem YL{H:Hp}{a b:Addr}{o:HO}(h:H a=some o)(h':H b=none):a≠b:=by intro e;subst e;rw[h] at h';cases h'
section
variable(P:Bq)(w:World)
def aG(H:Hp)(h:Heap)(a:Addr):HO->Prop
 | .lst xs=>xs.length<=sizeLine/\ ∃(its:List Value) (n:Nat),cG xs its/\h.get? a=some {cls:= .type "list",data:= .seq its.toArray n}
 | .tup xs=>xs.length<=sizeLine/\ ∃its:List Value,cG xs its/\IsTup h a its.toArray
 | .dK kvs=>kvs.length<=sizeLine/\(a==Fm)=false/\ ∃vs,KV kvs vs/\h.DictOf (b7 P w) a vs
 | .dT kvs => kvs.length <= sizeLine /\ (a == Fm) = false /\ ∃ xs : List (List b9 × Addr × Value),
   Paired (fun(p:List b9×V) (q:List b9×Addr×Value)=>p.1=q.1/\H q.2.1=some (.tup (p.1.map kV))/\cL p.2 q.2.2) kvs xs∧
   ∃o es ep,h.get? a=some o/\o.ExactDict/\o.data= .dict es ep/\es.toList=xs.map (entryOfKey (tupleKind (b7 P w)))/\(xs.map (·.1)).Nodup
 | .set S n=>h.SetOf (intKind P w) a S n
 | .ins C dx fs => H dx = some (.own a) /\ fs.length <= 1000 /\ dx ≠ a /\ h.get? a = some (Rg C dx) ∧
   ∃mA,h.Ns1 dx mA/\(∀f,RD (fs.lookup f) (mA f))/\Rh mA (fs.map (·.1))
 | .own _=> ∃o,h.get? a=some o
 | .xd fs=> ∃mA,h.Ns1 a mA/\ ∀f,RD (fs.lookup f) (mA f)
 | .rng lo hi=> ∃t u v,h.get? a=some {cls:= .type "range",data:= .fields #[.int lo t,.int hi u,.int 1 v]}
 | .frz o u=>h.get? a=some o/\aG H h a u
 | .tbl ps=>h.get? a=some {cls:= .none,data:= .fields ps}
 | .met f x=>h.get? a=some (Pl (.ref f) (.ref x))
 | .ext φ=>φ h/\(∃o,h.get? a=some o)/\ ∀h1 h2:Heap,φ h1->(∀o,h1.get? a=some o->h2.get? a=some o)->φ h2
def TH(H:Hp)(h:Heap):Prop:= ∀a o,H a=some o->aG P w H h a o
end
section
variable{P:Bq}{w:World}{H H':Hp}{h h':Heap}{a:Addr}{o:HO}
theorem aG.lt(x:aG P w H h a o):a<h.objs.size:=by
 cases o with
 |lst xs=>obtain⟨_,_,_,_,e⟩:=x;exact An e
 |tup xs=>obtain⟨_,_,_,p⟩:=x;exact p.lt
 |dK kvs=>obtain⟨_,_,_,_,o,_,_,e,_⟩:=x;exact An e
 |dT kvs=>obtain⟨_,_,_,_,o,_,_,e,_⟩:=x;exact An e
 |set S n=>obtain⟨o,_,_,_,e,_⟩:=x;exact An e
 |ins C dx fs=>obtain⟨_,_,_,e,_⟩:=x;exact An e
 |own y=>obtain⟨_,e⟩:=x;exact An e
 |xd fs=>obtain⟨_,⟨_,_,_,e,_⟩,_⟩:=x;exact An e
 |rng lo hi=>obtain⟨_,_,_,e⟩:=x;exact An e
 |frz ob u=>obtain⟨e,_⟩:=x;exact An e
 |tbl ps=>exact An (show h.get? a=some _ from x)
 |met f y=>exact An (show h.get? a=some _ from x)
 |ext φ=>obtain⟨_,⟨_,e⟩,_⟩:=x;exact An e
theorem Paired.mapP{α β:Type}{F G:α->β->Prop}: ∀{l₁:List α} {l₂:List β},Paired F l₁ l₂->(∀a b,F a b->G a b)->Paired G l₁ l₂
 |_,_,.nil,_=> .nil
 |_,_,.cons r t,f=> .cons (f _ _ r) (Paired.mapP t f)
theorem aG.stay(x:aG P w H h a o)(k: ∀b u,(b=a∨H b=some (.own a))->h.get? b=some u->h'.get? b=some u)
  (ho: ∀b,H b=some (.own a)->H' b=some (.own a)) (ht: ∀b xs,H b=some (.tup xs)->H' b=some (.tup xs)):aG P w H' h' a o:=by
 induction o with
 |lst xs=>obtain⟨z,its,n,r,e⟩:=x;exact⟨z,its,n,r,k _ _ (.inl rfl) e⟩
 |tup xs=>obtain⟨z,its,r,ob,e,c⟩:=x;exact⟨z,its,r,ob,k _ _ (.inl rfl) e,c⟩
 |dK kvs=>obtain⟨z,y,vs,r,ob,es,ep,e,c⟩:=x;exact⟨z,y,vs,r,ob,es,ep,k _ _ (.inl rfl) e,c⟩
 |dT kvs=>
  obtain⟨z,y,xs,r,ob,es,ep,e,c⟩:=x;exact⟨z,y,xs,Paired.mapP r fun p q z=>⟨z.1,ht _ _ z.2.1,z.2.2⟩,ob,es,ep,k _ _ (.inl rfl) e,c⟩
 |set S n=>obtain⟨ob,es,ep,t,e,c⟩:=x;exact⟨ob,es,ep,t,k _ _ (.inl rfl) e,c⟩
 |ins C dx fs=>
  obtain⟨d,z,ne,e,mA,⟨od,es,ep,e2,c⟩,r⟩:=x;exact⟨ho _ d,z,ne,k _ _ (.inl rfl) e,mA,⟨od,es,ep,k _ _ (.inr d) e2,c⟩,r⟩
 |own y=>obtain⟨ob,e⟩:=x;exact⟨ob,k _ _ (.inl rfl) e⟩
 |xd fs=>obtain⟨mA,⟨od,es,ep,e,c⟩,r⟩:=x;exact⟨mA,⟨od,es,ep,k _ _ (.inl rfl) e,c⟩,r⟩
 |rng lo hi=>obtain⟨t,u,v,e⟩:=x;exact⟨t,u,v,k _ _ (.inl rfl) e⟩
 |frz ob u ih=>obtain⟨e,q⟩:=x;exact⟨k _ _ (.inl rfl) e,ih q⟩
 |tbl ps=>
  have e:h.get? a=some {cls:= .none,data:= .fields ps}:=x;show h'.get? a=some {cls:= .none,data:= .fields ps};exact k a _ (.inl rfl) e
 |met f y=>
  have e:h.get? a=some (Pl (.ref f) (.ref y)):=x;show h'.get? a=some (Pl (.ref f) (.ref y));exact k a _ (.inl rfl) e
 |ext φ=>obtain⟨p,⟨o,e⟩,st⟩:=x;exact⟨st _ _ p fun o q=>k _ _ (.inl rfl) q,⟨o,k _ _ (.inl rfl) e⟩,st⟩
theorem TH.lt(x:TH P w H h)(e:H a=some o):a<h.objs.size:=(x a o e).lt
theorem TH.fresh(x:TH P w H h)(e:h.objs.size<=a):H a=none:=by
 cases q:H a with
 |none=>rfl
 |some u=>exact absurd (Ba (x.lt q) e) (Bz _)
theorem TH.kept(x:TH P w H h)(k: ∀b u,h.get? b=some u->h'.get? b=some u):TH P w H h':=fun a o e=>
 (x a o e).stay (fun b u _ q=>k b u q) (fun _ q=>q) fun _ _ q=>q
theorem TH.laid(x:TH P w H h)(k: ∀b u,h.get? b=some u->h'.get? b=some u)(hp:h.objs.size<=a)(new:aG P w (bP H a o) h' a o):TH P w (bP H a o) h':=fun b u e=>by
 have hn:=x.fresh hp;by_cases hb:b=a
 ·subst hb;rw[c0] at e;cases e;exact new
 ·rw[cE hb] at e
  exact(x b u e).stay (fun c v _ q=>k c v q) (fun c q=>by rw[cE (YL q hn)];exact q) fun c xs q=>by rw[cE (YL q hn)];exact q
end
def Rd(H:Hp)(a:Addr)(u:HO):Prop:=H a=some u∨ ∃o,H a=some (.frz o u)
theorem Rd.ok{P:Bq}{w:World}{H:Hp}{h:Heap}{a:Addr}{u:HO}(r:Rd H a u)(x:TH P w H h):aG P w H h a u:=by
 rcases r with r|⟨o,r⟩
 ·exact x a u r
 ·obtain⟨_,q⟩:=x a _ r
  exact q
def Mut:Option HO->Prop
 |some (.lst _)=>True
 |some (.dK _)=>True
 |some (.dT _)=>True
 |some (.set _ _)=>True
 |some (.ins _ _ _)=>True
 |some (.ext _)=>True
 |_=>False
section
variable{P:Bq}{w:World}{H:Hp}{h h':Heap}{x e:Addr}{o':HO}
theorem TH.write(ok:TH P w H h)(mu:Mut (H x))(he:e=x∨H e=some (.own x))(k: ∀b u,b≠e->h.get? b=some u->h'.get? b=some u)(heo: ∃u,h'.get? e=some u)
  (new:aG P w (bP H x o') h' x o'):TH P w (bP H x o') h':=fun b u q=>by
 have li: ∀c y,H c=some (.own y)->c≠x:=fun c y r z=>by subst z;rw[r] at mu;exact mu
 have ng: ∀c xs,H c=some (.tup xs)->c≠x:=fun c xs r z=>by subst z;rw[r] at mu;exact mu
 by_cases hb:b=x
 ·subst hb;rw[c0] at q;cases q;exact new
 ·rw[cE hb] at q
  by_cases hbe:b=e
  ·have q':H b=some (.own x):=by
    rcases he with z|z
    ·exact absurd (hbe.trans z) hb
    ·rw[hbe];exact z
   rw[q] at q';cases q';obtain⟨v,hv⟩:=heo;exact⟨v,by rw[hbe];exact hv⟩
  ·refine (ok b u q).stay (fun c v hc r => k c v ?_ r) (fun c r => by rw [cE (li c b r)];exact r) fun c xs r => by rw [cE (ng c xs r)];exact r
   rcases hc with rfl|hc
   ·exact hbe
   ·rintro rfl
    rcases he with z|z
    ·exact li c b hc z
    ·rw[hc] at z;cases z;exact hb rfl
end
structure Un(fs ex:List Addr)(H H':Hp)(h h':Heap):Prop where
 keep: ∀b o,h.get? b=some o->H b=none->b∉fs->b∉ex->h'.get? b=some o
 slot: ∀b o,h.get? b=some o->H b=none->b∈fs->b∉ex-> ∃sl,h'.get? b=some {o with slots:=sl}
 free: ∀b o,h.get? b=some o->H b=none->b∉ex->H' b=none
 there: ∀b o,h.get? b=some o->b∉ex-> ∃o',h'.get? b=some o'
 tups: ∀b xs,H b=some (.tup xs)->H' b=some (.tup xs)
 frzs: ∀b o u,H b=some (.frz o u)->H' b=some (.frz o u)
 tbls: ∀b ps,H b=some (.tbl ps)-> ∃more,H' b=some (.tbl (ps++more))
section
variable{fs fs' ex ex':List Addr}{H H1 H2:Hp}{h h1 h2 h':Heap}{a x e:Addr}{o:HO}
theorem Un.any(u:Un fs ex H H1 h h1){b:Addr}{ob:Obj}(q:h.get? b=some ob)(n:H b=none)(hx:b∉ex): ∃sl,h1.get? b=some {ob with slots:=sl}:=by
 by_cases hb:b∈fs
 ·exact u.slot b ob q n hb hx
 ·exact⟨ob.slots,u.keep b ob q n hb hx⟩
theorem Un.kept(k: ∀b u,h.get? b=some u->h'.get? b=some u):Un fs ex H H h h':=
 ⟨fun b ob q _ _ _=>k b ob q,fun b ob q _ _ _=>⟨ob.slots,k b ob q⟩,fun _ _ _ n _=>n,fun b ob q _=>⟨ob,k b ob q⟩,fun _ _ q=>q,fun _ _ _ q=>q,fun _ ps q=>⟨#[],by rw[q];simp⟩⟩
theorem Un.refl:Un fs ex H H h h:=Un.kept fun _ _ q=>q
theorem Un.laid(k: ∀b u,h.get? b=some u->h'.get? b=some u)(hp:h.objs.size<=a)(hn:H a=none):Un fs ex H (bP H a o) h h' where
 keep:=fun b u q _ _ _=>k b u q
 slot:=fun b u q _ _ _=>⟨u.slots,k b u q⟩
 free:=fun b u q n _=>by rw[cE (Be (Ba (An q) hp))];exact n
 there:=fun b u q _=>⟨u,k b u q⟩
 tups:=fun b xs q=>by rw[cE (YL q hn)];exact q
 frzs:=fun b u xs q=>by rw[cE (YL q hn)];exact q
 tbls:=fun b ps q=>⟨#[],by rw[cE (YL q hn),q];simp⟩
theorem Un.write(mu:Mut (H x))(he:e=x∨H e=some (.own x))(k: ∀b u,b≠e->h.get? b=some u->h'.get? b=some u)(heo: ∃u,h'.get? e=some u):Un fs ex H (bP H x o) h h':=by
 have hx: ∀b,H b=none->b≠x:=fun b n z=>by subst z;rw[n] at mu;exact mu
 have hb: ∀b,H b=none->b≠e:=fun b n z=>by
  subst z;rcases he with r|r
  ·exact hx b n r
  ·rw[n] at r;cases r
 have hm: ∀b u,H b=some u-> ¬Mut (some u)->b≠x:=fun b u q nm z=>by subst z;rw[q] at mu;exact nm mu
 refine⟨fun b u q n _ _=>k b u (hb b n) q,fun b u q n _ _=>⟨u.slots,k b u (hb b n) q⟩,fun b u q n _=>by rw[cE (hx b n)];exact n,fun b u q _=> ?_,
  fun b xs q=>by rw[cE (hm b _ q fun z=>z)];exact q,fun b u xs q=>by rw[cE (hm b _ q fun z=>z)];exact q,fun b ps q=>⟨#[],by rw[cE (hm b _ q fun z=>z),q];simp⟩⟩
 by_cases hbe:b=e
 ·subst hbe;exact heo
 ·exact⟨u,k b u hbe q⟩
end
def trk(h:Heap)(H:Hp):List Addr:=(Am h.objs.size).filter fun a=>(H a).isSome
def LW(h:Heap)(H:Hp):Heap:=W.hideAll h (trk h H)
theorem DP(h:Heap)(H:Hp):(LW h H).objs.size=h.objs.size:=W.hideAll_size _ _
theorem zAU{h:Heap}{H:Hp}{b:Addr}{o:Obj}(e:h.get? b=some o)(n:H b=none):(LW h H).get? b=some o:=
 W.hideAll_get _ e fun hm=>by
  have q:(H b).isSome=true:=(Dm.mp hm).2;rw[n] at q;simp at q
theorem zCI{h:Heap}{H:Hp}{b:Addr}{o:Obj}(e:(LW h H).get? b=some o):h.get? b=some o/\H b=none:=by
 have e':h.get? b=some o:=W.of_hideAll (trk h H) e;refine⟨e',?_⟩;cases q:H b with
 |none=>rfl
 |some x=>
  have hm:b∈trk h H:=Dm.mpr ⟨Bk.mpr (An e'),by simp[q]⟩;have z:(LW h H).get? b=none:=W.hideAll_none (trk h H) hm;rw[z] at e;cases e
structure Mod(K:As)(mg:Str->Option Value)(base:Heap):Prop where
 kin:K.In base
 glob:base.Ns mainGlobals mg
 blt: ∃mb,base.Ns builtinsNs mb/\ ∀x:Str,x≠ "__name__" ->mb x=Bj x
 nolimit:base.NoLimit
structure Cx where
 prog:Bq
 w:World
 K:As
 mg:Str->Option Value
 base:Heap
 A:Cy
 N:List Str
 s₀:Af
 H₀:Hp
 env:Env
 outer:List Env
 stack:List Env
 ex:List Addr
 fn:Str->Bool
 calm:Bool
 pn:List (Addr×Obj)
 xe:Value->Af->Prop
def DO(l:List Env):List Addr:=l.filterMap (·.frame)
abbrev Cx.fs(X:Cx):List Addr:=DO X.outer
def Vis(sc:Scope)(x:Str):Prop:=sc.names.lookup x=some .local∨sc.names.lookup x=some .cell∨sc.names.lookup x=some .free
def GV(sc:Scope)(x:Str):Prop:=sc.names.lookup x=some .local∨sc.names.lookup x=some .cell
def Look(env:Env)(h:Heap)(m:Str->Option Value)(x:Str)(u:Value):Prop:=
 (env.kindOf x=some .local/\m x=some u)∨((env.kindOf x=some .cell∨env.kindOf x=some .free)/\ ∃c,env.cells.lookup x=some c/\h.IsCell c (some u))
structure Cx.Ok(X:Cx):Prop where
 mod:Mod X.K X.mg X.base
 kind:X.env.scope.kind= .function
 glob:X.env.globals=mainGlobals
 blt:X.env.builtins=builtinsNs
 above:X.s₀.heap.objs.size<=X.env.locals
 inj: ∀x y c,X.env.cells.lookup x=some c->X.env.cells.lookup y=some c->x=y
 has: ∀x,(X.env.kindOf x=some .cell∨X.env.kindOf x=some .free)-> ∃c,X.env.cells.lookup x=some c
 cab: ∀x c,X.fn x=true->X.env.cells.lookup x=some c->X.s₀.heap.objs.size<=c
 hd:X.calm=true->X.A.handled=none
 frames:X.A.frames=some X.stack
 stk:X.stack=X.outer∨(X.stack=X.env::X.outer/\X.env.frame=some X.env.locals)
 exf: ∀b∈X.ex,b≠X.env.locals/\ ∀x c,X.env.cells.lookup x=some c->c≠b
 bs: ∀b o,X.base.get? b=some o->X.s₀.heap.get? b=some o/\X.H₀ b=none
 bsz:X.base.objs.size<=X.s₀.heap.objs.size
 noex: ∀b o,X.base.get? b=some o->b∉X.ex
 exfs: ∀b∈X.ex,b∉X.fs
 funs:X.s₀.heap.FunFrames X.base X.outer
 frf: ∀b∈X.fs,X.H₀ b=none
structure c6(X:Cx)(aa:List (Addr×Obj))(σ:List (Option V))(H:Hp)(s:Af):Prop where
 ok:X.Ok
 os:s.os=X.s₀.os
 bare:Lk s.gens
 base:Un X.fs X.ex X.H₀ H X.s₀.heap s.heap
 loc: ∃m,s.heap.Ns X.env.locals m/\ ∀(i:Nat) (x:Str) (v:V),X.N[i]? =some x->σ[i]? =some (some v)->Vis X.env.scope x-> ∃u,cL v u/\Look X.env s.heap m x u
 cell: ∀x c,X.env.cells.lookup x=some c-> ∃v,s.heap.IsCell c v
 free:H X.env.locals=none
 freeC: ∀x c,X.env.cells.lookup x=some c->H c=none
 pin: ∀p∈X.pn++aa,s.heap.get? p.1=some p.2/\H p.1=none/\p.1≠X.env.locals/\p.1∉X.fs/\ ∀v,p.2.data≠ .cell v
 hok:TH X.prog X.w H s.heap
 len:σ.length=X.N.length
section
variable{X:Cx}{aa:List (Addr×Obj)}{σ:List (Option V)}{H H':Hp}{s:Af}{h':Heap}
theorem Cx.Ok.nofr(ok:X.Ok){b:Addr}{o:Obj}(e:X.base.get? b=some o):b∉X.fs:=fun hb=>by
 have:=(ok.funs.mem hb).1;rw[e] at this;cases this
theorem c6.bs(I:c6 X aa σ H s): ∀b o,X.base.get? b=some o->s.heap.get? b=some o/\H b=none:=fun b o e=>
 ⟨I.base.keep b o (I.ok.bs b o e).1 (I.ok.bs b o e).2 (I.ok.nofr e) (I.ok.noex b o e),I.base.free b o (I.ok.bs b o e).1 (I.ok.bs b o e).2 (I.ok.noex b o e)⟩
theorem c6.bk(I:c6 X aa σ H s): ∀b o,X.base.get? b=some o->s.heap.get? b=some o:=fun b o e=>(I.bs b o e).1
theorem c6.mod(I:c6 X aa σ H s):Mod X.K X.mg X.base:=I.ok.mod
theorem c6.kIn(I:c6 X aa σ H s):X.K.In s.heap:=I.ok.mod.kin.keeps I.bk
theorem c6.lt(I:c6 X aa σ H s):X.env.locals<s.heap.objs.size:=let ⟨_,hn,_⟩:=I.loc;hn.lt
theorem c6.sz(I:c6 X aa σ H s):X.s₀.heap.objs.size<=s.heap.objs.size:=Cf I.ok.above (Fa I.lt)
theorem c6.nofs(I:c6 X aa σ H s){a:Addr}(h:s.heap.objs.size<=a):a∉X.fs:=fun hb=>by
 obtain⟨_,o,ho,_⟩:=I.ok.funs.mem hb;exact absurd (Ba (An ho) (Cf I.sz h)) (Bz _)
theorem c6.cne(I:c6 X aa σ H s): ∀x c,X.env.cells.lookup x=some c->c≠X.env.locals:=fun x c e z=>by
 obtain⟨v,o,ho,hd⟩:=I.cell x c e;obtain⟨m,⟨o',es,ep,ho',hd',_⟩,_⟩:=I.loc;rw[z,ho'] at ho;cases ho;rw[hd'] at hd;cases hd
theorem c6.funs(I:c6 X aa σ H s):s.heap.FunFrames X.base X.outer:=by
 have all: ∀(l:List Env),(∀b∈DO l,b∈X.fs)->X.s₀.heap.FunFrames X.base l->s.heap.FunFrames X.base l:=by
  intro l;induction l with
  |nil=>intro _ _;trivial
  |cons env r ih=>
   intro hs hl;obtain⟨hk,⟨L,o,hf,hn,ho,hd⟩,hr⟩:=hl;have hL:L∈X.fs:=hs L (by unfold DO;rw[Iw,hf];exact Ai);obtain⟨sl,e⟩:=I.base.slot L o ho (I.ok.frf L hL) hL fun z=>I.ok.exfs L z hL;exact⟨hk,⟨L,_,hf,hn,e,hd⟩,ih (fun b hb=>hs b (by unfold DO;rw[Iw,hf];exact Ah _ hb)) hr⟩
 exact all X.outer (fun _ hb=>hb) I.ok.funs
theorem c6.stack(I:c6 X aa σ H s):s.heap.FunFrames X.base X.stack:=by
 rcases I.ok.stk with e|⟨e,hf⟩
 ·rw[e];exact I.funs
 ·rw[e]
  obtain⟨m,hn,_⟩:=I.loc;refine .cons (by rw[I.ok.kind];decide) hf hn ?_ I.funs;exact Heap.get?_none_of_le (Cf I.ok.bsz I.ok.above)
theorem c6.stkSub(I:c6 X aa σ H s): ∀b∈DO X.stack,b∈X.env.locals::X.fs:=fun b hb=>by
 rcases I.ok.stk with e|⟨e,hf⟩
 ·rw[e] at hb;exact Ah _ hb
 ·rw[e] at hb
  unfold DO at hb;rw[Iw,hf] at hb;exact hb
theorem c6.stkFree(I:c6 X aa σ H s): ∀b∈DO X.stack,H b=none:=fun b hb=>by
 rcases Al.mp (I.stkSub b hb) with e|hb
 ·rw[e];exact I.free
 ·obtain⟨_,o,ho,_⟩:=I.ok.funs.mem hb
  exact I.base.free b o ho (I.ok.frf b hb) fun z=>I.ok.exfs b z hb
theorem c6.step{g':Array GenState}{t':Nat}{d':Drawn}{ch:List Addr}(I:c6 X aa σ H s)
  (hch: ∀b∈ch,(b∈X.ex∨X.s₀.heap.objs.size<=b)/\b≠X.env.locals/\(∀x c,X.env.cells.lookup x=some c->c≠b)/\ ∀p∈X.pn++aa,p.1≠b)
  (keep: ∀b o,b≠X.env.locals->b∉X.fs->b∉ch->s.heap.get? b=some o->H b=none->h'.get? b=some o)
  (slot: ∀b o,b≠X.env.locals->b∈X.fs->b∉ch->s.heap.get? b=some o->H b=none-> ∃sl,h'.get? b=some {o with slots:=sl}) (free: ∀b o,b∉ch->s.heap.get? b=some o->H b=none->H' b=none)
  (there: ∀b o,b∉ch->s.heap.get? b=some o-> ∃o',h'.get? b=some o')
  (tups: ∀b xs,H b=some (.tup xs)->H' b=some (.tup xs)) (frzs: ∀b o u,H b=some (.frz o u)->H' b=some (.frz o u)) (tbls: ∀b ps,H b=some (.tbl ps)-> ∃more,H' b=some (.tbl (ps++more)))
  (ns: ∀m,s.heap.Ns X.env.locals m->h'.Ns X.env.locals m) (hok:TH X.prog X.w H' h') (hg:Lk g'):
  c6 X aa σ H' {s with heap:=h',gens:=g',drawn:=d',toks:=t'}:=by
 have neL: ∀b o,X.s₀.heap.get? b=some o->b≠X.env.locals:=fun b o e=>Be (Ba (An e) I.ok.above);have neC: ∀b o,X.s₀.heap.get? b=some o->b∉X.ex->b∉ch:=fun b o e hx hb=>by
  rcases(hch b hb).1 with z|z
  ·exact hx z
  ·exact absurd (Ba (An e) z) (Bz _)
 have iq: ∀x c,X.env.cells.lookup x=some c-> ∀v,s.heap.IsCell c v->h'.IsCell c v:=fun x c e v q0=>by
  obtain⟨o,ho,hd⟩:=q0;have nch:c∉ch:=fun z=>(hch c z).2.2.1 x c e rfl;by_cases hc:c∈X.fs
  ·obtain⟨sl,q⟩:=slot c o (I.cne x c e) hc nch ho (I.freeC x c e)
   exact⟨_,q,hd⟩
  ·exact⟨o,keep c o (I.cne x c e) hc nch ho (I.freeC x c e),hd⟩
 refine⟨I.ok,I.os,hg,⟨fun b o e n hb hx=> ?_,fun b o e n hb hx=> ?_,fun b o e n hx=> ?_,fun b o e hx=> ?_,fun b xs e=>tups b xs (I.base.tups b xs e),fun b o xs e=>frzs b o xs (I.base.frzs b o xs e),fun b ps e=> ?_⟩,?_,fun x c e=> ?_,?_,fun x c e=> ?_,fun p hp=> ?_,hok,I.len⟩
 ·exact keep b o (neL b o e) hb (neC b o e hx) (I.base.keep b o e n hb hx) (I.base.free b o e n hx)
 ·obtain⟨sl,e1⟩:=I.base.slot b o e n hb hx
  obtain⟨sl',e2⟩:=slot b _ (neL b o e) hb (neC b o e hx) e1 (I.base.free b o e n hx);exact⟨sl',e2⟩
 ·obtain⟨o',e1⟩:=I.base.there b o e hx
  exact free b o' (neC b o e hx) e1 (I.base.free b o e n hx)
 ·obtain⟨o',e1⟩:=I.base.there b o e hx
  exact there b o' (neC b o e hx) e1
 ·obtain⟨m1,e1⟩:=I.base.tbls b ps e
  obtain⟨m2,e2⟩:=tbls b _ e1;exact⟨m1++m2,by rw[e2,Array.append_assoc]⟩
 ·obtain⟨m,hn,hl⟩:=I.loc
  refine⟨m,ns m hn,fun i x v e1 e2 e3=> ?_⟩;obtain⟨u,r,l⟩:=hl i x v e1 e2 e3;refine⟨u,r,?_⟩;rcases l with l|⟨k,c,e,z⟩
  ·exact .inl l
  ·exact .inr ⟨k,c,e,iq x c e _ z⟩
 ·obtain⟨v,z⟩:=I.cell x c e
  exact⟨v,iq x c e v z⟩
 ·obtain⟨m,⟨o,_,_,ho,_⟩,_⟩:=I.loc
  exact free _ o (fun z=>(hch _ z).2.1 rfl) ho I.free
 ·obtain⟨v,o,ho,hd⟩:=I.cell x c e
  exact free c o (fun z=>(hch c z).2.2.1 x c e rfl) ho (I.freeC x c e)
 ·obtain⟨e,n,ne,nf,d⟩:=I.pin p hp
  have nch:p.1∉ch:=fun z=>(hch p.1 z).2.2.2 p hp rfl;exact⟨keep p.1 p.2 ne nf nch e n,free p.1 p.2 nch e n,ne,nf,d⟩
theorem c6.un{t':Nat}(I:c6 X aa σ H s)(u:Un X.fs [] H H' s.heap h')(hok:TH X.prog X.w H' h'):c6 X aa σ H' {s with heap:=h',toks:=t'}:=by
 obtain⟨m,⟨o,es,ep,ho,r⟩,_⟩:=id I.loc;obtain⟨sl,hL⟩:=u.any ho I.free (by simp);exact I.step (g':=s.gens) (d':=s.drawn) (ch:=[]) (fun _ z=>nomatch z) (fun b o _ hb _ e n=>u.keep b o e n hb (by simp)) (fun b o _ hb _ e n=>u.slot b o e n hb (by simp)) (fun b o _ e n=>u.free b o e n (by simp)) (fun b o _ e=>u.there b o e (by simp)) u.tups u.frzs u.tbls (fun m' hm=>by
  obtain⟨o',es',ep',ho',r'⟩:=hm;rw[ho] at ho';cases ho';exact⟨_,es',ep',hL,r'⟩) hok I.bare
theorem c6.call{g':Array GenState}{t':Nat}{d':Drawn}{ch:List Addr}(I:c6 X aa σ H s)(u:Un (DO X.stack) ch H H' s.heap h')(hok:TH X.prog X.w H' h')(hg:Lk g')
  (hch: ∀b∈ch,(b∈X.ex∨X.s₀.heap.objs.size<=b)/\b≠X.env.locals/\(∀x c,X.env.cells.lookup x=some c->c≠b)/\ ∀p∈X.pn++aa,p.1≠b):
  c6 X aa σ H' {s with heap:=h',gens:=g',drawn:=d',toks:=t'}:=by
 obtain⟨m,⟨o,es,ep,ho,r⟩,_⟩:=id I.loc;obtain⟨sl,hL⟩:=u.any ho I.free fun z=>(hch _ z).2.1 rfl;exact I.step (ch:=ch) hch (fun b o hL hb hc e n=>u.keep b o e n (fun z=>(Al.mp (I.stkSub b z)).elim hL hb) hc) (fun b o _ _ hc e n=>u.any e n hc) (fun b o hc e n=>u.free b o e n hc) (fun b o hc e=>u.there b o e hc) u.tups u.frzs u.tbls (fun m' hm=>by
  obtain⟨o',es',ep',ho',r'⟩:=hm;rw[ho] at ho';cases ho';exact⟨_,es',ep',hL,r'⟩) hok hg
theorem c6.turned{t':Nat}{it:Addr}(I:c6 X aa σ H s)(k: ∀b o,b≠it->s.heap.get? b=some o->h'.get? b=some o)(hn:H it=none)(hL:it≠X.env.locals)
  (h1:it∈X.ex∨X.s₀.heap.objs.size<=it) (h2: ∀x c,X.env.cells.lookup x=some c->c≠it) (h3: ∀p∈X.pn++aa,p.1≠it):c6 X aa σ H {s with heap:=h',toks:=t'}:=by
 have nit: ∀b u,H b=some u->b≠it:=fun b u e z=>by rw[z,hn] at e;cases e
 refine I.step (g':=s.gens) (d':=s.drawn) (ch:=[it]) (fun b hb=> ?_) (fun b o _ _ hc e _=>k b o (fun z=>hc (by simp[z])) e) (fun b o _ _ hc e _=>⟨o.slots,k b o (fun z=>hc (by simp[z])) e⟩) (fun _ _ _ _ n=>n)
  (fun b o hc e=>⟨o,k b o (fun z=>hc (by simp[z])) e⟩) (fun _ _ e=>e) (fun _ _ _ e=>e) (fun b ps e=>⟨#[],by rw[e];simp⟩) (fun m hm=> ?_) (fun b u e=> ?_) I.bare
 ·have e : b = it := by simpa using hb
  subst e;exact⟨h1,hL,h2,h3⟩
 ·obtain⟨o,es,ep,ho,r⟩:=hm
  exact⟨o,es,ep,k _ o (Dg hL) ho,r⟩
 ·refine (I.hok b u e).stay (fun c v hc q => k c v ?_ q) (fun _ q => q) fun _ _ q => q
  rcases hc with z|z
  ·rw[z];exact nit b u e
  ·exact nit c _ z
theorem c6.tok(I:c6 X aa σ H s)(t:Nat):c6 X aa σ H {s with toks:=t}:=I.un (h':=s.heap) (t':=t) Un.refl I.hok
theorem c6.kept{t':Nat}(I:c6 X aa σ H s)(k: ∀b u,s.heap.get? b=some u->h'.get? b=some u):c6 X aa σ H {s with heap:=h',toks:=t'}:=I.un (Un.kept k) (I.hok.kept k)
theorem c6.laid{a:Addr}{o:HO}{t':Nat}(I:c6 X aa σ H s)(k: ∀b u,s.heap.get? b=some u->h'.get? b=some u)(hp:s.heap.objs.size<=a)(new:aG X.prog X.w (bP H a o) h' a o):
  c6 X aa σ (bP H a o) {s with heap:=h',toks:=t'}:=I.un (Un.laid k hp (I.hok.fresh hp)) (I.hok.laid k hp new)
theorem c6.write{x e:Addr}{o:HO}{t':Nat}(I:c6 X aa σ H s)(mu:Mut (H x))(he:e=x∨H e=some (.own x))(k: ∀b u,b≠e->s.heap.get? b=some u->h'.get? b=some u)(heo: ∃u,h'.get? e=some u)
  (new:aG X.prog X.w (bP H x o) h' x o):c6 X aa σ (bP H x o) {s with heap:=h',toks:=t'}:=I.un (Un.write mu he k heo) (I.hok.write mu he k heo new)
theorem c6.weak{σ':List (Option V)}(I:c6 X aa σ H s)(hl:σ'.length=σ.length)(w: ∀(i:Nat) v,σ'[i]? =some (some v)->σ[i]? =some (some v)):c6 X aa σ' H s:=
 ⟨I.ok,I.os,I.bare,I.base,let ⟨m,hn,hl'⟩:=I.loc;⟨m,hn,fun i x v e1 e2 e3=>hl' i x v e1 (w i v e2) e3⟩,I.cell,I.free,I.freeC,I.pin,I.hok,hl.trans I.len⟩
theorem c6.pins_of{im:List (Addr×Obj)}(I:c6 X aa σ H s)(h: ∀p∈im,s.heap.get? p.1=some p.2/\H p.1=none/\p.1≠X.env.locals/\p.1∉X.fs/\ ∀v,p.2.data≠ .cell v):c6 X im σ H s:=
 ⟨I.ok,I.os,I.bare,I.base,I.loc,I.cell,I.free,I.freeC,fun p hp=>(Cc.mp hp).elim (fun z=>I.pin p (Bo _ z)) (h p),I.hok,I.len⟩
theorem J0{N:List Str}(hN:N.Nodup){i j:Nat}{x:Str}(a:N[i]? =some x)(b:N[j]? =some x):i=j:=by
 obtain⟨h1,e1⟩:=Ag.mp a;obtain⟨h2,e2⟩:=Ag.mp b;exact(Op hN).mp (e1.trans e2.symm)
theorem R7{M:Model}{A:Cy}{E:Value->Af->Prop}{i:Nat}{x:Str}{v:V}{u:Value}{Q:Unit->Af->Prop}(I:c6 X aa σ H s)(hN:X.N.Nodup)(hi:X.N[i]? =some x)(hx:GV X.env.scope x)(r:cL v u)
  (h: ∀s',c6 X aa (σ.set i (some v)) H s'->(∃a,Fb a s.heap s'.heap/\(a=X.env.locals∨X.env.cells.lookup x=some a))->Q () s') (hf:X.fn x=true∨X.env.scope.names.lookup x=some .local:=by first|exact .inl rfl|exact .inr rfl|assumption):wpAny M A (storeName X.env x u) Q E s:=by
 obtain⟨m,hn,hl⟩:=id I.loc;have og:(X.env.scope.kind== .class || (X.env.scope.kind== .module && X.env.locals !=X.env.globals))=false:=by rw[I.ok.kind];rfl
 have hiσ:i<σ.length:=by rw[I.len];exact(Ag.mp hi).1
 have cne:=I.cne;have eu: ∀{a:Addr} {h':Heap},(∃o,s.heap.get? a=some o/\H a=none)->Fb a s.heap h'->TH X.prog X.w H h':=fun{a h'} ha hs b ob e=>by
  obtain⟨_,_,az⟩:=ha;refine(I.hok b ob e).stay (fun c w' hc q=>(hs.2 c ?_).trans q) (fun _ q=>q) fun _ _ q=>q;rintro rfl;rcases hc with rfl|hc
  ·rw[az] at e;cases e
  ·rw[az] at hc;cases hc
 rcases hx with hk|hk
 ·refine wpAny_storeName_local hk hn (fun h' hn' hs => ?_) og
  obtain⟨oL,_,_,hoL,_⟩:=id hn;refine h _ ⟨I.ok,I.os,I.bare,⟨fun b o e n hb hx=> ?_,fun b o e n hb hx=> ?_,I.base.free,fun b o e hx=> ?_,I.base.tups,I.base.frzs,I.base.tbls⟩,⟨_,hn',fun j y v' e1 e2 e3=> ?_⟩,fun y c e=> ?_,I.free,I.freeC,fun p hp=> ?_,eu ⟨oL,hoL,I.free⟩ hs,by simpa using I.len⟩ ⟨_,hs,.inl rfl⟩
  ·exact(hs.2 b (Be (Ba (An e) I.ok.above))).trans (I.base.keep b o e n hb hx)
  ·obtain⟨sl,e1⟩:=I.base.slot b o e n hb hx
   exact⟨sl,(hs.2 b (Be (Ba (An e) I.ok.above))).trans e1⟩
  ·obtain⟨o',e1⟩:=I.base.there b o e hx
   exact⟨o',(hs.2 b (Be (Ba (An e) I.ok.above))).trans e1⟩
  ·by_cases hj:j=i
   ·subst hj
    rw[hi] at e1;cases e1;rw[Db hiσ] at e2;cases e2;exact⟨u,r,.inl ⟨hk,by simp⟩⟩
   ·rw[Bw (Dg hj)] at e2
    obtain⟨u',r',q⟩:=hl j y v' e1 e2 e3;refine⟨u',r',?_⟩;rcases q with⟨k,e⟩|⟨k,c,e,z⟩
    ·refine .inl ⟨k,?_⟩
     have:y≠x:=fun e=>hj (J0 hN e1 (e▸hi));simp[this,e]
    ·exact .inr ⟨k,c,e,z.sameBut hs (cne y c e)⟩
  ·obtain⟨w',z⟩:=I.cell y c e
   exact⟨w',z.sameBut hs (cne y c e)⟩
  ·obtain⟨e,n,ne,nf,d⟩:=I.pin p hp
   exact⟨(hs.2 p.1 ne).trans e,n,ne,nf,d⟩
 ·have hfn:X.fn x=true:=by
   rcases hf with z|z
   ·exact z
   ·rw[z] at hk;cases hk
  obtain⟨c,hc⟩:=I.ok.has x (.inl hk);obtain⟨w',z⟩:=I.cell x c hc;refine wpAny_storeName_cell I.ok.kind hk hc z (fun h' hc' hs=> ?_);obtain⟨oc,hoc,nw⟩:=id z;refine h {s with heap:=h'} ⟨I.ok,I.os,I.bare,⟨fun b o e n hb hx=> ?_,fun b o e n hb hx=> ?_,I.base.free,fun b o e hx=> ?_,I.base.tups,I.base.frzs,I.base.tbls⟩,⟨m,hn.sameBut hs (Dg (cne x c hc)),fun j y v' e1 e2 e3=> ?_⟩,fun y c' e=> ?_,I.free,I.freeC,fun p hp=> ?_,eu ⟨oc,hoc,I.freeC x c hc⟩ hs,by simpa using I.len⟩ ⟨c,hs,.inr hc⟩
  ·exact(hs.2 b (Be (Ba (An e) (I.ok.cab x c hfn hc)))).trans (I.base.keep b o e n hb hx)
  ·obtain⟨sl,e1⟩:=I.base.slot b o e n hb hx
   exact⟨sl,(hs.2 b (Be (Ba (An e) (I.ok.cab x c hfn hc)))).trans e1⟩
  ·obtain⟨o',e1⟩:=I.base.there b o e hx
   exact⟨o',(hs.2 b (Be (Ba (An e) (I.ok.cab x c hfn hc)))).trans e1⟩
  ·by_cases hj:j=i
   ·subst hj
    rw[hi] at e1;cases e1;rw[Db hiσ] at e2;cases e2;exact⟨u,r,.inr ⟨.inl hk,c,hc,hc'⟩⟩
   ·rw[Bw (Dg hj)] at e2
    obtain⟨u',r',q⟩:=hl j y v' e1 e2 e3;refine⟨u',r',?_⟩;rcases q with q|⟨k,c',e,z'⟩
    ·exact .inl q
    ·refine .inr ⟨k,c',e,z'.sameBut hs ?_⟩
     rintro rfl;exact hj (J0 hN e1 (I.ok.inj _ _ _ e hc▸hi))
  ·by_cases hcc:c'=c
   ·subst hcc;exact⟨_,hc'⟩
   ·obtain⟨w2,z2⟩:=I.cell y c' e
    exact⟨w2,z2.sameBut hs hcc⟩
  ·obtain⟨e,n,ne,nf,d⟩:=I.pin p hp
   refine⟨(hs.2 p.1 ?_).trans e,n,ne,nf,d⟩;intro q;rw[q,hoc] at e;have q':oc=p.2:=Cb e;exact d w' (by rw[<- q'];exact nw)
theorem Y1{M:Model}{A:Cy}{E:Value->Af->Prop}{i:Nat}{x:Str}{v:V}{u:Value}{Q:Unit->Af->Prop}(I:c6 X aa σ H s)(hN:X.N.Nodup)(hi:X.N[i]? =some x)(hx:GV X.env.scope x)(r:cL v u)
  (h: ∀s',c6 X aa (σ.set i (some v)) H s'->Q () s') (hf:X.fn x=true∨X.env.scope.names.lookup x=some .local:=by first|exact .inl rfl|exact .inr rfl|assumption):wpAny M A (storeName X.env x u) Q E s:=
 R7 I hN hi hx r (fun s' I' _=>h s' I') hf
theorem c6.call'{s':Af}{ch:List Addr}(I:c6 X aa σ H s)(ho:s'.os=s.os)(u:Un (DO X.stack) ch H H' s.heap s'.heap)(hok:TH X.prog X.w H' s'.heap)(hg:Lk s'.gens)
  (hch: ∀b∈ch,(b∈X.ex∨X.s₀.heap.objs.size<=b)/\b≠X.env.locals/\(∀x c,X.env.cells.lookup x=some c->c≠b)/\ ∀p∈X.pn++aa,p.1≠b):c6 X aa σ H' s':=by
 obtain⟨h',g',d',t',o'⟩:=s';have e:o'=s.os:=ho;subst e;exact I.call (g':=g') (t':=t') (d':=d') u hok hg hch
end
abbrev XK:=Value->Option Addr->Hp->Prop
abbrev St:=List (Option V)
abbrev VK:=V->Hp->Prop
abbrev TE:=St->Hp->VK->Prop
abbrev TT:=St->Hp->(Bool->Hp->Prop)->Prop
abbrev TA:=St->Hp->(List V->Hp->Prop)->Prop
structure GU where
 nx:St->Hp->Prop
 rt:VK
 bk:St->Hp->Prop:=fun _ _=>False
 ct:St->Hp->Prop:=fun _ _=>False
abbrev TS:=GU->St->Hp->Prop
def EP(X:Cx)(aa:List (Addr×Obj))(σ:St)(Q:VK)(u:Value)(s':Af):Prop:= ∃v H',c6 X aa σ H' s'/\cL v u/\Q v H'
def TP(X:Cx)(aa:List (Addr×Obj))(σ:St)(Q:Bool->Hp->Prop)(b:Bool)(s':Af):Prop:= ∃H',c6 X aa σ H' s'/\Q b H'
def AP(X:Cx)(aa:List (Addr×Obj))(σ:St)(Q:List V->Hp->Prop)(us:List Value)(s':Af):Prop:= ∃vs H',c6 X aa σ H' s'/\cG vs us/\Q vs H'
def SP(X:Cx)(aa:List (Addr×Obj))(D:GU)(f:Flow)(s':Af):Prop:=
 match f with
 | .next=> ∃σ' H',c6 X aa σ' H' s'/\D.nx σ' H'
 | .brk=> ∃σ' H',c6 X aa σ' H' s'/\D.bk σ' H'
 | .cont=> ∃σ' H',c6 X aa σ' H' s'/\D.ct σ' H'
 | .ret u=> ∃v σ' H',c6 X aa σ' H' s'/\cL v u/\D.rt v H'
def PE(X:Cx)(e:Expr)(t:TE):Prop:=
 ∀(aa:List (Addr×Obj)) (s:Af) (σ:St) (H:Hp) (Q:VK),c6 X aa σ H s->t σ H Q->wpAny (model X.prog X.w) X.A (eval e X.env) (EP X aa σ Q) X.xe s
def PT(X:Cx)(e:Expr)(t:TT):Prop:=
 ∀(aa:List (Addr×Obj)) (s:Af) (σ:St) (H:Hp) (Q:Bool->Hp->Prop),c6 X aa σ H s->t σ H Q->wpAny (model X.prog X.w) X.A (isTrue e X.env (eval e X.env)) (TP X aa σ Q) X.xe s
def PW(X:Cx)(e:Expr)(t:TT):Prop:=
 ∀(bp:Sem Value) (aa:List (Addr×Obj)) (s:Af) (σ:St) (H:Hp) (Q:Bool->Hp->Prop),c6 X aa σ H s->t σ H Q->wpAny (model X.prog X.w) X.A (isTrue e X.env bp) (TP X aa σ Q) X.xe s
theorem PW.pt{X:Cx}{e:Expr}{t:TT}(h:PW X e t):PT X e t:=h _
def PA(X:Cx)(es:List Expr)(t:TA):Prop:=
 ∀(pos:Pos) (aa:List (Addr×Obj)) (s:Af) (σ:St) (H:Hp) (Q:List V->Hp->Prop),c6 X aa σ H s->t σ H Q->wpAny (model X.prog X.w) X.A (spliced (Fw pos (Ak es X.env))) (AP X aa σ Q) X.xe s
def PS(X:Cx)(st:Stmt)(t:TS):Prop:=
 ∀(aa:List (Addr×Obj)) (s:Af) (σ:St) (H:Hp) (D:GU),c6 X aa σ H s->t D σ H->wpAny (model X.prog X.w) X.A (exec st X.env) (SP X aa D) X.xe s
def QN(X:Cx)(st:List Stmt)(t:TS):Prop:=
 ∀(aa:List (Addr×Obj)) (s:Af) (σ:St) (H:Hp) (D:GU),c6 X aa σ H s->t D σ H->wpAny (model X.prog X.w) X.A (execs st X.env) (SP X aa D) X.xe s
theorem ZT{α:Type}{t:Sem α}{Q Q':α->Af->Prop}{M:Model}{A:Cy}{E:Value->Af->Prop}{s:Af}(h:wpAny M A t Q E s)(hQ: ∀a s,Q a s->Q' a s):wpAny M A t Q' E s:=Az h hQ fun _ _ x=>x
section
variable{X:Cx}
def MD(i:Nat):TE:=fun σ H Q=> ∃v,σ[i]? =some (some v)/\Q v H
def tC(v:V):TE:=fun _ H Q=>Q v H
theorem HR{i:Nat}{x:Str}{pos:Pos}(hN:X.N[i]? =some x)(hv:Vis X.env.scope x)(hd:(x==("__debug__":Str))=false:=by decide) (hcd:(x==("__classdict__":Str))=false:=by decide):PE X (.Name x pos) (MD i):=by
 intro aa s σ H Q I h;obtain⟨v,e,h⟩:=h;obtain⟨m,hn,hl⟩:=I.loc;obtain⟨u,r,l⟩:=hl i x v hN e hv;have fin:EP X aa σ Q u s:=⟨v,H,I,r,h⟩;rcases l with⟨hk,hm⟩|⟨hk,c,hc,ip⟩
 ·exact Qu (wpAny_loadName_local I.ok.kind hk hn hm fin) hd
 ·rcases hk with hk|hk
  ·exact Qu (wpAny_loadName_cell I.ok.kind hk hc ip fin) hd
  ·exact Qu (wpAny_loadName_free I.ok.kind hk hc ip fin hcd) hd
theorem zFE{i j pos}:PE X (.Constant (.int i) j pos) (tC (.int i)):=fun _ _ _ H _ I h=>wpAny_Constant_int ⟨.int i,H,I.tok _,⟨_,rfl⟩,h⟩
theorem zIK{b j pos}:PE X (.Constant (.bool b) j pos) (tC (.bl b)):=fun _ _ _ H _ I h=>Constant_bool ⟨.bl b,H,I,rfl,h⟩
theorem zFC{j pos}:PE X (.Constant .none j pos) (tC .non):=fun _ _ _ H _ I h=>Constant_none ⟨.non,H,I,rfl,h⟩
theorem zF9{x j pos}:PE X (.Constant (.str x) j pos) (tC (.str x)):=fun _ _ _ H _ I h=>Calls.Constant_str ⟨.str x,H,I.tok _,⟨_,rfl⟩,h⟩
def Gl(X:Cx)(x:Str):Prop:=X.env.kindOf x=some .globalImplicit
theorem FI{E:Value->Af->Prop}{aa:List (Addr×Obj)}{s:Af}{σ:St}{H:Hp}{x:Str}{u:Value}{pos:Pos}{Q:Value->Af->Prop}(I:c6 X aa σ H s)(hg:Gl X x)(hm:X.mg x=some u)(h:Q u s)
  (hd:(x==("__debug__":Str))=false:=by decide):wpAny (model X.prog X.w) X.A (eval (.Name x pos) X.env) Q E s:=
 Jn I.ok.kind hg (Calls.loadGlobal_global (by rw[I.ok.glob];exact I.mod.glob.keeps I.bk) hm h) hd
theorem T1{E:Value->Af->Prop}{aa:List (Addr×Obj)}{s:Af}{σ:St}{H:Hp}{x:Str}{u:Value}{pos:Pos}{Q:Value->Af->Prop}(I:c6 X aa σ H s)(hg:Gl X x)(hm:X.mg x=none)(hv:Bj x=some u)(h:Q u s)
  (hn:x≠ "__name__":=by decide) (hd:(x==("__debug__":Str))=false:=by decide):wpAny (model X.prog X.w) X.A (eval (.Name x pos) X.env) Q E s:=by
 obtain⟨mb,h1,h2⟩:=I.mod.blt;exact Jn I.ok.kind hg (Calls.loadGlobal_builtin (by rw[I.ok.glob];exact I.mod.glob.keeps I.bk) hm (by rw[I.ok.blt];exact h1.keeps I.bk) ((h2 x hn).trans hv) h) hd
theorem zC8{x:Str}{v:V}{u:Value}{pos:Pos}(hg:Gl X x)(hm:X.mg x=some u)(r:cL v u)(hd:(x==("__debug__":Str))=false:=by decide):PE X (.Name x pos) (tC v):=
 fun _ _ _ H _ I h=>FI I hg hm ⟨v,H,I,r,h⟩ hd
theorem zCB{x:Str}{v:V}{u:Value}{pos:Pos}(hg:Gl X x)(hm:X.mg x=none)(hv:Bj x=some u)(r:cL v u)(hn:x≠ "__name__":=by decide) (hd:(x==("__debug__":Str))=false:=by decide):PE X (.Name x pos) (tC v):=
 fun _ _ _ H _ I h=>T1 I hg hm hv ⟨v,H,I,r,h⟩ hn hd
variable{a b:Expr}{ta tb:TE}{pos:Pos}
def tB(t:TE):TT:=fun σ H Q=>t σ H fun x H1=> ∃c,x= .bl c/\Q c H1
theorem zEX{e:Expr}{t:TE}(h:PE X e t)(he: ∀bp,isTrue e X.env bp=(do let v<- bp;Nr e.pos;holding [v] (truthy v)):=by intro _;rfl):PT X e (tB t):=by
 intro aa s σ H Q I hw;refine isTrue_plain (ZT (h aa s σ H _ I hw) fun v s1 ⟨x,H1,I1,r1,q1⟩=> ?_) (he _);obtain⟨d,rfl,q⟩:=q1;cases r1;exact Dr ⟨H1,I1,q⟩
variable{tA tB':TT}{rest:List Expr}
def tAnd(t u:TT):TT:=fun σ H Q=>t σ H fun c H1=>if c=true then u σ H1 Q else Q false H1
def tOr(t u:TT):TT:=fun σ H Q=>t σ H fun c H1=>if c=true then Q true H1 else u σ H1 Q
def tNot(t:TT):TT:=fun σ H Q=>t σ H fun c H1=>Q (!c) H1
theorem zBX(ha:PT X a tA):PW X (.BoolOp .And [a] pos) tA:=by
 intro wh aa s σ H Q I h;refine isTrue_and (ZT (ha aa s σ H Q I h) fun c s1 e=> ?_);cases c with
 |true=>exact isTrue_and_nil e
 |false=>exact e
theorem zEV(ha:PT X a tA):PW X (.BoolOp .Or [a] pos) tA:=by
 intro wh aa s σ H Q I h;refine isTrue_or (ZT (ha aa s σ H Q I h) fun c s1 e=> ?_);cases c with
 |false=>exact isTrue_or_nil e
 |true=>exact e
theorem zEW(ha:PT X a tA)(hb:PW X (.BoolOp .And (b::rest) pos) tB'):PW X (.BoolOp .And (a::b::rest) pos) (tAnd tA tB'):=by
 intro wh aa s σ H Q I h;refine isTrue_and (ZT (ha aa s σ H _ I h) fun c s1 ⟨H1,I1,q1⟩=> ?_);cases c with
 |true=>exact hb wh aa s1 σ H1 Q I1 q1
 |false=>exact⟨H1,I1,q1⟩
theorem zIE(ha:PT X a tA)(hb:PW X (.BoolOp .Or (b::rest) pos) tB'):PW X (.BoolOp .Or (a::b::rest) pos) (tOr tA tB'):=by
 intro wh aa s σ H Q I h;refine isTrue_or (ZT (ha aa s σ H _ I h) fun c s1 ⟨H1,I1,q1⟩=> ?_);cases c with
 |true=>exact⟨H1,I1,q1⟩
 |false=>exact hb wh aa s1 σ H1 Q I1 q1
theorem zEY(ha:PT X a tA):PT X (.UnaryOp .Not a pos) (tNot tA):=by
 intro aa s σ H Q I h;exact isTrue_not (ha aa s σ H (fun c H1=>Q (!c) H1) I h)
def zHM(ta tb:TE):TE:=fun σ H Q=>ta σ H fun x H1=> ∃c,x= .bl c/\if c=true then tb σ H1 Q else Q (.bl false) H1
def tOrV(ta tb:TE):TE:=fun σ H Q=>ta σ H fun x H1=> ∃c,x= .bl c/\if c=true then Q (.bl true) H1 else tb σ H1 Q
def zHI(ta:TE):TE:=fun σ H Q=>ta σ H fun x H1=> ∃c,x= .bl c/\Q (.bl (!c)) H1
theorem zFA{op}{t:TE}(h:PE X a t):PE X (.BoolOp op [a] pos) t:=fun aa s σ H Q I hw=>BoolOp_one (h aa s σ H Q I hw)
theorem zFF(ha:PE X a ta)(hb:PE X (.BoolOp .And (b::rest) pos) tb):PE X (.BoolOp .And (a::b::rest) pos) (zHM ta tb):=by
 intro aa s σ H Q I h;refine BoolOp_and (ZT (ha aa s σ H _ I h) fun v s1 ⟨x,H1,I1,r1,q1⟩=> ?_);obtain⟨c,rfl,q1⟩:=q1;cases r1;refine Dr ?_;cases c with
 |true=>exact hb aa s1 σ H1 Q I1 q1
 |false=>exact⟨.bl false,H1,I1,rfl,q1⟩
theorem zIH(ha:PE X a ta)(hb:PE X (.BoolOp .Or (b::rest) pos) tb):PE X (.BoolOp .Or (a::b::rest) pos) (tOrV ta tb):=by
 intro aa s σ H Q I h;refine BoolOp_or (ZT (ha aa s σ H _ I h) fun v s1 ⟨x,H1,I1,r1,q1⟩=> ?_);obtain⟨c,rfl,q1⟩:=q1;cases r1;refine Dr ?_;cases c with
 |false=>exact hb aa s1 σ H1 Q I1 q1
 |true=>exact⟨.bl true,H1,I1,rfl,q1⟩
theorem zFB(ha:PE X a ta):PE X (.UnaryOp .Not a pos) (zHI ta):=by
 intro aa s σ H Q I h;refine UnaryOp_ (ZT (ha aa s σ H _ I h) fun v s1 ⟨x,H1,I1,r1,q1⟩=> ?_);obtain⟨c,rfl,q1⟩:=q1;cases r1;exact not_of (Dr ⟨.bl (!c),H1,I1,rfl,q1⟩)
def tIf(t:TT)(ta tb:TE):TE:=fun σ H Q=>t σ H fun c H1=>if c=true then ta σ H1 Q else tb σ H1 Q
theorem AL{c:Expr}(hc:PT X c tA)(ha:PE X a ta)(hb:PE X b tb):PE X (.IfExp c a b pos) (tIf tA ta tb):=by
 intro aa s σ H Q I h;refine wpAny_IfExp (ZT (hc aa s σ H _ I h) fun d s1 ⟨H1,I1,q1⟩=> ?_);cases d with
 |true=>exact ha aa s1 σ H1 Q I1 q1
 |false=>exact hb aa s1 σ H1 Q I1 q1
end
def X1(K:As)(H:Hp)(a:Addr)(xs:List V):Prop:=
 Rd H a (.lst xs)∨
  ∃(o:Obj) (its:Array Value) (n:Nat),K.lookup a=some o/\o.cls= .type "list" /\o.dict=none/\o.data= .seq its n/\its.size<=sizeLine/\cG xs its.toList
def W4(K:As)(H:Hp)(a:Addr)(xs:List V):Prop:=
 Rd H a (.tup xs)∨
  ∃(o:Obj) (its:Array Value) (n:Nat),K.lookup a=some o/\o.cls= .type "tuple" /\o.data= .seq its n/\its.size<=sizeLine/\cG xs its.toList
noncomputable def absV:Value->Option V
 | .none=>some .non
 | .bool b=>some (.bl b)
 | .int i _=>some (.int i)
 | .str x _=>some (.str x)
 | .bytes b _=>some (.byt b)
 | .float b _=>some (.flt b)
 | .ref a=>some (.ref a)
 | .type n=>some (.ty n)
 |_=>none
theorem cL.abs{x:V}{u:Value}(r:cL x u):absV u=some x:=by
 cases x with
 |non=>cases r;rfl
 |bl _=>cases r;rfl
 |int _=>obtain⟨t,rfl⟩:=r;rfl
 |str _=>obtain⟨t,rfl⟩:=r;rfl
 |byt _=>obtain⟨t,rfl⟩:=r;rfl
 |flt _=>obtain⟨t,rfl⟩:=r;rfl
 |ref _=>cases r;rfl
 |ty _=>cases r;rfl
theorem cL.inj{x y:V}{u:Value}(r:cL x u)(q:cL y u):x=y:=Cb (r.abs.symm.trans q.abs)
theorem cG.inj: ∀{xs ys:List V} {us:List Value},cG xs us->cG ys us->xs=ys
 |_,_,_,.nil,.nil=>rfl
 |_,_,_,.cons r t,.cons r' t'=>by rw[r.inj r',cG.inj t t']
section
variable{X:Cx}{aa:List (Addr×Obj)}{σ:St}{H:Hp}{s:Af}{a:Addr}{xs ys:List V}
theorem X1.of{K:As}(h:H a=some (.lst xs)):X1 K H a xs:= .inl (.inl h)
theorem W4.of{K:As}(h:H a=some (.tup xs)):W4 K H a xs:= .inl (.inl h)
theorem c6.list(I:c6 X aa σ H s)(h:X1 X.K H a xs): ∃its:List Value,cG xs its/\PlainL s.heap a its.toArray/\xs.length<=sizeLine:=by
 rcases h with h|⟨o,its,n,hk,hc,hd,hs,hz,r⟩
 ·obtain⟨z,its,n,r,e⟩:=h.ok I.hok
  exact⟨its,r,⟨_,n,e,rfl,rfl,rfl⟩,z⟩
 ·refine ⟨its.toList,r,⟨o,n,I.kIn a o hk,hc,hd,by simpa using hs⟩,?_⟩
  have e:=r.length;simp only[Ix] at e;lia
theorem c6.tuple(I:c6 X aa σ H s)(h:W4 X.K H a xs): ∃its:List Value,cG xs its/\IsTup s.heap a its.toArray/\xs.length<=sizeLine:=by
 rcases h with h|⟨o,its,n,hk,hc,hs,hz,r⟩
 ·obtain⟨z,its,r,p⟩:=h.ok I.hok
  exact⟨its,r,p,z⟩
 ·refine ⟨its.toList,r,⟨o,I.kIn a o hk,hc,n,by simpa using hs⟩,?_⟩
  have e:=r.length;simp only[Ix] at e;lia
theorem c6.list_inj(I:c6 X aa σ H s)(h:X1 X.K H a xs)(h':X1 X.K H a ys):xs=ys:=by
 obtain⟨its,r,⟨o,n,e,_,_,d⟩,_⟩:=I.list h;obtain⟨its',r',⟨o',n',e',_,_,d'⟩,_⟩:=I.list h';rw[e] at e';cases e';rw[d] at d';injection d' with d1 _;have:its=its':=by simpa using congrArg Ri d1
 subst this;exact r.inj r'
theorem c6.tuple_inj(I:c6 X aa σ H s)(h:W4 X.K H a xs)(h':W4 X.K H a ys):xs=ys:=by
 obtain⟨its,r,⟨o,e,_,n,d⟩,_⟩:=I.tuple h;obtain⟨its',r',⟨o',e',_,n',d'⟩,_⟩:=I.tuple h';rw[e] at e';cases e';rw[d] at d';injection d' with d1 _;have:its=its':=by simpa using congrArg Ri d1
 subst this;exact r.inj r'
end
abbrev Cx.wish(X:Cx)(E:Value->Af->Prop):Cx:={X with xe:=E}
abbrev Cx.nox(X:Cx):Cx:=X.wish fun _ _=>False
theorem Cx.Ok.wish{X:Cx}(ok:X.Ok)(E:Value->Af->Prop):(X.wish E).Ok:=
 ⟨ok.mod,ok.kind,ok.glob,ok.blt,ok.above,ok.inj,ok.has,ok.cab,ok.hd,ok.frames,ok.stk,ok.exf,ok.bs,ok.bsz,ok.noex,ok.exfs,ok.funs,ok.frf⟩
theorem Cx.Ok.unwish{X:Cx}{E:Value->Af->Prop}(ok:(X.wish E).Ok):X.Ok:=
 ⟨ok.mod,ok.kind,ok.glob,ok.blt,ok.above,ok.inj,ok.has,ok.cab,ok.hd,ok.frames,ok.stk,ok.exf,ok.bs,ok.bsz,ok.noex,ok.exfs,ok.funs,ok.frf⟩
section
variable{X:Cx}{aa:List (Addr×Obj)}{σ:St}{H:Hp}{s:Af}{E:Value->Af->Prop}
theorem c6.wish(I:c6 X aa σ H s)(E:Value->Af->Prop):c6 (X.wish E) aa σ H s:=⟨I.ok.wish E,I.os,I.bare,I.base,I.loc,I.cell,I.free,I.freeC,I.pin,I.hok,I.len⟩
theorem c6.unwish(I:c6 (X.wish E) aa σ H s):c6 X aa σ H s:=⟨I.ok.unwish,I.os,I.bare,I.base,I.loc,I.cell,I.free,I.freeC,I.pin,I.hok,I.len⟩
theorem SP.unwish{D:GU}{f:Flow}{s':Af}(h:SP (X.wish E) aa D f s'):SP X aa D f s':=by
 cases f with
 |next=>obtain⟨σ',H',I,q⟩:=h;exact⟨σ',H',I.unwish,q⟩
 |brk=>obtain⟨σ',H',I,q⟩:=h;exact⟨σ',H',I.unwish,q⟩
 |cont=>obtain⟨σ',H',I,q⟩:=h;exact⟨σ',H',I.unwish,q⟩
 |ret u=>obtain⟨v,σ',H',I,r,q⟩:=h;exact⟨v,σ',H',I.unwish,r,q⟩
theorem QN.nox{st:List Stmt}{t:TS}(h:QN X.nox st t):QN X st t:=fun aa s σ H D I hw=>
 Az (h aa s σ H D (I.wish _) hw) (fun _ _ q=>q.unwish) fun _ _ z=>Gm z
end
section
variable{X:Cx}{st:Stmt}{rest:List Stmt}{t u:TS}{e:Expr}{te:TE}{pos:Pos}
def zHJ:TS:=fun D σ H=>D.nx σ H
def tSeq(t u:TS):TS:=fun D σ H=>t {D with nx:=u D} σ H
theorem F1:QN X [] zHJ:=fun _ _ σ H _ I h=>Ll ⟨σ,H,I,h⟩
theorem KD(h1:PS X st t)(h2:QN X rest u):QN X (st::rest) (tSeq t u):=by
 intro aa s σ H D I h;refine wpAny_execs_cons (ZT (h1 aa s σ H {D with nx:=u D} I h) fun f s1 q=> ?_);cases f with
 |next=>
  obtain⟨σ',H',I',q⟩:=q;exact h2 aa s1 σ' H' D I' q
 |ret v=>exact q
 |brk=>exact q
 |cont=>exact q
theorem c6.quiet{aa:List (Addr×Obj)}{σ:St}{H:Hp}{s:Af}(I:c6 X aa σ H s):interactive X.env=false:=by simp[interactive,I.ok.kind]
def zHL(te:TE):TS:=fun D σ H=>te σ H fun _ H1=>D.nx σ H1
theorem F0(he:PE X e te)(hs:Gf e none pos.line X.env=pure false:=by rfl):PS X (.Expr e pos) (zHL te):=by
 intro aa s σ H D I h;exact wpAny_Expr_any (ZT (he aa s σ H _ I h) fun v s1 ⟨x,H1,I1,r1,q1⟩=>⟨σ,H1,I1,q1⟩) I.quiet hs
def tRet(te:TE):TS:=fun D σ H=>te σ H D.rt
theorem AR(he:PE X e te):PS X (.Return (some e) pos) (tRet te):=by
 intro aa s σ H D I h;exact wpAny_Return_some (ZT (he aa s σ H _ I h) fun v s1 ⟨x,H1,I1,r1,q1⟩=>⟨x,σ,H1,I1,r1,q1⟩)
def tIfS(c:TT)(t u:TS):TS:=fun D σ H=>c σ H fun b H1=>if b=true then t D σ H1 else u D σ H1
theorem zIF{c:Expr}{a b:List Stmt}{tc:TT}(hc:PT X c tc)(ha:QN X a t)(hb:QN X b u):PS X (.If c a b pos) (tIfS tc t u):=by
 intro aa s σ H D I h;refine wpAny_If (ZT (hc aa s σ H _ I h) fun d s1 ⟨H1,I1,q1⟩=> ?_);cases d with
 |true=>exact ha aa s1 σ H1 D I1 q1
 |false=>exact hb aa s1 σ H1 D I1 q1
end
abbrev TG:=V->St->Hp->(St->Hp->Prop)->Prop
abbrev C6:=List V->St->Hp->(St->Hp->Prop)->Prop
def PG(X:Cx)(bz:Expr)(t:TG):Prop:=
 ∀(aa:List (Addr×Obj)) (s:Af) (σ:St) (H:Hp) (v:V) (u:Value) (Q:St->Hp->Prop),c6 X aa σ H s->cL v u->t v σ H Q→
  wpAny (model X.prog X.w) X.A (Ex bz X.env u) (fun _ s'=> ∃σ' H',c6 X aa σ' H' s'/\Q σ' H') X.xe s
def EU(X:Cx)(ts:List Expr)(t:C6):Prop:=
 ∀(aa:List (Addr×Obj)) (s:Af) (σ:St) (H:Hp) (vs:List V) (us:List Value) (Q:St->Hp->Prop),c6 X aa σ H s->cG vs us->t vs σ H Q→
  wpAny (model X.prog X.w) X.A (assignInOrder ((assignEach ts X.env).map (·.2)) us) (fun _ s'=> ∃σ' H',c6 X aa σ' H' s'/\Q σ' H') X.xe s
section
variable{X:Cx}{pos:Pos}
def JM(i:Nat):TG:=fun v σ H Q=>Q (σ.set i (some v)) H
theorem UR{i:Nat}{x:Str}(hN:X.N.Nodup)(hi:X.N[i]? =some x)(hx:GV X.env.scope x)(hf:X.fn x=true∨X.env.scope.names.lookup x=some .local:=by first|exact .inl rfl|exact .inr rfl|assumption):PG X (.Name x pos) (JM i):=by
 intro aa s σ H v u Q I r h;exact Go (Y1 I hN hi hx r (fun s' I'=>⟨_,H,I',h⟩) hf)
def gNil:C6:=fun vs σ H Q=>vs=[]/\Q σ H
def zJG(t:TG)(u:C6):C6:=fun vs σ H Q=> ∃v r,vs=v::r/\t v σ H fun σ' H'=>u r σ' H' Q
theorem L4:EU X [] gNil:=by
 intro aa s σ H vs us Q I r h;obtain⟨e,h⟩:=h;subst e;cases r;exact Hw ⟨σ,H,I,h⟩
theorem WS{e:Expr}{es:List Expr}{t:TG}{u:C6}(h1:PG X e t)(h2:EU X es u)
  (hs:(assignEach (e::es) X.env).map (·.2)=Ex e X.env::(assignEach es X.env).map (·.2):=by rfl):EU X (e::es) (zJG t u):=by
 intro aa s σ H vs us Q I r h;obtain⟨v,vr,e1,h⟩:=h;subst e1;cases r with
 |cons r rr=>
  rw[hs];refine Dv (ZT (h1 aa s σ H _ _ _ I r h) fun _ s1 ⟨σ1,H1,I1,q1⟩=> ?_);exact h2 aa s1 σ1 H1 _ _ Q I1 rr q1
def gTup(K:As)(n:Nat)(t:C6):TG:=fun v σ H Q=> ∃a xs,v= .ref a/\W4 K H a xs/\xs.length=n/\t xs σ H Q
theorem zF7{es:List Expr}{k:Nat}{t:C6}{n:Nat}(hc:X.calm=true)(h:EU X es t)
  (hn:(assignEach es X.env).length=n:=by rfl) (hst:(assignEach es X.env).findIdx? (·.1)=none:=by rfl):PG X (.Tuple es k pos) (gTup X.K n t):=by
 intro aa s σ H v u Q I r hw;obtain⟨a,xs,e1,hq,hl,hw⟩:=hw;subst e1;cases r;obtain⟨its,rv,ht,hz⟩:=I.tuple hq;refine assign_Tuple_tuple (I.ok.hd hc) ht (by simp[hn,<- hl,rv.length]) hst fun h' hx=> ?_;have I1:c6 X aa σ H {s with heap:=h'}:=I.kept (t':=s.toks) fun b o e=>hx b o (Be (An e)) e;exact h aa _ σ H xs _ Q I1 (by simpa using rv) hw
def BV(te:TE)(g:TG):TS:=fun D σ H=>te σ H fun x H1=>g x σ H1 D.nx
theorem L5{tg e:Expr}{te:TE}{g:TG}(he:PE X e te)(hg:PG X tg g)(hs:Fc [tg] e pos.line X.env=pure false:=by rfl)(hw:Fd [tg] e X.env=pure none:=by rfl)
  (h1:(assignEach [tg] X.env).map (·.2)=[Ex tg X.env]:=by rfl):PS X (.Assign [tg] e pos) (BV te g):=by
 intro aa s σ H D I h;refine wpAny_Assign_stores (ZT (he aa s σ H _ I h) fun v s1 ⟨x,H1,I1,r1,q1⟩=> ?_) hs hw;rw[h1];exact ZT (hg aa s1 σ H1 x v _ I1 r1 q1) fun _ s2 q=>q
theorem zEZ{i:Nat}{x:Str}{e:Expr}{te:TE}{bm:Pos}(hN:X.N.Nodup)(hi:X.N[i]? =some x)(hx:GV X.env.scope x)(he:PE X e te)(hs:Gf e (some (.Name x bm)) pos.line X.env=pure false:=by rfl)(hf:X.fn x=true∨X.env.scope.names.lookup x=some .local:=by first|exact .inl rfl|exact .inr rfl|assumption):
  PS X (.Assign [.Name x bm] e pos) (BV te (JM i)):=by
 intro aa s σ H D I h;refine wpAny_Assign_Name (ZT (he aa s σ H _ I h) fun v s1 ⟨y,H1,I1,r1,q1⟩=> ?_) hs;exact Y1 I1 hN hi hx r1 (fun s2 I2=>⟨_,H1,I2,q1⟩) hf
def tPar(i j:Nat)(ta:TA):TS:=fun D σ H=>ta σ H fun vs H1=> ∃v w,vs=[v,w]/\D.nx ((σ.set i (some v)).set j (some w)) H1
theorem zF0{i j:Nat}{x y:Str}{a b:Expr}{ta:TA}{px py pt:Pos}{kt k2 pt2}(hc:X.calm=true)(hN:X.N.Nodup)(hi:X.N[i]? =some x)(hj:X.N[j]? =some y)(hij:i≠j)
  (hx:X.env.scope.names.lookup x=some .local) (hy:X.env.scope.names.lookup y=some .local) (ha:PA X [a,b] ta)
  (hw:Fd [.Tuple [.Name x px,.Name y py] kt pt] (.Tuple [a,b] k2 pt2) X.env=pure (some [x,y]))
  (hs:Fc [.Tuple [.Name x px,.Name y py] kt pt] (.Tuple [a,b] k2 pt2) pos.line X.env=pure false:=by rfl):
  PS X (.Assign [.Tuple [.Name x px,.Name y py] kt pt] (.Tuple [a,b] k2 pt2) pos) (tPar i j ta):=by
 intro aa s σ H D I h;rw[exec_Assign_arm];refine Ac (Dw ?_);rw[hs];refine Ac (Aj ?_);rw[if_neg (by decide)];refine Ac (Tuple_ (ZT (ha _ aa s σ H _ I h) fun us s1 ⟨vs,H1,I1,r1,q1⟩=> ?_));obtain⟨v,w,e1,q1⟩:=q1;subst e1;obtain⟨u1,u2,rfl,rv,rw'⟩: ∃u1 u2,us=[u1,u2]/\cL v u1/\cL w u2:=by
  cases r1 with
  |cons p q=>
   cases q with
   |cons p' q'=>
    cases q';exact⟨_,_,rfl,p,p'⟩
 refine Cu ?_ (by show 2<=sizeLine;decide);have I2:c6 X aa σ H1 {s1 with heap:=s1.heap.push {cls:= .type "tuple",data:= .seq [u1,u2].toArray}}:=I1.kept (t':=s1.toks) fun b o e=>Ad _ e;rw[hw];refine Ac (Aj ?_);show wpAny (model X.prog X.w) X.A (do rule "assign.swapped-stores";let items<- Iy (.ref s1.heap.objs.size) 2 none;assignInOrder [fun v=>Ip X.env y v,fun v=>Ip X.env x v] items.reverse;pure Flow.next) _ _ _;refine Ac (Gp (Ac (Nt (items:= #[u1,u2]) (I.ok.hd hc) (Jy s1.heap _) fun h' hx'=> ?_)));have I3:=I2.kept (h':=h') (t':=s1.toks) fun b o e=>hx' b o (Be (An e)) e;show wpAny _ _ (assignInOrder [fun v=>Ip X.env y v,fun v=>Ip X.env x v] [u2,u1]>>=fun _=>pure Flow.next) _ _ _;refine Ac (Dv (Ib (Y1 I3 hN hj (.inl hy) rw' (fun s2 I4=> ?_) (.inr hy))));refine Dv (Ib (Y1 I4 hN hi (.inl hx) rv (fun s3 I5=>Hw (Aj ?_)) (.inr hx)));rw[Dx _ _ (Dg hij)] at I5;exact⟨_,H1,I5,q1⟩
end
section
variable{X:Cx}{pos:Pos}
def zE9(c:TT)(tb:TS):TS:=fun D σ H=> ∃W:Nat->St->Hp->Prop,(∃m,W m σ H)/\ ∀m σ H,W m σ H→
 c σ H fun b H1=>if b=true then∃N:St->Hp->Prop,(∀σ' H',N σ' H'-> ∃m',m'<m/\W m' σ' H')/\tb {D with nx:=N,ct:=N,bk:=D.nx} σ H1 else D.nx σ H1
theorem AT{c:Expr}{body:List Stmt}{tc:TT}{tb:TS}(hp:Pn (model X.prog X.w) X.A X.env X.xe)(hc:PT X c tc)(hb:QN X body tb):PS X (.While c body [] pos) (zE9 tc tb):=by
 intro aa s σ H D I h;obtain⟨W,⟨m0,w0⟩,turn⟩:=h;refine wpAny_While (codeAny_whileLoop (fun n s'=> ∃σ' H',c6 X aa σ' H' s'/\W n σ' H') ?_ m0 ⟨σ,H,I,w0⟩);rintro n s1 ⟨σ1,H1,I1,w1⟩;refine Fn hp (ZT (hc aa s1 σ1 H1 _ I1 (turn n σ1 H1 w1)) fun b s2 ⟨H2,I2,q2⟩=> ?_);cases b with
 |true=>
  obtain⟨N,hN,q2⟩:=q2;rw[if_pos rfl];refine Fn hp (ZT (hb aa s2 σ1 H2 _ I2 q2) fun f s3 q3=> ?_);cases f with
  |next=>
   obtain⟨σ3,H3,I3,n3⟩:=q3;obtain⟨m',hm,w3⟩:=hN σ3 H3 n3;exact⟨m',hm,σ3,H3,I3,w3⟩
  |cont=>
   obtain⟨σ3,H3,I3,n3⟩:=q3;obtain⟨m',hm,w3⟩:=hN σ3 H3 n3;exact⟨m',hm,σ3,H3,I3,w3⟩
  |brk=>exact q3
  |ret v=>exact q3
 |false=>
  rw[if_neg De];exact Ll ⟨σ1,H2,I2,q2⟩
end
structure It where
 go:Nat->Hp->Prop
 yld:Nat->Hp->V->Hp->Prop
 stop:Nat->Hp->Prop
def RB(X:Cx)(aa:List (Addr×Obj))(H:Hp)(b:Addr):Prop:=
 H b=none/\b≠X.env.locals/\b∉X.fs/\(b∈X.ex∨X.s₀.heap.objs.size<=b)/\(∀x c,X.env.cells.lookup x=some c->c≠b)/\ ∀p∈X.pn++aa,p.1≠b
theorem c6.fpOk{X:Cx}{aa:List (Addr×Obj)}{σ:St}{H H':Hp}{s:Af}{b:Addr}(I:c6 X aa σ H s)(hb:s.heap.objs.size<=b)(hn:H' b=none):RB X aa H' b:=by
 refine⟨hn,Gg (Ba I.lt hb),I.nofs hb,.inr (Cf I.sz hb),fun x c e z=> ?_,fun p hp z=> ?_⟩
 ·obtain⟨v,q⟩:=I.cell x c e
  exact absurd (Ba q.lt (by rw[z];exact hb)) (Bz _)
 ·exact absurd (Ba (An (I.pin p hp).1) (by rw[z];exact hb)) (Bz _)
structure IZ(P:Bq)(w:World)(K:As)(tg:Expr)(J:It)(fp:List Addr)(it:Addr)(tn:Nat->Heap->Prop):Prop where
 mem:it∈fp
 obj: ∀i h,tn i h-> ∀b∈fp,∃o,h.get? b=some o/\ ∀v,o.data≠ .cell v
 keep: ∀i h h',tn i h->(∀b∈fp,∀o,h.get? b=some o->h'.get? b=some o)->tn i h'
 item: ∀(X:Cx),X.prog=P->X.w=w->X.K=K->X.calm=true-> ∀(i:Nat) (aa:List (Addr×Obj)) (s:Af) (σ:St) (H:Hp) (E:Value->Af->Prop),c6 X aa σ H s->(∀b∈fp,RB X aa H b)->tn i s.heap->J.go i H→
  wpAny (model P w) X.A (pyNext (.ref it)) (fun r s1=> ∃u,r=some u∧
   wpAny (model P w) X.A (Ep tg (.ref it) u) (fun _ s2=> ∃x H',c6 X aa σ H' s2/\cL x u/\J.yld i H x H'/\tn (i+1) s2.heap/\ ∀b∈fp,H' b=none) E s1) E s
 done: ∀(X:Cx),X.prog=P->X.w=w->X.K=K->X.calm=true-> ∀(i:Nat) (aa:List (Addr×Obj)) (s:Af) (σ:St) (H:Hp) (E:Value->Af->Prop),c6 X aa σ H s->(∀b∈fp,RB X aa H b)->tn i s.heap->J.stop i H→
  wpAny (model P w) X.A (pyNext (.ref it)) (fun r s1=>r=none/\c6 X aa σ H s1) E s
 self: ∀(A:Cy) (i:Nat) (s:Af) (Q:Value->Af->Prop) (E:Value->Af->Prop),tn i s.heap->Q (.ref it) s->wpAny (model P w) A (Og (.ref it)) Q E s
abbrev TI:=St->Hp->(It->Hp->Prop)->Prop
def PIE(X:Cx)(aa:List (Addr×Obj))(σ:St)(tg:Expr)(R:It->Hp->Prop)(itv:Value)(s2:Af):Prop:=
 ∃(it:Addr) (fp:List Addr) (tn:Nat->Heap->Prop) (J:It) (H':Hp),itv= .ref it/\c6 X aa σ H' s2/\IZ X.prog X.w X.K tg J fp it tn/\tn 0 s2.heap/\(∀b∈fp,RB X aa H' b)/\R J H'
def PI(X:Cx)(tg iter:Expr)(wi:TI):Prop:=
 ∀(aa:List (Addr×Obj)) (s:Af) (σ:St) (H:Hp) (R:It->Hp->Prop),c6 X aa σ H s->wi σ H R→
  wpAny (model X.prog X.w) X.A (eval iter X.env) (fun v s1=>wpAny (model X.prog X.w) X.A (Og v) (PIE X aa σ tg R) X.xe s1) X.xe s
theorem zAV{M:Model}{A:Cy}{E:Value->Af->Prop}{s:Af}{tg:Expr}{it:Addr}{u:Value}{o:Obj}{n:String}{vs:Array Value}{Q:Unit->Af->Prop}(ho:s.heap.get? it=some o)(hc:o.cls= .type n)(hd:o.data= .fields vs)
    (hn:["enumerate","zip","dict_itemiterator","dict_reverseitemiterator","odict_iterator","itertools.zip_longest","itertools.pairwise"].contains n=false) (hQ:Q () s):wpAny M A (Ep tg (.ref it) u) Q E s:=by
  unfold Ep;cases tg<;>first
    |exact Aj hQ
    |(cases u<;>first
        |exact Aj hQ
        | (refine Ac (wpAny_load ho ?_)
           rw[hc,hd];show wpAny M A (if(["enumerate","zip","dict_itemiterator","dict_reverseitemiterator","odict_iterator","itertools.zip_longest","itertools.pairwise"].contains n && vs[0]? ==some (rawInt _))=true then _ else _) Q E s;rw[if_neg (by intro h;rw[hn,Bool.false_and] at h;cases h)];exact Aj hQ))
def Itl(K:As)(a:Addr):It:=
 ⟨fun i H=> ∃xs x,X1 K H a xs/\xs[i]? =some x,fun i H x H'=>H'=H/\ ∀xs,X1 K H a xs->xs[i]? =some x,fun i H=> ∃xs,X1 K H a xs/\xs.length<=i⟩
def Itt(K:As)(a:Addr):It:=
 ⟨fun i H=> ∃xs x,W4 K H a xs/\xs[i]? =some x,fun i H x H'=>H'=H/\ ∀xs,W4 K H a xs->xs[i]? =some x,fun i H=> ∃xs,W4 K H a xs/\xs.length<=i⟩
def Itr(lo:Int)(n:Nat):It:=⟨fun i _=>i<n,fun i H x H'=>H'=H/\x= .int (lo+i),fun i _=>n<=i⟩
theorem EL{P:Bq}{w:World}{K:As}{tg:Expr}(a it:Addr):IZ P w K tg (Itl K a) [it] it (fun i h=>h.IsListIter it a i) where
 mem:=by simp
 obj:=fun i h st b hb=>by
  have e:b=it:=by simpa using hb
  subst e;obtain⟨o,e,c,d⟩:=st;exact⟨o,e,fun v z=>by rw[d] at z;cases z⟩
 keep:=fun i h h' st k=>st.at fun o e=>k it (by simp) o e
 item:=by
  intro X hP hw hK hc i aa s σ H E I hf st hg;subst hP hw hK;obtain⟨xs,x,hq,hx⟩:=hg;obtain⟨its,rv,p,hz⟩:=I.list hq;obtain⟨u,hu,ru⟩:=rv.get hx;obtain⟨f0,f1,f2,f3,f4,f5⟩:=hf it (by simp);refine Hs st p.isList (x:=u) (by simpa using hu) fun h' st' sb=> ?_;have I1:c6 X aa σ H {s with heap:=h'}:=I.turned (t':=s.toks) (fun b o hb e=>(sb.2 b hb).trans e) f0 f1 f3 f4 f5;obtain⟨o,e,c,d⟩:=id st';exact⟨u,rfl,zAV (s:={s with heap:=h'}) e c d (by decide) ⟨x,H,I1,ru,⟨rfl,fun ys hy=>by rw[I.list_inj hy hq];exact hx⟩,st',fun b hb=>(hf b hb).1⟩⟩
 done:=by
  intro X hP hw hK hc i aa s σ H E I hf st hg;subst hP hw hK;obtain⟨xs,hq,hx⟩:=hg;obtain⟨its,rv,p,hz⟩:=I.list hq;obtain⟨f0,f1,f2,f3,f4,f5⟩:=hf it (by simp);have hl:=rv.length;exact Ic (I.ok.hd hc) st p.isList (by simp;lia) fun h' eb=>⟨rfl,I.turned (t':=s.toks) (fun b o hb e=>eb b o hb e) f0 f1 f3 f4 f5⟩
 self:=fun _ _ _ _ _ st h=>wpAny_pyIter_listiter st h
theorem IN{P:Bq}{w:World}{K:As}{tg:Expr}(a it:Addr):IZ P w K tg (Itt K a) [it] it (fun i h=>h.IsTupleIter it a i) where
 mem:=by simp
 obj:=fun i h st b hb=>by
  have e:b=it:=by simpa using hb
  subst e;obtain⟨o,e,c,d⟩:=st;exact⟨o,e,fun v z=>by rw[d] at z;cases z⟩
 keep:=fun i h h' st k=>st.at fun o e=>k it (by simp) o e
 item:=by
  intro X hP hw hK hc i aa s σ H E I hf st hg;subst hP hw hK;obtain⟨xs,x,hq,hx⟩:=hg;obtain⟨its,rv,p,hz⟩:=I.tuple hq;obtain⟨u,hu,ru⟩:=rv.get hx;obtain⟨f0,f1,f2,f3,f4,f5⟩:=hf it (by simp);refine wpAny_pyNext_tuple_item st (show s.heap.IsTuple a its.toArray from p) (x:=u) (by simpa using hu) fun h' st' sb=> ?_;have I1:c6 X aa σ H {s with heap:=h'}:=I.turned (t':=s.toks) (fun b o hb e=>(sb.2 b hb).trans e) f0 f1 f3 f4 f5;obtain⟨o,e,c,d⟩:=id st';exact⟨u,rfl,zAV (s:={s with heap:=h'}) e c d (by decide) ⟨x,H,I1,ru,⟨rfl,fun ys hy=>by rw[I.tuple_inj hy hq];exact hx⟩,st',fun b hb=>(hf b hb).1⟩⟩
 done:=by
  intro X hP hw hK hc i aa s σ H E I hf st hg;subst hP hw hK;obtain⟨xs,hq,hx⟩:=hg;obtain⟨its,rv,p,hz⟩:=I.tuple hq;obtain⟨f0,f1,f2,f3,f4,f5⟩:=hf it (by simp);have hl:=rv.length;exact wpAny_pyNext_tuple_end (I.ok.hd hc) st (show s.heap.IsTuple a its.toArray from p) (by simp;lia) fun h' eb=>⟨rfl,I.turned (t':=s.toks) (fun b o hb e=>eb b o hb e) f0 f1 f3 f4 f5⟩
 self:=fun _ _ _ _ _ st h=>wpAny_pyIter_tupleiter st h
theorem IM{P:Bq}{w:World}{K:PySem.W.Frag}{tg:Expr}(it:Addr)(lo:Int)(n:Nat):IZ P w K tg (Itr lo n) [it] it (fun i h=>IsRangeIter h it (lo+(i:Nat)*1) ((n:Int) - (i:Nat)) 1) where
 mem:=by simp
 obj:=fun i h st b hb=>by
  have e:b=it:=by simpa using hb
  subst e;exact⟨_,st,fun v z=>by
   have z':Data.fields _=Data.cell v:=z;cases z'⟩
 keep:=fun i h h' st k=>k it (by simp) _ st
 item:=by
  intro X hP hw hK hc i aa s σ H E I hf st hg;subst hP hw hK;obtain⟨f0,f1,f2,f3,f4,f5⟩:=hf it (by simp);have W:=Walks.range (prog:=X.prog) (w:=X.w) (I.ok.hd hc) it lo 1 n;refine W.item i s _ _ hg st fun v h' tk hv st' kk=> ?_;obtain⟨t,rfl⟩:=hv;have I1:c6 X aa σ H {s with heap:=h',toks:=tk}:=I.turned (fun b o hb e=>kk b o (by simpa using hb) e) f0 f1 f3 f4 f5;refine⟨_,rfl,zAV (s:={s with heap:=h',toks:=tk}) (n:= "range_iterator") st' rfl rfl (by decide) ⟨.int (lo+i),H,I1,⟨t,?_⟩,⟨rfl,rfl⟩,st',fun b hb=>(hf b hb).1⟩⟩;rw[Int.mul_one]
 done:=by
  intro X hP hw hK hc i aa s σ H E I hf st hg;subst hP hw hK;obtain⟨f0,f1,f2,f3,f4,f5⟩:=hf it (by simp);exact wpAny_pyNext_range_end (I.ok.hd hc) st (by have:n<=i:=hg;lia) fun h' eb=>⟨rfl,I.turned (t':=s.toks) (fun b o hb e=>eb b o hb e) f0 f1 f3 f4 f5⟩
 self:=fun _ _ _ _ _ st h=>wpAny_pyIter_rangeiter st h
section
variable{X:Cx}{tg:Expr}
def zDS(K:As)(tl:TE):TI:=fun σ H R=>tl σ H fun x H1=> ∃a,x= .ref a/\(∃xs,X1 K H1 a xs)/\R (Itl K a) H1
def iTup(K:As)(tl:TE):TI:=fun σ H R=>tl σ H fun x H1=> ∃a,x= .ref a/\(∃xs,W4 K H1 a xs)/\R (Itt K a) H1
theorem zC5{l:Expr}{tl:TE}(hl:PE X l tl):PI X tg l (zDS X.K tl):=by
 intro aa s σ H R I h;refine ZT (hl aa s σ H _ I h) fun v s1 ⟨x,H1,I1,r1,q1⟩=> ?_;obtain⟨a,e,⟨xs,hq⟩,q⟩:=q1;subst e;cases r1;obtain⟨its,rv,p,hz⟩:=I1.list hq;refine Em p.isList ?_;refine⟨s1.heap.objs.size,[s1.heap.objs.size],_,_,H1,rfl,I1.kept (t':=s1.toks) fun b o e=>Ad _ e,EL a _,⟨_,Au _ rfl,rfl,rfl⟩,fun b hb=> ?_,q⟩;have e:b=s1.heap.objs.size:=by simpa using hb
 subst e;exact I1.fpOk (Ao _) (I1.hok.fresh (Ao _))
theorem zF6{l:Expr}{tl:TE}(hl:PE X l tl):PI X tg l (iTup X.K tl):=by
 intro aa s σ H R I h;refine ZT (hl aa s σ H _ I h) fun v s1 ⟨x,H1,I1,r1,q1⟩=> ?_;obtain⟨a,e,⟨xs,hq⟩,q⟩:=q1;subst e;cases r1;obtain⟨its,rv,p,hz⟩:=I1.tuple hq;refine He (show s1.heap.IsTuple a its.toArray from p) ?_;refine⟨s1.heap.objs.size,[s1.heap.objs.size],_,_,H1,rfl,I1.kept (t':=s1.toks) fun b o e=>Ad _ e,IN a _,⟨_,Au _ rfl,rfl,rfl⟩,fun b hb=> ?_,q⟩;have e:b=s1.heap.objs.size:=by simpa using hb
 subst e;exact I1.fpOk (Ao _) (I1.hok.fresh (Ao _))
theorem KH{aa:List (Addr×Obj)}{σ:St}{H:Hp}{s:Af}{R:It->Hp->Prop}{E:Value->Af->Prop}{lo hi:Int}{t u v:Tok}{tk:Nat}(I:c6 X aa σ H s)(h1: -(2 ^ 62)<=lo)(h2:lo<2 ^ 62)(h3: -(2 ^ 62)<=hi)(h4:hi<2 ^ 62)
  (q:R (Itr lo (hi - lo).toNat) H):wpAny (model X.prog X.w) X.A (Og (.ref s.heap.objs.size)) (PIE X aa σ tg R) E {s with heap:=s.heap.push {cls:= .type "range",data:= .fields #[.int lo t,.int hi u,.int 1 v]},toks:=tk}:=by
 refine wpAny_pyIter_range (Rq ..) (small_one h1 h2 h3 h4) ?_;have I1:c6 X aa σ H {s with heap:=s.heap.push {cls:= .type "range",data:= .fields #[.int lo t,.int hi u,.int 1 v]},toks:=tk}:=I.kept fun b o e=>Ad _ e;refine⟨(s.heap.push {cls:= .type "range",data:= .fields #[.int lo t,.int hi u,.int 1 v]}).objs.size,[(s.heap.push {cls:= .type "range",data:= .fields #[.int lo t,.int hi u,.int 1 v]}).objs.size],_,_,H,rfl,
  I1.kept (t':=tk) fun b o e=>Ad _ e,IM _ lo (hi - lo).toNat,?_,fun b hb=> ?_,q⟩
 ·have e1 : lo + ((0 : Nat) : Int) * 1 = lo := by simp
  have e2:(((hi - lo).toNat:Nat):Int) - ((0:Nat):Int)=Hf lo hi 1:=by rw[rangeSize_one];split<;>lia
  show IsRangeIter _ _ (lo+((0:Nat):Int)*1) ((((hi - lo).toNat:Nat):Int) - ((0:Nat):Int)) 1;rw[e1,e2];exact Au _ rfl
 ·have e : b = (s.heap.push { cls := .type "range",data := .fields #[.int lo t,.int hi u,.int 1 v] }).objs.size := by simpa using hb
  subst e;exact I1.fpOk (Ao _) (I1.hok.fresh (Ao _))
def zJC(ta:TA):TI:=fun σ H R=>ta σ H fun vs H1=> ∃j:Int,vs=[.int j]/\ -(2 ^ 62)<=j/\j<2 ^ 62/\R (Itr 0 j.toNat) H1
def zJB(ta:TA):TI:=fun σ H R=>ta σ H fun vs H1=> ∃i j:Int,vs=[.int i,.int j]/\(-(2 ^ 62)<=i/\i<2 ^ 62/\ -(2 ^ 62)<=j/\j<2 ^ 62)/\R (Itr i (j - i).toNat) H1
theorem D7{a:Expr}{ta:TA}{p pos:Pos}(hg:Gl X "range") (hm:X.mg "range"=none) (ha:PA X [a] ta) (hs:Ak [a] X.env=[(false,eval a X.env)]:=by rfl):PI X tg (.Call (.Name "range" p) [a] [] pos) (zJC ta):=by
 intro aa s σ H R I h;refine Call_ (T1 I hg hm boot_range (Dy (ZT (ha pos aa s σ H _ I h) fun us s1 ⟨vs,H1,I1,r1,q1⟩=> ?_) hs rfl));obtain⟨j,e,q1,q2,q⟩:=q1;subst e;cases r1 with
 |cons r rr=>
  cases rr;obtain⟨t,rfl⟩:=r;exact call_range_1 (KH I1 (by lia) (by lia) q1 q2 (by simpa using q))
theorem D8{a b:Expr}{ta:TA}{p pos:Pos}(hg:Gl X "range") (hm:X.mg "range"=none) (ha:PA X [a,b] ta) (hs:Ak [a,b] X.env=[(false,eval a X.env),(false,eval b X.env)]:=by rfl) (hs2:Ak [b] X.env=[(false,eval b X.env)]:=by rfl):
  PI X tg (.Call (.Name "range" p) [a,b] [] pos) (zJB ta):=by
 intro aa s σ H R I h;refine Call_ (T1 I hg hm boot_range (Dy (ZT (ha pos aa s σ H _ I h) fun us s1 ⟨vs,H1,I1,r1,q1⟩=> ?_) (by rw[hs,hs2]) (by rw[hs2];rfl)));obtain⟨i,j,e,⟨q1,q2,q3,q4⟩,q⟩:=q1;subst e;cases r1 with
 |cons r rr=>
  cases rr with
  |cons r' rr=>
   cases rr;obtain⟨t,rfl⟩:=r;obtain⟨t',rfl⟩:=r';exact call_range_2 (KH I1 q1 q2 q3 q4 q)
def tFor(wi:TI)(g:TG)(tb:TS):TS:=fun D σ H=>wi σ H fun J H1=> ∃W:Nat->Nat->St->Hp->Prop,(∃m,W 0 m σ H1)/\ ∀i m σ H,W i m σ H→
 (J.stop i H/\D.nx σ H)∨(J.go i H/\ ∃N:St->Hp->Prop,(∀σ' H',N σ' H'-> ∃m',m'<m/\W (i+1) m' σ' H')/\ ∀x H',J.yld i H x H'->g x σ H' fun σ2 H2=>tb {D with nx:=N,ct:=N,bk:=D.nx} σ2 H2)
def T7(fp:List Addr)(h:Heap):List (Addr×Obj):=fp.filterMap fun b=>(h.get? b).map fun o=>(b,o)
theorem ZR{fp:List Addr}{h:Heap}{b:Addr}{o:Obj}(hb:b∈fp)(e:h.get? b=some o):(b,o)∈T7 fp h:=Mt.mpr ⟨b,hb,by rw[e];rfl⟩
theorem D5{fp:List Addr}{h:Heap}{p:Addr×Obj}(hp:p∈T7 fp h):p.1∈fp/\h.get? p.1=some p.2:=by
 obtain⟨b,hb,e⟩:=Mt.mp hp;cases q:h.get? b with
 |none=>rw[q] at e;cases e
 |some o=>
  rw[q] at e;have e':(b,o)=p:=Cb e;subst e';exact⟨hb,q⟩
theorem c6.pinned{aa:List (Addr×Obj)}{σ:St}{H:Hp}{s:Af}{fp:List Addr}(I:c6 X aa σ H s)(hf: ∀b∈fp,RB X aa H b)(ho: ∀b∈fp,∃o,s.heap.get? b=some o/\ ∀v,o.data≠ .cell v):c6 X (aa++T7 fp s.heap) σ H s:=
 I.pins_of fun p hp=>(Cc.mp hp).elim (fun z=>I.pin p (Ay _ z)) fun z=>by
  obtain⟨hb,e⟩:=D5 z;obtain⟨f0,f1,f2,_⟩:=hf p.1 hb;obtain⟨o,e',d⟩:=ho p.1 hb;rw[e] at e';cases e';exact⟨e,f0,f1,f2,d⟩
theorem c6.unpinned{aa pl:List (Addr×Obj)}{σ:St}{H:Hp}{s:Af}(I:c6 X (aa++pl) σ H s):c6 X aa σ H s:=I.pins_of fun p hp=>I.pin p (Ay _ (Bo _ hp))
theorem zF1{iter:Expr}{body:List Stmt}{wi:TI}{g:TG}{tb:TS}{pos:Pos}(hp:Pn (model X.prog X.w) X.A X.env X.xe)(hc:X.calm=true)(hi:PI X tg iter wi)(hg:PG X tg g)(hb:QN X body tb)
  (hs: ∀x,foldedSetIterable iter X.env x=pure x:=by intro _;rfl):PS X (.For tg iter body [] pos) (tFor wi g tb):=by
 intro aa s σ H D I h;refine wpAny_For (ZT (hi aa s σ H _ I h) fun v s1 h1=>ZT h1 fun itv s2 h2=> ?_) hs;obtain⟨it,fp,tn,J,H2,e,I2,T,st2,f2,W,⟨m0,w0⟩,turn⟩:=h2;subst e;have stat: ∀{H':Hp},(∀b∈fp,H' b=none)-> ∀b∈fp,RB X aa H' b:=fun hn b hb=>⟨hn b hb,(f2 b hb).2⟩;refine codeAny_forLoop_any (fun n s'=> ∃i σ' H',c6 X aa σ' H' s'/\tn i s'.heap/\(∀b∈fp,H' b=none)/\W i n σ' H') ?_ m0 ⟨0,σ,H2,I2,st2,fun b hb=>(f2 b hb).1,w0⟩;rintro n s3 ⟨i,σ3,H3,I3,st3,fr3,w3⟩;rcases turn i n σ3 H3 w3 with⟨stop,qn⟩|⟨go,N,hN,step⟩
 ·refine Fn hp (ZT (T.done X rfl rfl rfl hc i aa s3 σ3 H3 X.xe I3 (stat fr3) st3 stop) fun r s4 ⟨hr,I4⟩ => ?_)
  subst hr;exact Ll ⟨σ3,H3,I4,qn⟩
 ·refine Fn hp (ZT (T.item X rfl rfl rfl hc i aa s3 σ3 H3 X.xe I3 (stat fr3) st3 go) fun r s4 ⟨u,hr,h4⟩ => ?_)
  subst hr;refine Fn hp (ZT h4 fun _ s5 ⟨x,H5,I5,r5,y5,st5,fr5⟩=> ?_);have I5':=I5.pinned (stat fr5) (T.obj _ _ st5);refine Fn hp (ZT (hg _ s5 σ3 H5 x u _ I5' r5 (step x H5 y5)) fun _ s6 ⟨σ6,H6,I6,q6⟩=> ?_);refine Fn hp (ZT (hb _ s6 σ6 H6 _ I6 q6) fun f s7 q7=> ?_);have again: ∀{σ7:St} {H7:Hp},c6 X (aa++T7 fp s5.heap) σ7 H7 s7->N σ7 H7-> ∃m,m<n/\ ∃i σ' H',c6 X aa σ' H' s7/\tn i s7.heap/\(∀b∈fp,H' b=none)/\W i m σ' H':=fun{σ7 H7} I7 n7=>by
   obtain⟨m',hm,w7⟩:=hN σ7 H7 n7;refine⟨m',hm,i+1,σ7,H7,I7.unpinned,T.keep _ _ _ st5 fun b hb o e=>(I7.pin (b,o) (Ay _ (Ay _ (ZR hb e)))).1,fun b hb=> ?_,w7⟩;obtain⟨o,e,d⟩:=T.obj _ _ st5 b hb;exact(I7.pin (b,o) (Ay _ (Ay _ (ZR hb e)))).2.1
  cases f with
  |next=>obtain⟨σ7,H7,I7,n7⟩:=q7;exact again I7 n7
  |cont=>obtain⟨σ7,H7,I7,n7⟩:=q7;exact again I7 n7
  |brk=>obtain⟨σ7,H7,I7,q7⟩:=q7;exact⟨σ7,H7,I7.unpinned,q7⟩
  |ret v=>obtain⟨x7,σ7,H7,I7,r7,q7⟩:=q7;exact⟨x7,σ7,H7,I7.unpinned,r7,q7⟩
end
abbrev R2:=V->V->Hp->VK->Prop
def XO(X:Cx)(f:Value->Value->Sem Value)(r:R2):Prop:=
 ∀(aa:List (Addr×Obj)) (s:Af) (σ:St) (H:Hp) (x y:V) (v u:Value) (Q:VK),c6 X aa σ H s->cL x v->cL y u->r x y H Q→
  wpAny (model X.prog X.w) X.A (f v u) (EP X aa σ Q) X.xe s
def UnR(X:Cx)(f:Value->Sem Value)(r:V->Hp->VK->Prop):Prop:=
 ∀(aa:List (Addr×Obj)) (s:Af) (σ:St) (H:Hp) (x:V) (v:Value) (Q:VK),c6 X aa σ H s->cL x v->r x H Q→
  wpAny (model X.prog X.w) X.A (f v) (EP X aa σ Q) X.xe s
def a8(X:Cx)(f:Value)(r:List V->Hp->VK->Prop):Prop:=
 ∀(aa:List (Addr×Obj)) (s:Af) (σ:St) (H:Hp) (xs:List V) (us:List Value) (Q:VK),c6 X aa σ H s->cG xs us->r xs H Q→
  wpAny (model X.prog X.w) X.A (call f us) (EP X aa σ Q) X.xe s
def tOp(r:R2)(ta tb:TE):TE:=fun σ H Q=>ta σ H fun x H1=>tb σ H1 fun y H2=>r x y H2 Q
def tUn(r:V->Hp->VK->Prop)(ta:TE):TE:=fun σ H Q=>ta σ H fun x H1=>r x H1 Q
def rI(C:Int->Int->Prop)(g:Int->Int->V):R2:=fun x y H Q=> ∃i j,x= .int i/\y= .int j/\C i j/\Q (g i j) H
def HX(g:Int->Int->V):R2:=fun x y H Q=> ∃i j,x= .int i/\y= .int j/\Q (g i j) H
def rU(g:Int->V):V->Hp->VK->Prop:=fun x H Q=> ∃i,x= .int i/\Q (g i) H
section
variable{X:Cx}{a b c:Expr}{ta tb tc:TE}{pos:Pos}
theorem binT(ha:PE X a ta)(hb:PE X b tb){aa:List (Addr×Obj)}{s:Af}{σ:St}{H:Hp}{R:V->V->Hp->Prop}(I:c6 X aa σ H s)
  (h:ta σ H fun x H1=>tb σ H1 fun y H2=>R x y H2) {Q:Value->Af->Prop} {f:Value->Value->Sem Value}
  (hf: ∀v u s2 x y H2,c6 X aa σ H2 s2->cL x v->cL y u->R x y H2->wpAny (model X.prog X.w) X.A (f v u) Q X.xe s2):
  wpAny (model X.prog X.w) X.A (eval a X.env) (fun v s₁=>wpAny (model X.prog X.w) X.A (eval b X.env) (fun u s₂=>wpAny (model X.prog X.w) X.A (f v u) Q X.xe s₂) X.xe s₁) X.xe s:=by
 refine ZT (ha aa s σ H _ I h) fun v s1 ⟨x,H1,I1,r1,q1⟩=> ?_;refine ZT (hb aa s1 σ H1 _ I1 q1) fun u s2 ⟨y,H2,I2,r2,q2⟩=> ?_;exact hf v u s2 x y H2 I2 r1 r2 q2
theorem zDK{op:Operator}{r:R2}(ho:XO X (Fe op) r)(ha:PE X a ta)(hb:PE X b tb):PE X (.BinOp a op b pos) (tOp r ta tb):=by
 intro aa s σ H Q I h;exact wpAny_BinOp (binT ha hb I h fun v u s2 x y H2 I2 rx ry q=>ho aa s2 σ H2 x y v u Q I2 rx ry q)
theorem zIG{op:UnaryOp}{r:V->Hp->VK->Prop}(ho:UnR X (unaryOp op) r)(ha:PE X a ta):PE X (.UnaryOp op a pos) (tUn r ta):=by
 intro aa s σ H Q I h;exact UnaryOp_ (ZT (ha aa s σ H _ I h) fun v s1 ⟨x,H1,I1,r1,q1⟩=>ho aa s1 σ H1 x v Q I1 r1 q1)
theorem opI{f:Value->Value->Sem Value}{C:Int->Int->Prop}{g:Int->Int->Int}
  (rule: ∀(i j:Int) (t u:Tok) (s:Af) (Q:Value->Af->Prop) (E:Value->Af->Prop),C i j->Q (.int (g i j) s.toks) {s with toks:=s.toks+1}->wpAny (model X.prog X.w) X.A (f (.int i t) (.int j u)) Q E s):
  XO X f (rI C fun i j=> .int (g i j)):=by
 intro aa s σ H x y v u Q I rx ry h;obtain⟨i,j,rfl,rfl,hc,q⟩:=h;obtain⟨t,rfl⟩:=rx;obtain⟨t',rfl⟩:=ry;exact rule i j t t' s _ _ hc ⟨.int (g i j),H,I.tok _,⟨_,rfl⟩,q⟩
theorem opI0{f:Value->Value->Sem Value}{g:Int->Int->Int}
  (rule: ∀(i j:Int) (t u:Tok) (s:Af) (Q:Value->Af->Prop) (E:Value->Af->Prop),Q (.int (g i j) s.toks) {s with toks:=s.toks+1}->wpAny (model X.prog X.w) X.A (f (.int i t) (.int j u)) Q E s):
  XO X f (HX fun i j=> .int (g i j)):=by
 intro aa s σ H x y v u Q I rx ry h;obtain⟨i,j,rfl,rfl,q⟩:=h;obtain⟨t,rfl⟩:=rx;obtain⟨t',rfl⟩:=ry;exact rule i j t t' s _ _ ⟨.int (g i j),H,I.tok _,⟨_,rfl⟩,q⟩
theorem opB0{f:Value->Value->Sem Value}{g:Int->Int->Bool}
  (rule: ∀(i j:Int) (t u:Tok) (s:Af) (Q:Value->Af->Prop) (E:Value->Af->Prop),Q (.bool (g i j)) s->wpAny (model X.prog X.w) X.A (f (.int i t) (.int j u)) Q E s):
  XO X f (HX fun i j=> .bl (g i j)):=by
 intro aa s σ H x y v u Q I rx ry h;obtain⟨i,j,rfl,rfl,q⟩:=h;obtain⟨t,rfl⟩:=rx;obtain⟨t',rfl⟩:=ry;exact rule i j t t' s _ _ ⟨.bl (g i j),H,I,rfl,q⟩
def CDiv(i j:Int):Prop:=0<j/\j<1073741824
def CY(i j:Int):Prop:=0<=j/\j<=1000000/\i.natAbs<2 ^ 64
def CW(i j:Int):Prop:=(-(2 ^ 64)<i/\i<2 ^ 64)∨(-(2 ^ 64)<j/\j<2 ^ 64)
theorem CW.ok{i j:Int}(h:CW i j):IntMulOk i j:=by
 rcases h with⟨h1,h2⟩|⟨h1,h2⟩
 ·exact .of_left (intBits_le_64 h1 h2)
 ·exact .of_right (intBits_le_64 h1 h2)
theorem IQ(k:Nat):(0:Int)<=2 ^ k:=by
 rw[two_pow_cast];exact Int.natCast_nonneg _
theorem zFM:XO X (Fe .Add) (HX fun i j=> .int (i+j)):=opI0 fun _ _ _ _ _ _ _ q=>add_int q
theorem T6:XO X (Fe .Sub) (HX fun i j=> .int (i - j)):=opI0 fun _ _ _ _ _ _ _ q=>sub_int q
theorem zFK:XO X (Fe .Mult) (rI CW fun i j=> .int (i*j)):=opI fun _ _ _ _ _ _ _ hc q=>mul_int q hc.ok
theorem FU:XO X (Fe .FloorDiv) (rI CDiv fun i j=> .int (i/j)):=opI fun i j _ _ _ _ _ hc q=>by
 have h1:(0:Int)<j:=hc.1;have h2:j<1073741824:=hc.2;exact floordiv_int (by lia) (by rw[Jo i (by lia)];exact q) (.inl (PyProof.noPylong_small (by lia)))
theorem VC:XO X (Fe .Mod) (rI (fun _ j=>0<j) fun i j=> .int (i % j)):=opI fun i j _ _ _ _ _ hc q=>by
 have h1:(0:Int)<j:=hc;exact mod_int' (by lia) (by rw[Int.fmod_eq_emod_of_nonneg i (by lia)];exact q)
theorem zFI:XO X (Fe .Pow) (rI CY fun i j=> .int (i ^ j.toNat)):=opI fun _ _ _ _ _ _ _ hc q=>pow_int_small hc.1 hc.2.1 hc.2.2 q
theorem zFH:XO X (Fe .LShift) (rI CY fun i j=> .int (i*2 ^ j.toNat)):=opI fun _ _ _ _ _ _ _ hc q=>lshift_int_small hc.1 hc.2.1 hc.2.2 q
theorem zFG:XO X (Fe .RShift) (rI (fun _ j=>0<=j) fun i j=> .int (i/2 ^ j.toNat)):=opI fun i j _ _ _ _ _ hc q=>
 rshift_int hc (by rw[Jo i (IQ _)];exact q)
theorem unI{f:Value->Sem Value}{g:Int->Int}
  (rule: ∀(i:Int) (t:Tok) (s:Af) (Q:Value->Af->Prop) (E:Value->Af->Prop),Q (.int (g i) s.toks) {s with toks:=s.toks+1}->wpAny (model X.prog X.w) X.A (f (.int i t)) Q E s):
  UnR X f (rU fun i=> .int (g i)):=by
 intro aa s σ H x v Q I rx h;obtain⟨i,rfl,q⟩:=h;obtain⟨t,rfl⟩:=rx;exact rule i t s _ _ ⟨.int (g i),H,I.tok _,⟨_,rfl⟩,q⟩
theorem zE2:UnR X (unaryOp .USub) (rU fun i=> .int (-i)):=unI fun _ _ _ _ _ q=>neg_int q
end
section
variable{X:Cx}{a b c:Expr}{ta tb tc:TE}{pos:Pos}
theorem HC{aa:List (Addr×Obj)}{σ:St}{H:Hp}{s:Af}{Q:VK}{k k':Bool}(I:c6 X aa σ H s)(q:Q (.bl k) H)(e:k=k'):EP X aa σ Q (.bool k') s:=by
 subst e;exact⟨.bl k,H,I,rfl,q⟩
theorem FV:XO X (Df .Lt) (HX fun i j=> .bl (decide (i<j))):=opB0 fun _ _ _ _ _ _ _ q=>lt_int q
theorem AB:XO X (Df .LtE) (HX fun i j=> .bl (decide (i<=j))):=opB0 fun _ _ _ _ _ _ _ q=>le_int q
theorem zA1:XO X (Df .Gt) (HX fun i j=> .bl (decide (j<i))):=opB0 fun _ _ _ _ _ _ _ q=>gt_int q
theorem zDL:XO X (Df .GtE) (HX fun i j=> .bl (decide (j<=i))):=opB0 fun _ _ _ _ _ _ _ q=>ge_int q
theorem AA:XO X (Df .Is) (fun x y H Q=>y= .non/\Q (.bl (decide (x= .non))) H):=by
 intro aa s σ H x y v u Q I rx ry h;obtain⟨rfl,q⟩:=h;cases ry;refine is_none_gen (HC I q ?_);cases x<;>first
  |(cases rx;rfl)
  |(obtain⟨t,rfl⟩:=rx;rfl)
theorem XO.or{f:Value->Value->Sem Value}{r r':R2}(h:XO X f r)(h':XO X f r'):XO X f (fun x y H Q=>r x y H Q∨r' x y H Q):=by
 intro aa s σ H x y v u Q I rx ry q;rcases q with q|q
 ·exact h aa s σ H x y v u Q I rx ry q
 ·exact h' aa s σ H x y v u Q I rx ry q
theorem bD(b:Expr){op:CmpOp}(h:op≠ .In:=by decide)(h2:op≠ .NotIn:=by decide):Hg op b=false:=by
 have e1:(op==CmpOp.In)=false:=by cases op<;>first|rfl|exact absurd rfl h
 have e2:(op==CmpOp.NotIn)=false:=by cases op<;>first|rfl|exact absurd rfl h2
 cases b<;>simp[Hg,e1,e2]
theorem zC9{op:CmpOp}{r:R2}(ho:XO X (Df op) r)(ha:PE X a ta)(hb:PE X b tb)(hm:Hg op b=false):PE X (.Compare a [op] [b] pos) (tOp r ta tb):=by
 intro aa s σ H Q I h;exact wpAny_Compare1 (binT ha hb I h fun v u s2 x y H2 I2 rx ry q=>ho aa s2 σ H2 x y v u Q I2 rx ry q) hm
def zD9(t:TE):TT:=fun σ H Q=>t σ H fun x H'=> ∃k,x= .bl k/\Q k H'
theorem zC0{op:CmpOp}{r:R2}(ho:XO X (Df op) r)(ha:PE X a ta)(hb:PE X b tb)(hm:Hg op b=false):PT X (.Compare a [op] [b] pos) (zD9 (tOp r ta tb)):=by
 intro aa s σ H Q I h;refine wpAny_isTrue_Compare1 (ZT (ha aa s σ H _ I h) fun v s1 ⟨x,H1,I1,r1,q1⟩=>ZT (hb aa s1 σ H1 _ I1 q1) fun u s2 ⟨y,H2,I2,r2,q2⟩=>
  ZT (ho aa s2 σ H2 x y v u _ I2 r1 r2 q2) fun c s3 ⟨z,H3,I3,r3,k,e,q3⟩=> ?_) hm
 subst e;cases r3;exact Dr ⟨H3,I3,q3⟩
def IJ(r r':R2)(ta tb tc:TE):TE:=fun σ H Q=>ta σ H fun x H1=>tb σ H1 fun y H2=>r x y H2 fun z H3=> ∃k,z= .bl k∧
 (if k=true then tc σ H3 fun w' H4=>r' y w' H4 Q else Q (.bl false) H3)
theorem AG{op op':CmpOp}{r r':R2}(ho:XO X (Df op) r)(ho':XO X (Df op') r')(ha:PE X a ta)(hb:PE X b tb)(hc:PE X c tc)
  (hm:Po [op,op'] [b,c]=false:=by with_unfolding_all rfl):PE X (.Compare a [op,op'] [b,c] pos) (IJ r r' ta tb tc):=by
 intro aa s σ H Q I h;refine Compare_chain (ZT (ha aa s σ H _ I h) fun v s1 ⟨x,H1,I1,r1,q1⟩=>chain_link (ZT (hb aa s1 σ H1 _ I1 q1) fun u s2 ⟨y,H2,I2,r2,q2⟩=>
  ZT (ho aa s2 σ H2 x y v u _ I2 r1 r2 q2) fun d s3 ⟨z,H3,I3,r3,k,e,q3⟩=> ?_)) hm
 subst e;cases r3;refine Dr ?_;cases k with
 |false=>exact ite_ff ⟨.bl false,H3,I3,rfl,q3⟩
 |true=>exact ite_tt (chain_last (ZT (hc aa s3 σ H3 _ I3 q3) fun w' s4 ⟨z',H4,I4,r4,q4⟩=>ho' aa s4 σ H4 y z' u w' Q I4 r2 r4 q4))
theorem AU{op op':CmpOp}{r r':R2}(ho:XO X (Df op) r)(ho':XO X (Df op') r')(ha:PE X a ta)(hb:PE X b tb)(hc:PE X c tc)
  (hm:Po [op,op'] [b,c]=false:=by with_unfolding_all rfl):PT X (.Compare a [op,op'] [b,c] pos) (zD9 (IJ r r' ta tb tc)):=by
 intro aa s σ H Q I h;refine isTrue_chain (ZT (ha aa s σ H _ I h) fun v s1 ⟨x,H1,I1,r1,q1⟩=>test_link (ZT (hb aa s1 σ H1 _ I1 q1) fun u s2 ⟨y,H2,I2,r2,q2⟩=>
  ZT (ho aa s2 σ H2 x y v u _ I2 r1 r2 q2) fun d s3 ⟨z,H3,I3,r3,k,e,q3⟩=> ?_)) hm
 subst e;cases r3;refine Dr ?_;cases k with
 |false=>
  obtain⟨k',e',q'⟩:=q3;cases e';exact ite_ff ⟨H3,I3,q'⟩
 |true=>
  refine ite_tt (test_last (ZT (hc aa s3 σ H3 _ I3 q3) fun w' s4 ⟨z',H4,I4,r4,q4⟩=>ZT (ho' aa s4 σ H4 y z' u w' _ I4 r2 r4 q4) fun d' s5 ⟨z2,H5,I5,r5,k2,e2,q5⟩=> ?_));subst e2;cases r5;exact Dr ⟨H5,I5,q5⟩
theorem OX:(sizeLine:Nat)<2 ^ 63:=by rw[Dc];decide
theorem HN:XO X (Fe .Add) (fun x y H Q=> ∃i j,x= .str i/\y= .str j/\i.length+j.length<=sizeLine/\Q (.str (i++j)) H):=by
 intro aa s σ H x y v u Q I rx ry h;obtain⟨i,j,rfl,rfl,hz,q⟩:=h;obtain⟨t,rfl⟩:=rx;obtain⟨t',rfl⟩:=ry;exact add_str (fun t' tk=>⟨.str (i++j),H,I.tok _,⟨_,rfl⟩,q⟩) hz
theorem WV{x:V}{us:List Value}(r:cG [x] us): ∃u,us=[u]/\cL x u:=by
 cases r with
 |cons r1 r2=>cases r2;exact⟨_,rfl,r1⟩
theorem GK{x y:V}{us:List Value}(r:cG [x,y] us): ∃u w',us=[u,w']/\cL x u/\cL y w':=by
 cases r with
 |cons r1 r2=>
  cases r2 with
  |cons r3 r4=>cases r4;exact⟨_,_,rfl,r1,r3⟩
theorem DB(hc:X.calm=true):a8 X (.builtin "max") (fun xs H Q=> ∃i j,xs=[.int i,.int j]/\Q (.int (if j>i then j else i)) H):=by
 intro aa s σ H xs us Q I r h;obtain⟨i,j,rfl,q⟩:=h;obtain⟨u,w',rfl,⟨t,rfl⟩,⟨t',rfl⟩⟩:=GK r;refine max_two_ints (I.ok.hd hc) fun h' tk k=>⟨_,H,I.kept k,?_,q⟩;by_cases hj:j>i
 ·rw[if_pos hj,if_pos hj];exact⟨_,rfl⟩
 ·rw[if_neg hj,if_neg hj];exact⟨_,rfl⟩
theorem DC(hc:X.calm=true):a8 X (.builtin "min") (fun xs H Q=> ∃i j,xs=[.int i,.int j]/\Q (.int (if j<i then j else i)) H):=by
 intro aa s σ H xs us Q I r h;obtain⟨i,j,rfl,q⟩:=h;obtain⟨u,w',rfl,⟨t,rfl⟩,⟨t',rfl⟩⟩:=GK r;refine min_two_ints (I.ok.hd hc) fun h' tk k=>⟨_,H,I.kept k,?_,q⟩;by_cases hj:j<i
 ·rw[if_pos hj,if_pos hj];exact⟨_,rfl⟩
 ·rw[if_neg hj,if_neg hj];exact⟨_,rfl⟩
end
structure ObjM(h:Heap)(x dx C:Addr)(mA:Str->Option Value):Prop where
 obj:h.get? x=some (Rg C dx)
 ns:h.Ns1 dx mA
 ne:dx≠x
theorem DY{h:Heap}{dx:Addr}{mA:Str->Option Value}(n:h.Ns1 dx mA): ∃od,h.get? dx=some od/\ ∀name,W.lookIn name od=some (mA name):=by
 obtain⟨o,es,ep,ho,hd,hk,_,hm⟩:=n;refine⟨o,ho,fun name=> ?_⟩;have e:=hm name;unfold nsFind findBy at e;rw[<- Array.find?_toList] at e;unfold W.lookIn;rw[hd];dsimp only;split
 ·rename_i y q
  rw[q] at e;exact congrArg some e
 ·rename_i q
  rw[q] at e;have a:es.toList.any (·.refKey)=false:=by
   rw[List.any_eq_false];intro y hy;obtain⟨z,t,o9⟩:=hk y (Array.mem_toList_iff.mp hy);simp[DictEntry.refKey,o9]
  have a': ¬es.toList.any (·.refKey)=true:=by rw[a];exact De
  rw[if_neg a'];exact congrArg some e
theorem ObjM.look{h:Heap}{x dx C:Addr}{mA:Str->Option Value}(I:ObjM h x dx C mA): ∃od,W.InstAt h x (Rg C dx) C (some od)/\ ∀name,W.lookIn name od=some (mA name):=
 let ⟨od,ho,hl⟩:=DY I.ns
 ⟨od,⟨I.obj,rfl,rfl,ho⟩,hl⟩
theorem RD.some_of{v:V}{o:Option Value}(r:RD (some v) o): ∃u,o=some u/\cL v u:=by
 cases o with
 |none=>exact(show False from r).elim
 |some u=>exact⟨u,rfl,r⟩
section
variable{P:Bq}{w:World}{H H':Hp}{h h':Heap}{a C dx:Addr}{fs fs':List (Str×V)}
theorem zCY(hok:TH P w H h)(e:H a=some (.ins C dx fs)): ∃mA,ObjM h a dx C mA/\(∀f,RD (fs.lookup f) (mA f))/\Rh mA (fs.map (·.1))/\fs.length<=1000/\H dx=some (.own a):=by
 obtain⟨d,z,ne,ob,mA,n,r,q⟩:=(show aG P w H h a (.ins C dx fs) from hok a _ e);exact⟨mA,⟨ob,n,ne⟩,r,q,z,d⟩
end
structure Cls(K:As)(C:Addr):Prop where
 pg:W.plainGet K C Str.empty=true
 hd:W.hasDictIn K C=true
 po:W.plainOver K C=true
 sa:W.findIn K (.ref C) "__setattr__"=some (some (.builtin "object.__setattr__"))
theorem Cls.get{K:As}{C:Addr}(c:Cls K C)(f:Str):W.plainGet K C f=true:=c.pg
section
variable{X:Cx}{aa:List (Addr×Obj)}{σ:St}{H:Hp}{s:Af}{A:Cy}{E:Value->Af->Prop}{Q:Value->Af->Prop}{c:Value}{b:Bool}
inductive QP(K:As)(H:Hp):V->Value->Prop where
 |non:QP K H .non (.type "NoneType")
 |bl (x:Bool):QP K H (.bl x) (.type "bool")
 |int (i:Int):QP K H (.int i) (.type "int")
 |str (x:Str):QP K H (.str x) (.type "str")
 |flt (x:UInt64):QP K H (.flt x) (.type "float")
 |lst {a:Addr} {xs:List V} (e:H a=some (.lst xs)):QP K H (.ref a) (.type "list")
 |frz {a:Addr} {o:Obj} {xs:List V} (e:H a=some (.frz o (.lst xs))):QP K H (.ref a) (.type "list")
 |tup {a:Addr} {xs:List V} (e:H a=some (.tup xs)):QP K H (.ref a) (.type "tuple")
 |dK {a:Addr} {kvs:List (b9×V)} (e:H a=some (.dK kvs)):QP K H (.ref a) (.type "dict")
 |dT {a:Addr} {kvs:List (List b9×V)} (e:H a=some (.dT kvs)):QP K H (.ref a) (.type "dict")
 |ins {a C dx:Addr} {fs:List (Str×V)} (e:H a=some (.ins C dx fs)) (cl:Cls K C) (ha:W.findIn K (.ref C) "__class__"=some (some (.builtin "object.__class__")))
   (hn:W.specialIn K (.builtin "object.__class__") "__get__"=some (some (.builtin "getset_descriptor.__get__"))) (htk:W.takesIn K (.builtin "object.__class__")=some true)
   (hm:W.mroIn K C (.type "object")=some true):QP K H (.ref a) (.ref C)
theorem UO{x:V}{u t:Value}(I:c6 X aa σ H s)(rx:cL x u)(ty:QP X.K H x t)(e:W.kitOne X.K t c=some b)(h: ∀tk,Q (.bool b) {s with toks:=tk}):
  wpAny (model X.prog X.w) A (call (.builtin "isinstance") [u,c]) Q E s:=by
 cases ty with
 |non=>cases (show u=Value.none from rx);exact Fo W.kitx_none I.kIn True.intro e (fun z=>nomatch z) h
 |bl y=>cases (show u=Nq y from rx);exact Fo W.kitx_bool I.kIn True.intro e (fun z=>nomatch z) h
 |int i=>obtain⟨t,q⟩:=(show∃t,u=Mq i t from rx);cases q;exact Fo W.kitx_int I.kIn True.intro e (fun z=>nomatch z) h
 |str y=>obtain⟨t,q⟩:=(show∃t,u=Mr y t from rx);cases q;exact Fo W.kitx_str I.kIn True.intro e (fun z=>nomatch z) h
 |flt y=>obtain⟨t,q⟩:=(show∃t,u=Rp y t from rx);cases q;exact Fo W.kitx_float I.kIn True.intro e (fun z=>nomatch z) h
 | @lst a xs ea=>
  cases (show u=Br a from rx);obtain⟨_,_,n,_,h1⟩:=(show aG X.prog X.w H s.heap a (.lst xs) from I.hok a _ ea);exact Fo Mi I.kIn ⟨_,h1,rfl⟩ e (fun z=>nomatch z) h
 | @frz a ob xs ea=>
  cases (show u=Br a from rx);obtain⟨_,_,_,n,_,h1⟩:=(show aG X.prog X.w H s.heap a (.frz ob (.lst xs)) from I.hok a _ ea);exact Fo Mi I.kIn ⟨_,h1,rfl⟩ e (fun z=>nomatch z) h
 | @tup a xs ea=>
  cases (show u=Br a from rx);obtain⟨_,_,_,p⟩:=(show aG X.prog X.w H s.heap a (.tup xs) from I.hok a _ ea);obtain⟨o,h1,h2,_⟩:=p;exact Fo W.kitx_tuple I.kIn ⟨o,h1,h2⟩ e (fun z=>nomatch z) h
 | @dK a kvs ea=>
  cases (show u=Br a from rx);obtain⟨_,_,vs,_,p⟩:=(show aG X.prog X.w H s.heap a (.dK kvs) from I.hok a _ ea);obtain⟨o,es,ep,h1,h2,_⟩:=p;exact Fo W.kitx_dict I.kIn ⟨o,h1,h2.1⟩ e (fun z=>nomatch z) h
 | @dT a kvs ea=>
  cases (show u=Br a from rx);obtain⟨_,_,xs,_,o,es,ep,h1,h2,_⟩:=(show aG X.prog X.w H s.heap a (.dT kvs) from I.hok a _ ea);exact Fo W.kitx_dict I.kIn ⟨o,h1,h2.1⟩ e (fun z=>nomatch z) h
 | @ins a C dx fs ea cl ha hn htk hm=>
  cases (show u=Br a from rx);obtain⟨mA,O,_⟩:=zCY I.hok ea;obtain⟨od,J,_⟩:=O.look;exact Fo (W.kitx_own (cl.get _) cl.hd ha hn htk hm) I.kIn J e (fun z=>nomatch z) h
end
structure XQ(k:Nat)(A:Cy):Prop where
 hd:A.handled=none
 dp:A.depth+3*k+5<recursionLimit
 un:A.units+16*k+200<cLine
theorem XQ.mono{j k:Nat}{A:Cy}(r:XQ k A)(h:j<=k):XQ j A:=⟨r.hd,by have:=r.dp;lia,by have:=r.un;lia⟩
theorem XQ.deeper{k:Nat}{A:Cy}(r:XQ (k+1) A)(env:Env):XQ k (A.deeper env):=
 ⟨r.hd,by have:=r.dp;show A.depth+1+3*k+5<_;lia,by have:=r.un;show A.units+3+16*k+200<_;lia⟩
theorem XQ.depth{k:Nat}{A:Cy}(r:XQ k A):A.depth<recursionLimit:=by have:=r.dp;lia
theorem XQ.units{k:Nat}{A:Cy}(r:XQ k A):A.units+64<cLine:=by have:=r.un;lia
def BX:TA:=fun _ H Q=>Q [] H
def NO(ta:TE)(tr:TA):TA:=fun σ H Q=>ta σ H fun x H1=>tr σ H1 fun xs H2=>Q (x::xs) H2
section
variable{X:Cx}{e:Expr}{es:List Expr}{te:TE}{t:TA}{pos:Pos}
theorem aP:PA X [] BX:=fun _ _ _ _ H Q I h=>Hx ⟨[],H,I,.nil,h⟩
theorem cK(ha:PE X e te)(hr:PA X es t)(hs:Ak (e::es) X.env=(false,eval e X.env)::Ak es X.env:=by rfl):PA X (e::es) (NO te t):=by
 intro pos aa s σ H Q I h;rw[hs];show wpAny _ _ (spliced ((false,eval e X.env)::Fw pos (Ak es X.env))) _ _ s;refine Gc (ZT (ha aa s σ H _ I h) fun u s1 ⟨x,H1,I1,r1,q1⟩=> ?_);exact ZT (hr pos aa s1 σ H1 _ I1 q1) fun us s2 ⟨xs,H2,I2,r2,q2⟩=>⟨x::xs,H2,I2,.cons r1 r2,q2⟩
def tTup(t:TA):TE:=fun σ H Q=>t σ H fun xs H1=>xs.length<=sizeLine/\ ∀p,H1 p=none->Q (.ref p) (bP H1 p (.tup xs))
def tLst(t:TA):TE:=fun σ H Q=>t σ H fun xs H1=>xs.length<=sizeLine/\ ∀p,H1 p=none->Q (.ref p) (bP H1 p (.lst xs))
theorem HQ{x1}(h:PA X es t):PE X (.Tuple es x1 pos) (tTup t):=by
 intro aa s σ H Q I hq;refine wpAny_Tuple_spliced (ZT (h pos aa s σ H _ I hq) fun us s1 ⟨xs,H1,I1,r,z,q⟩=>⟨by rw[<- r.length];exact z,?_⟩);have hf:H1 s1.heap.objs.size=none:=I1.hok.fresh (Ao _);refine⟨.ref s1.heap.objs.size,bP H1 s1.heap.objs.size (.tup xs),I1.laid (t':=s1.toks) (fun b u e=>Ad _ e) (Ao _) ?_,rfl,q _ hf⟩;exact⟨z,us,r,⟨_,Au _ rfl,rfl,_,rfl⟩⟩
theorem zFD(h:PA X es t):PE X (.List es pos) (tLst t):=by
 intro aa s σ H Q I hq;refine wpAny_List_spliced (ZT (h pos aa s σ H _ I hq) fun us s1 ⟨xs,H1,I1,r,z,q⟩=>⟨by rw[<- r.length];exact z,?_⟩);have hf:H1 s1.heap.objs.size=none:=I1.hok.fresh (Ao _);refine⟨.ref s1.heap.objs.size,bP H1 s1.heap.objs.size (.lst xs),I1.laid (t':=s1.toks) (fun b u e=>Ad _ e) (Ao _) ?_,rfl,q _ hf⟩;exact⟨z,us,0,r,Au _ rfl⟩
end
abbrev Sp:=List V->Hp->VK->XK->Prop
abbrev CXT:=List Env->Hp->Af->XK->Value->Af->Prop
structure Env0(P:Bq)(w:World)(K:As)(mg:Str->Option Value)(base:Heap)(A:Cy)(outer:List Env)(s:Af)(H:Hp):Prop where
 frames:A.frames=some outer
 mod:Mod K mg base
 bs: ∀b o,base.get? b=some o->s.heap.get? b=some o/\H b=none
 bsz:base.objs.size<=s.heap.objs.size
 funs:s.heap.FunFrames base outer
 frf: ∀b∈DO outer,H b=none
 hok:TH P w H s.heap
 bare:Lk s.gens
def CE(outer:List Env)(P:Bq)(w:World)(H:Hp)(s:Af)(Q:VK)(u:Value)(s':Af):Prop:=
 ∃v H',s'.os=s.os/\Lk s'.gens/\Un (DO outer) [] H H' s.heap s'.heap/\TH P w H' s'.heap/\cL v u/\Q v H'
def CR(CX:CXT)(outer:List Env)(P:Bq)(w:World)(H:Hp)(s:Af)(Q:VK)(E:XK)(r:Oh)(s':Af):Prop:=
 match r with
 | .ok (.ret u)=>CE outer P w H s Q u s'
 | .ok _=>False
 | .error e=>CX outer H s E e s'
structure aW(P:Bq)(w:World)(K:As)(mg:Str->Option Value)(base:Heap)(CX:CXT)(k:Nat)(f:Addr)(fd:Gd)(ps:List Str)(sp:Sp):Prop where
 len: ∀vs H Q E,sp vs H Q E->vs.length=ps.length
 run: ∀(A:Cy) (outer:List Env) (s:Af) (H:Hp) (args:Args) (us:List Value) (vs:List V) (Q:VK) (E:XK),XQ k A->Env0 P w K mg base A outer s H->Pp s fd args (ps.zip us)->cG vs us->sp vs H Q E→
  Ga (model P w) A (.call (.ref f) args) (CR CX outer P w H s Q E) s
section
variable{X:Cx}{aa:List (Addr×Obj)}{σ:St}{H:Hp}{s s':Af}
theorem c6.env0(I:c6 X aa σ H s):Env0 X.prog X.w X.K X.mg X.base X.A X.stack s H:=
 ⟨I.ok.frames,I.ok.mod,I.bs,Cf I.ok.bsz I.sz,I.stack,I.stkFree,I.hok,I.bare⟩
theorem c6.after{Q:VK}{u:Value}(I:c6 X aa σ H s)(h:CE X.stack X.prog X.w H s Q u s'):EP X aa σ Q u s':=by
 obtain⟨v,H',os,bare,un,hok,r,q⟩:=h;obtain⟨hh,g,d,t,os'⟩:=s';obtain rfl:os'=s.os:=os;exact⟨v,H',I.call (h':=hh) (g':=g) (d':=d) (t':=t) (ch:=[]) un hok bare (fun b z=>absurd z (by simp)),r,q⟩
end
def BW(sp:Sp)(dvs:List V)(E:XK)(t:TA):TE:=fun σ H Q=>t σ H fun vs H1=>sp (vs++dvs) H1 Q E
def MJ(K:As)(fd:Gd)(ps:List Str)(ds:List Value):Prop:=
 ∀(s:Af) (us:List Value),K.In s.heap->(us++ds).length=ps.length->Pp s fd ⟨us,[]⟩ (ps.zip (us++ds))
theorem MJ.all{K:As}{fd:Gd}{ps:List Str}(h: ∀us:List Value,us.length=ps.length->bindArgs fd ⟨us,[]⟩=pure (ps.zip us)):MJ K fd ps []:=fun s us _ hl=>by
 rw[Ef] at hl⊢;exact .of_eq (h us hl)
def GW(CX:CXT)(X:Cx)(E:XK):Prop:= ∀(aa:List (Addr×Obj)) (σ:St) (H:Hp) (s:Af) (e:Value) (s':Af),c6 X aa σ H s->CX X.stack H s E e s'->X.xe e s'
section
variable{X:Cx}{CX:CXT}{k:Nat}{f C:Addr}{fd:Gd}{ps:List Str}{sp:Sp}{dvs:List V}{ds:List Value}{E:XK}{x m:Str}{p pos am:Pos}{e o:Expr}{es:List Expr}{ta:TE}{t:TA}
theorem zEQ{aa:List (Addr×Obj)}{σ:St}{H:Hp}{s:Af}{Q:VK}{us:List Value}{vs:List V}(F:aW X.prog X.w X.K X.mg X.base CX k f fd ps sp)(hr:XQ k X.A)(hb:MJ X.K fd ps ds)(hd:cG dvs ds)(hx:GW CX X E)
  (I:c6 X aa σ H s) (r:cG vs us) (h:sp (vs++dvs) H Q E):wpAny (model X.prog X.w) X.A (call (.ref f) us) (EP X aa σ Q) X.xe s:=by
 have r2:cG (vs++dvs) (us++ds):=r.append hd;have hl:(us++ds).length=ps.length:=by rw[<- r2.length];exact F.len _ _ _ _ h
 refine wpAny_call (Gz (F.run X.A X.stack s H ⟨us,[]⟩ (us++ds) (vs++dvs) Q E hr I.env0 (hb s us I.kIn hl) r2 h) fun r s' hq=> ?_);cases r with
 |error e=>exact hx aa σ H s e s' I hq
 |ok fl=>
  cases fl with
  |ret u=>exact I.after hq
  |next=>exact Gm hq
  |brk=>exact Gm hq
  |cont=>exact Gm hq
theorem zCA(F:aW X.prog X.w X.K X.mg X.base CX k f fd ps sp)(hr:XQ k X.A)(hg:Gl X x)(hm:X.mg x=some (.ref f))(hk:Lx X.K (.ref f)=true)(hb:MJ X.K fd ps ds)(hd:cG dvs ds)(hx:GW CX X E)
  (ha:PA X (e::es) t) (hdb:(x==("__debug__":Str))=false:=by decide) (he:Ak (e::es) X.env=(false,eval e X.env)::Ak es X.env:=by rfl) (hpl:(Fw pos (Ak es X.env)).any (·.1)=false:=by rfl):
  PE X (.Call (.Name x p) (e::es) [] pos) (BW sp dvs E t):=by
 intro aa s σ H Q I h;refine Ge (FI I hg hm ?_ hdb);refine W.callWith_K (h₀:=X.base) I.ok.mod.kin hk (ZT (ha pos aa s σ H _ I h) fun us s1 ⟨vs,H1,I1,r,q⟩=>⟨I1.kIn,?_⟩) he hpl;exact zEQ F hr hb hd hx I1 r q
end
structure cW(N P:List Str)(sc:Scope):Prop where
 kind:sc.kind= .function
 co:sc.isCoroutine=false
 gen:sc.isGenerator=false
 nd:N.Nodup
 pre:N.take P.length=P
 par: ∀x∈P,sc.names.lookup x=some .local∨sc.names.lookup x=some .cell
 nofree: ∀y∈sc.names,y.2≠ .free
theorem MS{kindOf:Str->Option NameKind}{x:Str}: ∀{binds:List (Str×Value)} {m:Str->Option Value},(∀v,(x,v)∉binds)->bindL kindOf binds m x=m x
 |[],_,_=>rfl
 | (n,v) :: r,m,h => by
  unfold bindL;rw[MS fun w hw=>h w (Ah _ hw)];split
  ·have : x ≠ n := by rintro rfl;exact h v Ai
   simp[this]
  ·rfl
theorem MQ{kindOf:Str->Option NameKind}{x:Str}: ∀{binds:List (Str×Value)} {m:Str->Option Value},(∀v,(x,v)∉binds)->bindC kindOf binds m x=m x
 |[],_,_=>rfl
 | (n,v) :: r,m,h => by
  unfold bindC;rw[MQ fun w hw=>h w (Ah _ hw)];split
  ·rfl
  ·have : x ≠ n := by rintro rfl;exact h v Ai
   simp[this]
theorem MR{kindOf:Str->Option NameKind}{x:Str}{v:Value}: ∀{P:List Str} {vs:List Value} {i:Nat} {m:Str->Option Value},P.Nodup->P[i]? =some x->vs[i]? =some v->kindOf x=some .local→
  bindL kindOf (P.zip vs) m x=some v
 |[],_,_,_,_,h,_,_=>by simp at h
 |_::_,[],_,_,_,_,h,_=>by simp at h
 |p::P,w::vs,0,m,nd,h1,h2,hk=>by
  simp at h1 h2;subst h1;subst h2;show bindL kindOf ((p,w)::P.zip vs) m p=_;unfold bindL;rw[MS fun v hv=>(Cq.mp nd).1 (Lm hv).1,if_pos hk];simp
 |p::P,w::vs,i+1,m,nd,h1,h2,hk=>by
  show bindL kindOf ((p,w)::P.zip vs) m x=_;unfold bindL;exact MR (i:=i) (Cq.mp nd).2 (by simpa using h1) (by simpa using h2) hk
theorem MP{kindOf:Str->Option NameKind}{x:Str}{v:Value}: ∀{P:List Str} {vs:List Value} {i:Nat} {m:Str->Option Value},P.Nodup->P[i]? =some x->vs[i]? =some v->kindOf x≠some .local→
  bindC kindOf (P.zip vs) m x=some v
 |[],_,_,_,_,h,_,_=>by simp at h
 |_::_,[],_,_,_,_,h,_=>by simp at h
 |p::P,w::vs,0,m,nd,h1,h2,hk=>by
  simp at h1 h2;subst h1;subst h2;show bindC kindOf ((p,w)::P.zip vs) m p=_;unfold bindC;rw[MQ fun v hv=>(Cq.mp nd).1 (Lm hv).1,if_neg hk];simp
 |p::P,w::vs,i+1,m,nd,h1,h2,hk=>by
  show bindC kindOf ((p,w)::P.zip vs) m x=_;unfold bindC;exact MP (i:=i) (Cq.mp nd).2 (by simpa using h1) (by simpa using h2) hk
def start(N:List Str)(vs:List V):St:=vs.map some++Bi (N.length - vs.length) none
noncomputable def JI(CX:CXT)(P:Bq)(w:World)(K:As)(mg:Str->Option Value)(base:Heap)(N:List Str)(qual:Str)(scope:Scope)(f:Addr)(cd:Value)(A:Cy)(outer:List Env)(s:Af)(H:Hp)(E:XK):Cx where
 prog:=P
 w:=w
 K:=K
 mg:=mg
 base:=base
 A:=A.deeper (Kx qual scope s.heap.objs.size f cd)
 N:=N
 s₀:=s
 H₀:=H
 env:=Kx qual scope s.heap.objs.size f cd
 outer:=outer
 stack:=Kx qual scope s.heap.objs.size f cd::outer
 ex:=[]
 calm:=true
 fn:=fun _=>true
 pn:=[]
 xe:=fun e s'=>wpAny (model P w) (A.deeper (Kx qual scope s.heap.objs.size f cd)) (leaving (Kx qual scope s.heap.objs.size f cd) e) (fun _ s''=>CX outer H s E e s'') (fun e' s''=>CX outer H s E e' s'') s'
theorem JG{sc:Scope}{n:Nat}{x:Str}(h:sc.names.lookup x=some .cell): ∃c,(cellsFrom n sc.names []).lookup x=some c:=by
 have q:=Oq sc.names n [] (.inl h);exact Option.isSome_iff_exists.mp q
theorem DR{CX:CXT}{P:Bq}{w:World}{K:As}{mg:Str->Option Value}{base:Heap}{N ps:List Str}{qual:Str}{scope:Scope}{f:Addr}{cd:Value}{A:Cy}{outer:List Env}{s s1:Af}{H:Hp}{E:XK}{us:List Value}{vs:List V}
  (S:cW N ps scope) (hd:A.handled=none) (e0:Env0 P w K mg base A outer s H) (hl:vs.length=ps.length) (r:cG vs us)
  (x:InCallC s s.heap.objs.size (bindL (Kx qual scope s.heap.objs.size f cd).kindOf (ps.zip us) fun _=>none) (cellsFrom (s.heap.objs.size+1) scope.names []) (bindC (Kx qual scope s.heap.objs.size f cd).kindOf (ps.zip us) fun _=>none) s1):
  c6 (JI CX P w K mg base N qual scope f cd A outer s H E) [] (start N vs) H s1:=by
 have hpl:ps.length<=N.length:=by have:=congrArg List.length S.pre;rw[Cg] at this;lia
 obtain⟨h1,tk,rfl,hk⟩:=x.done;have noA: ∀b:Addr,b∉(JI CX P w K mg base N qual scope f cd A outer s H E).ex:=fun b z=>absurd (show b∈([]:List Addr) from z) (by simp);refine⟨⟨e0.mod,S.kind,rfl,rfl,Ao _,fun y z c h1 h2=> ?_,fun y hy=> ?_,fun y c _ h=> ?_,fun _=>hd,Around.frames_deeper e0.frames,.inr ⟨rfl,rfl⟩,fun b z=>absurd z (noA b),e0.bs,e0.bsz,fun b _ _=>noA b,fun b z=>absurd z (noA b),e0.funs,e0.frf⟩,
  rfl,e0.bare,Un.kept hk,⟨_,x.toInCall.ns,fun i y v h1 h2 h3=> ?_⟩,fun y c h=>⟨_,x.cell y c h⟩,e0.hok.fresh (Ao _),fun y c h=> ?_,fun p hp=>absurd (show p∈([]:List (Addr×Obj)) from hp) (by simp),e0.hok.kept hk,?_⟩
 ·exact name_of_addr x.apart (Bt h1) (Bt h2)
 ·have hy:scope.names.lookup y=some .cell∨scope.names.lookup y=some .free:=hy
  rcases hy with hy|hy
  ·exact JG hy
  ·exact absurd rfl (S.nofree _ (Bt hy))
 ·exact Fa (x.above y c (Bt h))
 ·have hi:i<vs.length:=by
   unfold start at h2;by_cases hi:i<vs.length
   ·exact hi
   ·rw [Ci (by simpa using hi)] at h2
    rw[Cp] at h2;split at h2<;>cases h2
  have ha:vs[i]? =some v:=by
   unfold start at h2;rw[Ap (by simpa using hi),Cv] at h2;cases e:vs[i]? with
   |none=>rw[e] at h2;cases h2
   |some a=>rw[e] at h2;cases h2;rfl
  obtain⟨u,hu,rv⟩:=r.get ha;have hp:ps[i]? =some y:=by rw[<- S.pre,Ch (by lia)];exact h1
  have ndP:ps.Nodup:=by rw[<- S.pre];exact S.nd.sublist (List.take_sublist _ _)
  refine⟨u,rv,?_⟩;rcases S.par y (Ej hp) with k|k
  ·exact .inl ⟨k,MR ndP hp hu k⟩
  ·obtain⟨c,e⟩:=JG (n:=s.heap.objs.size+1) k
   refine .inr ⟨.inl k,c,e,?_⟩;have q:=x.cell y c e;rw[MP ndP hp hu (by show scope.names.lookup y≠_;rw[k];decide)] at q;exact q
 ·exact e0.hok.fresh (Fa (x.above y c (Bt h)))
 ·unfold start
  show _=N.length;rw[Bv,Bf,Ie];lia
theorem zJH{CX:CXT}{P:Bq}{w:World}{K:As}{mg:Str->Option Value}{base:Heap}{k:Nat}{f:Addr}{name qual:Str}{params:Arguments}{body:List Stmt}{scope:Scope}{dV kV doc pm cdv ct oc:Value}{an od:Option Addr}
  {osl:Array (Option Value)} {N ps:List Str} {sp:Sp} (lk:K.lookup f=some ⟨oc,od,.func (Mc name qual params body scope dV kV doc pm an cdv ct),osl⟩) (hcd:Mu K cdv qual=true) (S:cW N ps scope)
  (len: ∀vs H Q E,sp vs H Q E->vs.length=ps.length)
  (cn: ∀(A:Cy) (outer:List Env) (s:Af) (H:Hp) (vs:List V) (Q:VK) (E:XK),XQ k (A.deeper (Kx qual scope s.heap.objs.size f cdv))->sp vs H Q E→
   ∃t,QN (JI CX P w K mg base N qual scope f cdv A outer s H E) body t/\t {nx:=fun _ H'=>Q .non H',rt:=Q} (start N vs) H):
  aW P w K mg base CX (k+1) f (Mc name qual params body scope dV kV doc pm an cdv ct) ps sp:=by
 refine⟨len,fun A outer s H args us vs Q E hr e0 hb r hsp=> ?_⟩;have hl:=len _ _ _ _ hsp;have KX:K.In s.heap:=e0.mod.kin.keeps fun b o e=>(e0.bs b o e).1;have lim:s.heap.NoLimit:=e0.mod.nolimit.keeps fun b o e=>(e0.bs b o e).1;have lu: ∀y∈ps.zip us,scope.names.lookup y.1=some .local∨(scope.names.lookup y.1=some .cell/\((cellsFrom (s.heap.objs.size+1) scope.names []).lookup y.1).isSome=true):=fun⟨n,v⟩ hy=>by
  rcases S.par n (Lm hy).1 with q|q
  ·exact .inl q
  ·exact .inr ⟨q,Oq _ _ _ (.inl q)⟩
 refine codeAny_call_function hr.depth (KX _ _ lk) rfl S.co S.gen rfl (W.codeRec_of KX hcd) (hb _ _ _ _ ?_);refine wpAny_newFunctionEnv_cells S.kind lu fun env he s1 x=> ?_;subst he;refine⟨lim.keeps x.toInCall.keep,codeAny_func ?_⟩;obtain⟨t,ht,hq⟩:=cn A outer s H vs Q E (hr.deeper _) hsp;have I:c6 (JI CX P w K mg base N qual scope f cdv A outer s H E) [] (start N vs) H s1:=DR S hr.hd e0 hl r x;refine Az (ht [] s1 (start N vs) H _ I hq) (fun fl s' hs=> ?_) fun e s' hs=>hs;have fin: ∀{σ':St} {H':Hp} {v:V} {u:Value},c6 (JI CX P w K mg base N qual scope f cdv A outer s H E) [] σ' H' s'->cL v u->Q v H'->CE outer P w H s Q u s':=
  fun{σ' H' v u} J rv q=>⟨v,H',J.os,J.bare,J.base,J.hok,rv,q⟩
 cases fl with
 |ret u=>
  obtain⟨v,σ',H',J,rv,q⟩:=hs;exact fin J rv q
 |next=>
  obtain⟨σ',H',J,q⟩:=hs;exact fin (v:=V.non) (u:=Value.none) J rfl q
 |brk=>
  obtain⟨_,_,_,q⟩:=hs;exact Gm q
 |cont=>
  obtain⟨_,_,_,q⟩:=hs;exact Gm q
section
variable{X:Cx}{x:Str}{p pos:Pos}{e:Expr}{es:List Expr}{t:TA}{id T:String}{r:List V->Hp->VK->Prop}
def tCB(r:List V->Hp->VK->Prop)(t:TA):TE:=fun σ H Q=>t σ H fun vs H1=>r vs H1 Q
theorem SW(hc:a8 X (.builtin id) r)(hg:Gl X x)(hm:X.mg x=none)(hv:Bj x=some (.builtin id))(ha:PA X (e::es) t)(hn:x≠ "__name__":=by decide) (hdb:(x==("__debug__":Str))=false:=by decide)
  (he:Ak (e::es) X.env=(false,eval e X.env)::Ak es X.env:=by rfl) (hpl:(Fw pos (Ak es X.env)).any (·.1)=false:=by rfl):PE X (.Call (.Name x p) (e::es) [] pos) (tCB r t):=by
 intro aa s σ H Q I h;refine Ge (T1 I hg hm hv ?_ hn hdb);exact PyProof.Rows.callWith_builtin1 (ZT (ha pos aa s σ H _ I h) fun us s1 ⟨vs,H1,I1,r1,q1⟩=>hc aa s1 σ H1 vs us Q I1 r1 q1) he hpl
theorem XM(hc:a8 X (.type T) r)(hg:Gl X x)(hm:X.mg x=none)(hv:Bj x=some (.type T))(ha:PA X (e::es) t)(hn:x≠ "__name__":=by decide) (hdb:(x==("__debug__":Str))=false:=by decide)
  (he:Ak (e::es) X.env=(false,eval e X.env)::Ak es X.env:=by rfl) (hpl:(Fw pos (Ak es X.env)).any (·.1)=false:=by rfl):PE X (.Call (.Name x p) (e::es) [] pos) (tCB r t):=by
 intro aa s σ H Q I h;refine Ge (T1 I hg hm hv ?_ hn hdb);exact Dy (ZT (ha pos aa s σ H _ I h) fun us s1 ⟨vs,H1,I1,r1,q1⟩=>hc aa s1 σ H1 vs us Q I1 r1 q1) he hpl
end
end L2
namespace HT
open PySem PyProof.Rows
section
variable{prog:Bq}{w:World}{A:Cy}{E:Value->Af->Prop}{s:Af}
theorem zD2{t b:Addr}{vs ws:List Value}{Q:Value->Af->Prop}(ht:IsTup s.heap t vs.toArray)(hb:IsTup s.heap b ws.toArray)(hv:vs≠[])
  (h1:ws=[]->Q (.ref t) s) (h2:ws≠[]->Q (.ref s.heap.objs.size) {s with heap:=s.heap.push {cls:= .type "tuple",data:= .seq (vs++ws).toArray}})
  (hsz:vs.length+ws.length<=sizeLine):wpAny (model prog w) A (Fe .Add (.ref t) (.ref b)) Q E s:=by
 obtain⟨⟨cls,dd,data,sl⟩,ho,hc,n,hd⟩:=id ht;obtain⟨⟨m6,dd2,data2,sl2⟩,ho2,hc2,n2,hd2⟩:=id hb;simp only at hc hd hc2 hd2;subst hc hd hc2 hd2;have e:vs.toArray++ws.toArray=(vs++ws).toArray:=by simp
 by_cases hw:ws=[]
 ·exact Ln ⟨_,ho,rfl⟩ ⟨_,ho2,rfl⟩ Ky Mv Ht Hh (Ha _ _)
   (tuple_addW1 t b vs.toArray ws.toArray n n2 dd dd2 sl sl2 (by simpa using hv) (by simp[hw])) ⟨ho,ho2,h1 hw⟩
 ·refine Ln ⟨_,ho,rfl⟩ ⟨_,ho2,rfl⟩ Ky Mv Ht Hh (Ha _ _)
   (tuple_addW2 t b vs.toArray ws.toArray n n2 dd dd2 sl sl2 (by simpa using hv) (by simpa using hw) (by rw[Av,Av];exact hsz)) ⟨ho,ho2,?_⟩
  rw[e];exact h2 hw
noncomputable def sIx(n d:Nat):Option Int->Nat
 |none=>d
 |some v=>if v<0 then(v+(n:Int)).toNat else min v.toNat n
theorem KM(n d:Nat):sIx n d none=d:=rfl
theorem GA(n d k:Nat):sIx n d (some (k:Int))=min k n:=by
 show(if(k:Int)<0 then((k:Int)+(n:Int)).toNat else min (k:Int).toNat n)=min k n;rw[if_neg (by lia),Gq]
theorem zEP(n d:Nat)(hd:d<=n)(o:Option Int):sIx n d o<=n:=by
 cases o with
 |none=>exact hd
 |some v=>
  show(if v<0 then(v+(n:Int)).toNat else min v.toNat n)<=n;by_cases hv:v<0
  ·rw[if_pos hv];lia
  ·rw[if_neg hv];exact Nat.min_le_right _ _
theorem E3(v:Int)(n d:Nat):(if v<0 then max (v+(n:Int)) 0 else min v (n:Int))=((sIx n d (some v):Nat):Int):=by
 show(if v<0 then max (v+(n:Int)) 0 else min v (n:Int))=(((if v<0 then(v+(n:Int)).toNat else min v.toNat n):Nat):Int);by_cases hv:v<0
 ·simp only[if_pos hv];lia
 ·simp only[if_neg hv];lia
theorem GZ(lo hi:Option Int)(n:Nat):Gv lo hi 1 (n:Int)=(((sIx n 0 lo:Nat):Int),((sIx n n hi:Nat):Int)):=by
 have h1: ¬((1:Int)<0):=by lia
 unfold Gv;simp only[h1,if_false];refine Prod.ext ?_ ?_
 ·cases lo with
  |none=>rfl
  |some v=>exact E3 v n 0
 ·cases hi with
  |none=>rfl
  |some v=>exact E3 v n n
theorem HV(i j:Nat):Fj (i:Int) (j:Int) 1=j - i:=by
 unfold Fj;have h1:(1:Int)>0:=by lia
 simp only[h1,if_true,Int.ediv_one];split<;>lia
theorem P0{v:Value}{o:Option Int}{Q:Option Int->Af->Prop}(p:IsPart v o)(h:Q o s):wpAny (model prog w) A (Pe v) Q E s:=by
 cases p with
 |none=>exact slicePart_none h
 |int i t=>exact slicePart_int h
theorem WU{sl:Addr}{vl vu:Value}{lo hi:Option Int}{n:Nat}{Q:Int×Int×Nat->Af->Prop}(hs:s.heap.IsSliceOf sl vl vu .none)(pl:IsPart vl lo)(pu:IsPart vu hi)
  (h:Q (((sIx n 0 lo:Nat):Int),1,sIx n n hi - sIx n 0 lo) s):wpAny (model prog w) A (Jp (.ref sl) (pure (n:Int))) Q E s:=by
 obtain⟨os,hos,hcs,hds⟩:=id hs;unfold Jp Qn;refine Ac (Ac (Dz hos hds (x:=vl) rfl (Ac (Dz hos hds (x:=vu) rfl (Ac (Dz hos hds (x:= .none) rfl (Aj ?_)))))));refine Ac (slicePart_none ?_);show wpAny _ _ (if((1:Int)==0)=true then _ else _) _ _ s;rw[if_neg (by decide)];refine Ac (P0 pl (Ac (P0 pu (Ac (Aj ?_)))));show wpAny _ _ (match Gv lo hi 1 (n:Int) with|(lo,hi)=>pure (lo,(1:Int),Fj lo hi 1)) _ _ s;rw[GZ lo hi n];show wpAny _ _ (pure (((sIx n 0 lo:Nat):Int),(1:Int),Fj ((sIx n 0 lo:Nat):Int) ((sIx n n hi:Nat):Int) 1)) _ _ s;rw[HV];exact Aj h
theorem AO(xs:Array Value)(i k:Nat):((Am k).filterMap fun(m:Nat)=>xs[((i:Int)+(m:Int)*1).toNat]?).toArray=((xs.toList.drop i).take k).toArray:=by
 have e:(fun(m:Nat)=>xs[((i:Int)+(m:Int)*1).toNat]?)=fun m=>xs[i+m]? :=by
  funext m;have:((i:Int)+(m:Int)*1).toNat=i+m:=by lia
  rw[this]
 rw[e];have:=pick_run xs i k;rw[List.filterMap_map] at this;have e2:((fun x=>xs[x]?)∘fun x=>i+x)=fun m=>xs[i+m]? :=rfl;rw[e2] at this;rw[this]
theorem SO{t sl:Addr}{items:Array Value}{vl vu:Value}{lo hi:Option Int}{Q:Value->Af->Prop}(ht:IsTup s.heap t items)(hs:s.heap.IsSliceOf sl vl vu .none)(pl:IsPart vl lo)(pu:IsPart vu hi)
  (hw: ¬(sIx items.size 0 lo=0/\sIx items.size items.size hi=items.size))
  (h:Q (.ref s.heap.objs.size) {s with heap:=s.heap.push {cls:= .type "tuple",data:= .seq ((items.toList.drop (sIx items.size 0 lo)).take (sIx items.size items.size hi - sIx items.size 0 lo)).toArray}})
  (hsz:items.size<=sizeLine):wpAny (model prog w) A (Km (.ref t) (.ref sl)) Q E s:=by
 have ay:sizeOk (.seq ((items.toList.drop (sIx items.size 0 lo)).take (sIx items.size items.size hi - sIx items.size 0 lo)).toArray):=by
  show((items.toList.drop (sIx items.size 0 lo)).take (sIx items.size items.size hi - sIx items.size 0 lo)).toArray.size<=sizeLine;rw[Av,Cg,Ot,Ix];lia
 have hj:sIx items.size items.size hi<=items.size:=zEP _ _ (Ao _) hi;obtain⟨os,hos,hcs,hds⟩:=id hs;have hTs:s.TypeIs (.ref sl) "slice":=⟨os,hos,hcs⟩;unfold Km;try with_reducible refine Ce ?_
 first|refine Ac (Aj ?_)|skip
 refine Ac (Jz ht.typeIs (by decide) ?_);refine Ac (Dh (name:=Aw "__getitem__") ht.typeIs Ed
  (Ec Ed ht.typeIs entry_tuple_getitem ?_ (args_tuple_getitem _ _)))
 show wpAny _ _ (Jq (.ref t)>>=_) _ _ s;refine Ac (tupleItemsOf_ ht ?_);refine Ac (Ig hTs ?_);rw[if_pos (by decide)];refine Ac (WU hs pl pu ?_);have hno: ¬((((sIx items.size 0 lo:Nat):Int)==0 && (1:Int)==1 && (sIx items.size items.size hi - sIx items.size 0 lo)==items.size)=true):=by
  intro q;rw[Ae,Ae] at q;have q1:((sIx items.size 0 lo:Nat):Int)=0:=eq_of_beq q.1.1;have q2:sIx items.size items.size hi - sIx items.size 0 lo=items.size:=eq_of_beq q.2;exact hw ⟨by lia,by lia⟩
 show wpAny _ _ (if(((sIx items.size 0 lo:Nat):Int)==0 && (1:Int)==1 && (sIx items.size items.size hi - sIx items.size 0 lo)==items.size)=true then _ else _) _ _ s;rw[if_neg hno,AO]
 first
  |exact Ac (m:=Fp _) (Cu (Aj ⟨_,rfl,Aj h⟩) ay)
  |exact Ac (m:=Fp _) (Cu (Ac (Aj (Aj ⟨_,rfl,Aj h⟩))) ay)
  |exact Ac (Ac (m:=Fp _) (Cu (Aj (Aj ⟨_,rfl,Aj h⟩)) ay))
  |exact Ac (Ac (m:=Fp _) (Cu (Aj ⟨_,rfl,Aj h⟩) ay))
end
end HT
namespace L2
open PySem PySem.Spec PyProof.Rows
abbrev TO:=St->Hp->(Option Int->Hp->Prop)->Prop
def PO(X:Cx)(e:Option Expr)(t:TO):Prop:=
 ∀(aa:List (Addr×Obj)) (s:Af) (σ:St) (H:Hp) (Q:Option Int->Hp->Prop),c6 X aa σ H s->t σ H Q→
  wpAny (model X.prog X.w) X.A (evalPart e X.env) (fun u s'=> ∃o H',c6 X aa σ H' s'/\IsPart u o/\Q o H') X.xe s
def zBL:TO:=fun _ H Q=>Q none H
def zHG(t:TE):TO:=fun σ H Q=>t σ H fun x H1=> ∃i,x= .int i/\Q (some i) H1
theorem HE{ns:List Int}: ∀{us:List Value},cG (ns.map V.int) us->Iz us ns:=by
 induction ns with
 |nil=>intro us r;rw[Dj] at r;cases r;exact .nil
 |cons n ns ih=>
  intro us r;rw[Ar] at r;cases r with
  |cons r1 r2=>
   obtain⟨t,e⟩:=r1;subst e;exact .cons n t (ih r2)
section
variable{X:Cx}{e:Expr}{te:TE}{lo hi:Option Expr}{tl th:TO}{pos p2:Pos}
theorem zC4:PO X none zBL:=by
 intro aa s σ H Q I h;rw[evalPart_none];exact Aj ⟨none,H,I,.none,h⟩
theorem zC3(h:PE X e te):PO X (some e) (zHG te):=by
 intro aa s σ H Q I hw;rw[evalPart_some];refine ZT (h aa s σ H _ I hw) fun u s1 ⟨x,H1,I1,r1,q1⟩=> ?_;obtain⟨i,rfl,q⟩:=q1;obtain⟨t,rfl⟩:=r1;exact⟨some i,H1,I1,.int i t,q⟩
def SlR(X:Cx)(r:V->Option Int->Option Int->Hp->VK->Prop):Prop:=
 ∀(aa:List (Addr×Obj)) (s:Af) (σ:St) (H:Hp) (x:V) (v vl vu:Value) (lo hi:Option Int) (sl:Addr) (Q:VK),c6 X aa σ H s->cL x v->s.heap.IsSliceOf sl vl vu .none->IsPart vl lo->IsPart vu hi->r x lo hi H Q→
  ∃T id,typeLookup (.type T) "__getitem__"=pure (some (.builtin id))/\s.TypeIs v T/\wpAny (model X.prog X.w) X.A (Km v (.ref sl)) (EP X aa σ Q) X.xe s
theorem SlR.or{r r':V->Option Int->Option Int->Hp->VK->Prop}(h:SlR X r)(h':SlR X r'):SlR X (fun x lo hi H Q=>r x lo hi H Q∨r' x lo hi H Q):=by
 intro aa s σ H x v vl vu lo hi sl Q I rx hs pl pu q;rcases q with q|q
 ·exact h aa s σ H x v vl vu lo hi sl Q I rx hs pl pu q
 ·exact h' aa s σ H x v vl vu lo hi sl Q I rx hs pl pu q
def tSl(r:V->Option Int->Option Int->Hp->VK->Prop)(te:TE)(tl th:TO):TE:=fun σ H Q=>te σ H fun x H1=>tl σ H1 fun l H2=>th σ H2 fun u H3=>r x l u H3 Q
theorem AM{r:V->Option Int->Option Int->Hp->VK->Prop}(hr:SlR X r)(he:PE X e te)(hl:PO X lo tl)(hu:PO X hi th):PE X (.Subscript e (.Slice lo hi none p2) pos) (tSl r te tl th):=by
 intro aa s σ H Q I h;refine Subscript_ (ZT (he aa s σ H _ I h) fun v s1 ⟨x,H1,I1,r1,q1⟩=> ?_);refine wpAny_Slice (ZT (hl aa s1 σ H1 _ I1 q1) fun vl s2 ⟨l,H2,I2,pl,q2⟩=>ZT (hu aa s2 σ H2 _ I2 q2) fun vu s3 ⟨u,H3,I3,pu,q3⟩=> ?_);rw[evalPart_none];refine Aj ?_;have I4:c6 X aa σ H3 {s3 with heap:=s3.heap.push {cls:= .type "slice",data:= .fields #[vl,vu,.none]}}:=I3.kept (t':=s3.toks) fun b ob q=>Ad _ q;obtain⟨T,id,hT,ht,hg⟩:=hr aa {s3 with heap:=s3.heap.push {cls:= .type "slice",data:= .fields #[vl,vu,.none]}} σ H3 x v vl vu l u s3.heap.objs.size Q I4 r1 (Rv ..) pl pu q3;show wpAny (model X.prog X.w) X.A (subscriptTail e (.Slice lo hi none p2) v (.ref s3.heap.objs.size)) (EP X aa σ Q) X.xe {s3 with heap:=s3.heap.push {cls:= .type "slice",data:= .fields #[vl,vu,.none]}};exact Ra (ops:=[.ref s3.heap.objs.size,v]) ht hT hg (by with_unfolding_all rfl)
def JH(xs:List V)(lo hi:Option Int):List V:=(xs.drop (HT.sIx xs.length 0 lo)).take (HT.sIx xs.length xs.length hi - HT.sIx xs.length 0 lo)
theorem QZ(xs:List V)(lo hi:Option Int):(JH xs lo hi).length<=xs.length:=by
 unfold JH;rw[Cg,Ot];lia
def rSlT(K:As):V->Option Int->Option Int->Hp->VK->Prop:=fun x lo hi H Q=> ∃a xs,x= .ref a/\W4 K H a xs∧
 ¬(HT.sIx xs.length 0 lo=0/\HT.sIx xs.length xs.length hi=xs.length)/\ ∀p,H p=none->Q (.ref p) (bP H p (.tup (JH xs lo hi)))
theorem zEC:SlR X (rSlT X.K):=by
 intro aa s σ H x v vl vu lo hi sl Q I rx hs pl pu h;obtain⟨a,xs,rfl,hx,hw,q⟩:=h;cases rx;obtain⟨its,r,ht,hz⟩:=I.tuple hx;have ag:its.toArray.size=xs.length:=by rw[Av];exact r.length.symm
 refine⟨"tuple",_,PyProof.Rows.slot_tuple_getitem.lookup,ht.typeIs,?_⟩;refine HT.SO ht hs pl pu (by rw[ag];exact hw) ?_ (by rw[ag];exact hz);rw[ag];refine⟨.ref s.heap.objs.size,_,I.laid (t':=s.toks) (o:= .tup (JH xs lo hi)) (fun b ob q=>Ad _ q) (Ao _) ?_,rfl,q _ (I.hok.fresh (Ao _))⟩;exact⟨Cf (QZ xs lo hi) hz,_,(r.drop (HT.sIx xs.length 0 lo)).take (HT.sIx xs.length xs.length hi - HT.sIx xs.length 0 lo),Jy _ _⟩
theorem cG.nil_iff{xs:List V}{us:List Value}(r:cG xs us):us=[]↔xs=[]:=by
 cases r with
 |nil=>simp
 |cons _ _=>simp
end
noncomputable def ixN(n:Nat)(i:Int):Option Nat:=if 0<=i then(if i<n then some i.toNat else none) else if -(n:Int)<=i then some (i+n).toNat else none
def V1{α:Type}(xs:List α)(i:Int):Option α:=(ixN xs.length i).bind fun j=>xs[j]?
theorem zCW{n:Nat}{i:Int}{j:Nat}(h:ixN n i=some j):seqIndex? i n=some j/\j<n/\ -(n:Int)<=i/\i<n:=by
 unfold ixN at h;by_cases h0:0<=i
 ·rw[if_pos h0] at h
  by_cases h1:i<n
  ·rw[if_pos h1] at h
   have e:i.toNat=j:=Cb h;exact⟨by rw[seqIndex_of h0 h1,e],by lia,by lia,h1⟩
  ·rw[if_neg h1] at h;cases h
 ·rw[if_neg h0] at h
  by_cases h1: -(n:Int)<=i
  ·rw[if_pos h1] at h
   have e:(i+n).toNat=j:=Cb h;exact⟨by rw[seqIndex_neg (by lia) h1,e],by lia,h1,by lia⟩
  ·rw[if_neg h1] at h;cases h
theorem LG{α:Type}{xs:List α}{i:Int}{v:α}(h:V1 xs i=some v): ∃j,seqIndex? i xs.length=some j/\xs[j]? =some v/\j<xs.length/\ -(xs.length:Int)<=i/\i<xs.length:=by
 unfold V1 at h;cases e:ixN xs.length i with
 |none=>rw[e] at h;cases h
 |some j=>
  rw[e] at h;obtain⟨h1,h2,h3,h4⟩:=zCW e;exact⟨j,h1,h,h2,h3,h4⟩
theorem UV{α:Type}(xs:List α)(v:α):V1 (xs++[v]) (-1)=some v:=by
 have hl:(xs++[v]).length=xs.length+1:=by simp
 have e:ixN (xs++[v]).length (-1)=some xs.length:=by
  unfold ixN;rw[hl,if_neg (by decide),if_pos (by lia)];congr 1;lia
 unfold V1;rw[e];show(xs++[v])[xs.length]? =some v;simp
def LC(b:Expr):Prop:= ∀o i,subscripted b false o i=operate [o,i] (Km o i)
def C0(X:Cx)(r:R2):Prop:=
 ∀(value slice:Expr) (aa:List (Addr×Obj)) (s:Af) (σ:St) (H:Hp) (x y:V) (v u:Value) (Q:VK),c6 X aa σ H s->cL x v->cL y u->r x y H Q→
  subscripted slice false v u=operate [v,u] (Km v u)->wpAny (model X.prog X.w) X.A (subscriptTail value slice v u) (EP X aa σ Q) X.xe s
def MtR(X:Cx)(id:String)(r:V->List V->Hp->VK->Prop):Prop:=
 ∀(aa:List (Addr×Obj)) (s:Af) (σ:St) (H:Hp) (x:V) (xs:List V) (v:Value) (us:List Value) (Q:VK),c6 X aa σ H s->cL x v->cG xs us->r x xs H Q→
  wpAny (model X.prog X.w) X.A (call (.builtin id) (v::us)) (EP X aa σ Q) X.xe s
section
variable{X:Cx}{a b:Expr}{ta tb:TE}{pos:Pos}
theorem C0.or{r r':R2}(h:C0 X r)(h':C0 X r'):C0 X (fun x y H Q=>r x y H Q∨r' x y H Q):=by
 intro value slice aa s σ H x y v u Q I rx ry q hs;rcases q with q|q
 ·exact h value slice aa s σ H x y v u Q I rx ry q hs
 ·exact h' value slice aa s σ H x y v u Q I rx ry q hs
theorem zII{r:R2}(hr:C0 X r)(ha:PE X a ta)(hb:PE X b tb)(hs:LC b):PE X (.Subscript a b pos) (tOp r ta tb):=by
 intro aa s σ H Q I h;exact Subscript_ (binT ha hb I h fun v u s2 x y H2 I2 rx ry q=>hr a b aa s2 σ H2 x y v u Q I2 rx ry q (hs _ _))
def rIxL(K:As):R2:=fun x y H Q=> ∃p xs i v,x= .ref p/\y= .int i/\X1 K H p xs/\V1 xs i=some v/\Q v H
def rIxT(K:As):R2:=fun x y H Q=> ∃p xs i v,x= .ref p/\y= .int i/\W4 K H p xs/\V1 xs i=some v/\Q v H
def rIxS:R2:=fun x y H Q=> ∃z i c,x= .str z/\y= .int i/\z.length<=sizeLine/\V1 z.cps.toList i=some c/\Q (.str ⟨#[c]⟩) H
theorem zCU:C0 X (rIxL X.K):=by
 intro value slice aa s σ H x y v u Q I rx ry h hs;obtain⟨p,xs,i,z,rfl,rfl,hq,he,q⟩:=h;cases rx;obtain⟨t,rfl⟩:=ry;obtain⟨its,r,pl,hz⟩:=I.list hq;obtain⟨j,h1,h2,h3,h4,h5⟩:=LG he;obtain⟨w,ew,rw'⟩:=r.get h2;have hl:=r.length;have hn:=OX;have fin:EP X aa σ Q w s:=⟨z,H,I,rw',q⟩;by_cases h0:0<=i
 ·have hj:i.toNat=j:=by
   rw[seqIndex_of h0 h5] at h1;exact Cb h1
  exact item_listR pl.isList h0 (by lia) (by rw[hj];simpa using ew) fin hs
 ·have hj:(i+(its.toArray.size:Int)).toNat=j:=by
   rw[seqIndex_neg (by lia) h4] at h1;rw[Av,<- hl];exact Cb h1
  exact Ld (x:=w) pl.isList.typeIs slot_list_getitem.lookup
   (wpAny_getItem_list_neg (Q:=fun r s'=>r=w/\EP X aa σ Q r s') pl.isList (by lia) (by rw[Av]<;>lia) (by lia) (by rw[hj];simpa using ew) ⟨rfl,fin⟩) hs
theorem zGR:C0 X (rIxT X.K):=by
 intro value slice aa s σ H x y v u Q I rx ry h hs;obtain⟨p,xs,i,z,rfl,rfl,hq,he,q⟩:=h;cases rx;obtain⟨t,rfl⟩:=ry;obtain⟨its,r,pl,hz⟩:=I.tuple hq;obtain⟨j,h1,h2,h3,h4,h5⟩:=LG he;obtain⟨w,ew,rw'⟩:=r.get h2;have hl:=r.length;have hn:=OX;have fin:EP X aa σ Q w s:=⟨z,H,I,rw',q⟩;exact Ld (x:=w) pl.typeIs slot_tuple_getitem.lookup
  (getItem_tuple (j:=j) (Q:=fun r s'=>r=w/\EP X aa σ Q r s') pl (by lia) (by lia) (by rw[Av,<- hl];exact h1) (by simpa using ew) ⟨rfl,fin⟩) hs
theorem zGS:C0 X rIxS:=by
 intro value slice aa s σ H x y v u Q I rx ry h hs;obtain⟨z,i,c,rfl,rfl,hz,he,q⟩:=h;obtain⟨t,rfl⟩:=rx;obtain⟨t',rfl⟩:=ry;obtain⟨j,h1,h2,h3,h4,h5⟩:=LG he;have hl:z.cps.toList.length=z.length:=by simp[Str.length]
 rw[hl] at h1 h4 h5;have hn:=OX;exact Ra (typeIs_str s z t) slot_str_getitem.lookup (getItem_str (c:=c) (by
  have e1:decide (i< -(2 ^ 63:Int))=false:=decide_eq_false (by lia);have e2:decide (i≥2 ^ 63)=false:=decide_eq_false (by lia);rw[e1,e2,Bool.or_false]) (by rw[h1];simpa using h2) ⟨.str ⟨#[c]⟩,H,I.tok _,⟨_,rfl⟩,q⟩) hs
def rIx(K:As):R2:=fun x y H Q=>rIxL K x y H Q∨rIxT K x y H Q∨rIxS x y H Q
theorem zGT:C0 X (rIx X.K):=zCU.or (zGR.or zGS)
theorem MB(lo hi:Option Int)(n:Nat):(Hy lo hi none n).1=((HT.sIx n 0 lo:Nat):Int)/\(Hy lo hi none n).2.1=((HT.sIx n n hi:Nat):Int)/\(Hy lo hi none n).2.2=1:=by
 refine⟨?_,?_,rfl⟩
 ·cases lo with
  |none=>simp[Hy,HT.sIx]
  |some i=>
   simp only[Hy,HT.sIx,Ov,show(1:Int)>0 by decide,if_true];by_cases h:i<0
   ·simp only[h,if_true]<;>lia
   ·simp only[h,if_false]<;>lia
 ·cases hi with
  |none=>simp[Hy,HT.sIx]
  |some i=>
   simp only[Hy,HT.sIx,Ov,show(1:Int)>0 by decide,if_true];by_cases h:i<0
   ·simp only[h,if_true]<;>lia
   ·simp only[h,if_false]<;>lia
theorem N6(its:List Value)(lo hi:Option Int):slicePick its.toArray lo hi none=((its.drop (HT.sIx its.length 0 lo)).take (HT.sIx its.length its.length hi - HT.sIx its.length 0 lo)).toArray:=by
 obtain⟨h1,h2,h3⟩:=MB lo hi its.toArray.size;unfold slicePick;rw[h1,h2,h3];simp only[sliceRange_one,pick_run,Av]<;>rfl
def rSlL(K:As):V->Option Int->Option Int->Hp->VK->Prop:=fun x lo hi H Q=> ∃a xs,x= .ref a/\X1 K H a xs/\ ∀p,H p=none->Q (.ref p) (bP H p (.lst (JH xs lo hi)))
theorem zBP:SlR X (rSlL X.K):=by
 intro aa s σ H x v vl vu lo hi sl Q I rx hs pl pu h;obtain⟨a,xs,rfl,hx,q⟩:=h;cases rx;obtain⟨its,r,ht,hz⟩:=I.list hx;have ag:=r.length;refine⟨"list",_,slot_list_getitem.lookup,ht.isList.typeIs,?_⟩;refine wpAny_getItem_list_slice ht.isList hs pl pu .none (by simp) ?_ (by rw[Av]<;>lia);rw[N6,<- ag];refine⟨.ref s.heap.objs.size,_,I.laid (t':=s.toks) (o:= .lst (JH xs lo hi)) (fun b ob q=>Ad _ q) (Ao _) ?_,rfl,q _ (I.hok.fresh (Ao _))⟩;exact⟨Cf (QZ xs lo hi) hz,_,0,(r.drop (HT.sIx xs.length 0 lo)).take (HT.sIx xs.length xs.length hi - HT.sIx xs.length 0 lo),Au _ rfl⟩
theorem LK:a8 X (.builtin "len") (fun xs H Q=> ∃p ys,xs=[.ref p]/\(X1 X.K H p ys∨W4 X.K H p ys)/\Q (.int ys.length) H):=by
 intro aa s σ H xs us Q I r h;obtain⟨p,ys,rfl,hq,q⟩:=h;obtain⟨u,rfl,rx⟩:=WV r;cases rx;have hn:=OX;rcases hq with hq|hq
 ·obtain⟨its,r',pl,hz⟩:=I.list hq
  have ag:=r'.length;exact Calls.call_len_list pl.isList (by simp only[Av]<;>lia) ⟨.int ys.length,H,I.tok _,⟨s.toks+1,by rw[Av,ag]⟩,q⟩
 ·obtain⟨its,r',pl,hz⟩:=I.tuple hq
  have ag:=r'.length;exact len_tuple pl (by simp only[Av]<;>lia) ⟨.int ys.length,H,I.tok _,⟨s.toks+1,by rw[Av,ag]⟩,q⟩
theorem LL:a8 X (.builtin "len") (fun xs H Q=> ∃z,xs=[.str z]/\z.length<=sizeLine/\Q (.int z.length) H):=by
 intro aa s σ H xs us Q I r h;obtain⟨z,rfl,hz,q⟩:=h;obtain⟨u,rfl,t,rfl⟩:=WV r;have hn:=OX;exact len_str (by lia) ⟨.int z.length,H,I.tok _,⟨_,rfl⟩,q⟩
theorem a8.or{f:Value}{r r':List V->Hp->VK->Prop}(h:a8 X f r)(h':a8 X f r'):a8 X f (fun xs H Q=>r xs H Q∨r' xs H Q):=by
 intro aa s σ H xs us Q I rs q;rcases q with q|q
 ·exact h aa s σ H xs us Q I rs q
 ·exact h' aa s σ H xs us Q I rs q
theorem LM:a8 X (.type "list") (fun xs H Q=> ∃p ys,xs=[.ref p]/\(X1 X.K H p ys∨W4 X.K H p ys)/\ ∀l,H l=none->Q (.ref l) (bP H l (.lst ys))):=by
 intro aa s σ H xs us Q I r h;obtain⟨p,ys,rfl,hq,q⟩:=h;obtain⟨u,rfl,rx⟩:=WV r;cases rx;have fin: ∀(its:List Value),cG ys its->ys.length<=sizeLine-> ∀(h':Heap) (c':Nat),(∀b o',s.heap.get? b=some o'->h'.get? b=some o')→
   h'.get? s.heap.objs.size=some {cls:= .type "list",dict:=none,data:= .seq its.toArray c',slots:= #[]}->EP X aa σ Q (.ref s.heap.objs.size) {s with heap:=h'}:=fun its r' hz h' c' kp e=>
  ⟨.ref s.heap.objs.size,_,I.laid (t':=s.toks) kp (Ao _) (show aG X.prog X.w _ h' _ (.lst ys) from⟨hz,its,c',r',e⟩),rfl,q _ (I.hok.fresh (Ao _))⟩
 rcases hq with hq|hq
 ·obtain⟨its,r',pl,hz⟩:=I.list hq
  have ag:=r'.length;obtain⟨o,ho,hc,n,hd⟩:=pl.isList;exact call_list_seq p (.inl rfl) ho hc hd (fun h' c' kp e=>fin its r' hz h' c' kp e) (by simp only[Av]<;>lia)
 ·obtain⟨its,r',pl,hz⟩:=I.tuple hq
  have ag:=r'.length;obtain⟨o,ho,hc,n,hd⟩:=pl;exact call_list_seq p (.inr rfl) ho hc hd (fun h' c' kp e=>fin its r' hz h' c' kp e) (by simp only[Av]<;>lia)
theorem N0:a8 X (.type "tuple") (fun xs H Q=> ∃p ys,xs=[.ref p]/\((X1 X.K H p ys/\ ∀l,H l=none->Q (.ref l) (bP H l (.tup ys)))∨(W4 X.K H p ys/\Q (.ref p) H))):=by
 intro aa s σ H xs us Q I r h;obtain⟨p,ys,rfl,h⟩:=h;obtain⟨u,rfl,rx⟩:=WV r;cases rx;rcases h with⟨hq,q⟩|⟨hq,q⟩
 ·obtain⟨its,r',pl,hz⟩:=I.list hq
  have ag:=r'.length;refine call_tuple_list pl.isList (fun h' kp=> ?_) (by simp only[Av]<;>lia);have I1:c6 X aa σ H {s with heap:=h'}:=I.kept (t':=s.toks) kp;have I2:c6 X aa σ (bP H h'.objs.size (.tup ys)) {s with heap:=h'.push {cls:= .type "tuple",data:= .seq its.toArray}}:=
   I1.laid (t':=s.toks) (fun b o e=>Ad _ e) (Ao _) (show aG X.prog X.w _ _ _ (.tup ys) from⟨hz,its,r',Jy _ _⟩)
  exact⟨.ref h'.objs.size,_,I2,rfl,q _ (I1.hok.fresh (Ao _))⟩
 ·obtain⟨its,r',pl,hz⟩:=I.tuple hq
  exact call_tuple_same pl ⟨.ref p,H,I,rfl,q⟩
def tyV(K:As)(T:String)(x:V)(H:Hp):Prop:=match x with
 | .str _=>T= "str"
 | .int _=>T= "int"
 | .ref p => (T = "list" /\ ∃ xs,X1 K H p xs) ∨ (T = "tuple" /\ ∃ o,K.lookup p = some o /\ o.cls = .type "tuple" /\ o.dict = none) ∨
   (T= "dict" /\((∃kvs,H p=some (.dK kvs))∨ ∃kvs,H p=some (.dT kvs)))∨(T= "set" /\ ∃S n,H p=some (.set S n))
 |_=>False
theorem zE3{aa:List (Addr×Obj)}{σ:St}{H:Hp}{s:Af}{T:String}{x:V}{v:Value}(I:c6 X aa σ H s)(r:cL x v)(ty:tyV X.K T x H):
  s.TypeIs v T/\ ∀a,v= .ref a-> ∃ob,s.heap.get? a=some ob/\ob.dict=none:=by
 cases x with
 |str z=>
  obtain⟨t,rfl⟩:=r;cases (show T= "str" from ty);exact⟨typeIs_str s z t,fun _ e=>nomatch e⟩
 |int i=>
  obtain⟨t,rfl⟩:=r;cases (show T= "int" from ty);exact⟨typeIs_int s i t,fun _ e=>nomatch e⟩
 |ref p=>
  cases r;rcases ty with⟨rfl,xs,hq⟩|⟨rfl,o,hk,hc,hd⟩|⟨rfl,hk⟩|⟨rfl,S,n,hk⟩
  ·obtain⟨its,_,pl,_⟩:=I.list hq
   refine⟨pl.isList.typeIs,fun a e=> ?_⟩;cases e;obtain⟨o,n,e,c,hd,_⟩:=pl;exact⟨o,e,hd⟩
  ·refine ⟨⟨o,I.kIn p o hk,hc⟩,fun a e => ?_⟩
   cases e;exact⟨o,I.kIn _ o hk,hd⟩
  ·have z: ∃o,s.heap.get? p=some o/\o.ExactDict:=by
    rcases hk with⟨kvs,hk⟩|⟨kvs,hk⟩
    ·obtain⟨_,_,_,_,o,_,_,e,ex,_⟩:=I.hok p _ hk
     exact⟨o,e,ex⟩
    ·obtain⟨_,_,_,_,o,_,_,e,ex,_⟩:=I.hok p _ hk
     exact⟨o,e,ex⟩
   obtain⟨o,e,ex⟩:=z;refine⟨⟨o,e,ex.1⟩,fun a e2=> ?_⟩;cases e2;exact⟨o,e,ex.2.1⟩
  ·obtain⟨o,_,_,_,e,ex,_⟩:=I.hok p _ hk
   refine⟨⟨o,e,ex.1⟩,fun a e2=> ?_⟩;cases e2;exact⟨o,e,ex.2.1⟩
 |_=>exact Gm ty
def tBM(K:As)(T:String)(r:V->List V->Hp->VK->Prop)(to:TE)(t:TA):TE:=fun σ H Q=>to σ H fun x H1=>tyV K T x H1/\t σ H1 fun xs H2=>r x xs H2 Q
variable{o e:Expr}{es:List Expr}{to:TE}{t:TA}{name:Str}{am af:Pos}{T id:String}{r:V->List V->Hp->VK->Prop}
theorem zIJ(pa:PlainAttrs T)(slot:Slot T name id)(hty:typeOf (.builtin id)=pure (.type "method_descriptor")) (hm:MtR X id r) (ho:PE X o to) (ha:PA X (e::es) t)
  (cp:Hi o name X.env (eval o X.env)=eval o X.env:=by rfl)
  (eg : ((Fw af (Ak (e :: es) X.env)).all (fun x => !x.1) && (Mw af (Ja [] X.env)).all (fun x => x.1.isSome)
   && decide ((e::es).length+([]:List Jb).length+(if([]:List Jb).isEmpty then 0 else 1)<30))=true:=by rfl)
  (cg:(am.endLine==af.line)=true:=by rfl) (hs:Ak (e::es) X.env=(false,eval e X.env)::Ak es X.env:=by rfl) (bn:(Fw af (Ak es X.env)).any (·.1)=false:=by rfl):
  PE X (.Call (.Attribute o name am) (e::es) [] af) (tBM X.K T r to t):=by
 intro aa s σ H Q I h;refine wpAny_Call_method_late cp eg cg rfl (ZT (ho aa s σ H _ I h) fun v s1 ⟨x,H1,I1,r1,ty,q1⟩=> ?_);obtain⟨h1,h2⟩:=zE3 I1 r1 ty;refine⟨T,id,pa,slot,hty,h1,h2,?_⟩;have hA:=ha af aa s1 σ H1 _ I1 q1;rw[hs] at hA⊢;refine Gb (by show(false || (Fw af (Ak es X.env)).any (·.1))=false;rw[bn]<;>rfl) (Gs ?_);exact ZT hA fun us s2 ⟨vs,H2,I2,r2,q2⟩=>hm aa s2 σ H2 x vs v us Q I2 r1 r2 q2
end
def MtM(X:Cx)(id:String)(r:V->List V->Hp->VK->Prop):Prop:=
 ∀(aa:List (Addr×Obj)) (s:Af) (σ:St) (H:Hp) (x:V) (xs:List V) (v:Value) (us:List Value) (Q:VK),c6 X aa σ H s->cL x v->cG xs us->r x xs H Q→
  wpAny (model X.prog X.w) X.A (call (.builtin id) (v::us)) (EP X aa σ Q) X.xe s
theorem cG.one: ∀{x:V} {us:List Value},cG [x] us-> ∃u,us=[u]/\cL x u
 |_,_,.cons r .nil=>⟨_,rfl,r⟩
theorem cG.eraseIdx: ∀{xs:List V} {us:List Value} (i:Nat),cG xs us->cG (xs.eraseIdx i) (us.eraseIdx i)
 |_,_,_,.nil=> .nil
 |_,_,0,.cons _ t=>t
 |_,_,i+1,.cons r t=> .cons r (cG.eraseIdx i t)
section
variable{X:Cx}{aa:List (Addr×Obj)}{σ:St}{H:Hp}{s:Af}{l b:Addr}{xs ys zs:List V}
theorem c6.lset{its its':List Value}{n:Nat}{f:Array Value->Array Value}{t':Nat}(I:c6 X aa σ H s)(hH:H l=some (.lst xs))
  (e:s.heap.get? l=some {cls:= .type "list",data:= .seq its.toArray n}) (hf:f its.toArray=its'.toArray) (hv:cG ys its') (hz:ys.length<=sizeLine):
  c6 X aa σ (bP H l (.lst ys)) {s with heap:=s.heap.update l (Hb f),toks:=t'}:=by
 have q:=PySem.IsL.update e f;rw[hf] at q;refine I.write (x:=l) (e:=l) (by rw[hH];exact trivial) (.inl rfl) (fun b' u hb hu=>(Heap.get?_update_other s.heap (Hb f) (Dg hb)).trans hu) ⟨_,q⟩ ?_;exact⟨hz,its',_,hv,q⟩
theorem c6.lnew{its:List Value}{t':Nat}(I:c6 X aa σ H s)(hv:cG ys its)(hz:ys.length<=sizeLine):
  c6 X aa σ (bP H s.heap.objs.size (.lst ys)) {s with heap:=s.heap.push {cls:= .type "list",data:= .seq its.toArray},toks:=t'}:=
 I.laid (fun _ _ q=>Ad _ q) (Ao _) ⟨hz,its,0,hv,Au _ rfl⟩
theorem c6.fresh(I:c6 X aa σ H s):H s.heap.objs.size=none:=I.hok.fresh (Ao _)
theorem c6.lstM(I:c6 X aa σ H s)(hH:H l=some (.lst xs)):xs.length<=sizeLine/\ ∃(its:List Value) (n:Nat),cG xs its/\xs.length=its.length/\s.heap.get? l=some {cls:= .type "list",data:= .seq its.toArray n}:=by
 obtain⟨z,its,n,r,e⟩:=I.hok l _ hH;exact⟨z,its,n,r,r.length,e⟩
end
section
variable{X:Cx}
def F2:V->List V->Hp->VK->Prop:=fun x vs H Q=> ∃l xs y,x= .ref l/\vs=[y]/\H l=some (.lst xs)/\xs.length<sizeLine/\Q .non (bP H l (.lst (xs++[y])))
theorem bK:MtM X "list.append" F2:=by
 intro aa s σ H x vs v us Q I rx rv h;obtain⟨l,xs,y,rfl,rfl,hH,hz,q⟩:=h;cases rx;obtain⟨u,rfl,ru⟩:=rv.one;obtain⟨z,its,n,r,hl,e⟩:=I.lstM hH;refine Nu F.slot_list_append ⟨_,e,rfl⟩ F.entry_list_append (F.args_list_append_2 _ _) (PySem.list_append l its.toArray n u (by rw[Av];lia)) ⟨e,?_⟩;refine⟨.non,_,I.lset (its':=its++[u]) hH e (by simp) (r.append (.cons ru .nil)) ?_,rfl,q⟩;rw[Bv,Ih];lia
end
section
variable{prog:Bq}{w:World}{A:Cy}{E:Value->Af->Prop}{s:Af}
set_option maxRecDepth 100000 in
end
section
variable{κ:Type}[DecidableEq κ]
noncomputable def UH(kvs:List (κ×V))(k:κ):Option V:=(kvs.find? fun kv=>decide (kv.1=k)).map (·.2)
noncomputable def X3(kvs:List (κ×V))(k:κ)(v:V):List (κ×V):=
 if(kvs.any fun kv=>decide (kv.1=k))=true then kvs.map (fun kv=>if kv.1=k then(kv.1,v) else kv) else kvs++[(k,v)]
theorem S9{p:κ×V}{r:List (κ×V)}{k:κ}(e:p.1=k):UH (p::r) k=some p.2:=by simp[UH,Gh,e]
theorem VL{p:κ×V}{r:List (κ×V)}{k:κ}(e: ¬p.1=k):UH (p::r) k=UH r k:=by simp[UH,Gh,e]
theorem P2(k:κ): ∀kvs:List (κ×V),(kvs.any fun kv=>decide (kv.1=k))=(UH kvs k).isSome
 |[]=>rfl
 |p::r=>by
  rw[Fu];by_cases e:p.1=k
  ·simp only[S9 e,decide_eq_true e,Bool.true_or,Mx]
  ·rw[VL e,decide_eq_false e,Rb];exact P2 k r
theorem Q4(kvs:List (κ×V))(k:κ)(v:V):(X3 kvs k v).length<=kvs.length+1:=by
 unfold X3;split
 ·rw[Bf];lia
 ·rw[Bv,Bb,Hj];lia
theorem AW{kvs:List (κ×V)}{k:κ}(v:V)(h:UH kvs k=none):X3 kvs k v=kvs++[(k,v)]:=by
 unfold X3;rw[P2,h];exact if_neg (by decide)
theorem RD.isSome_eq{o:Option V}{u:Option Value}(r:RD o u):o.isSome=u.isSome:=by
 cases o with
 |none=>cases u with
  |none=>rfl
  |some _=>exact(show False from r).elim
 |some _=>cases u with
  |none=>exact(show False from r).elim
  |some _=>rfl
theorem RD.getD{o:Option V}{u:Option Value}{d:V}{d':Value}(r:RD o u)(rd:cL d d'):cL (o.getD d) (u.getD d'):=by
 cases o with
 |none=>cases u with
  |none=>exact rd
  |some _=>exact(show False from r).elim
 |some _=>cases u with
  |none=>exact(show False from r).elim
  |some _=>exact r
theorem KV.val{kvs:List (κ×V)}{vs:List (κ×Value)}(r:KV kvs vs)(k:κ):RD (UH kvs k) (Nv vs k):=by
 unfold KV at r;induction r with
 |nil=>exact True.intro
 | @cons p q ps qs h t ih=>
  obtain⟨h1,h2⟩:=h;by_cases e:p.1=k
  ·have e':q.1=k:=h1.symm.trans e
   have b:Nv (q::qs) k=some q.2:=by simp[Nv,Gh,e']
   rw[S9 e,b];exact h2
  ·have e' : ¬ q.1 = k := fun z => e (h1.trans z)
   have b:Nv (q::qs) k=Nv qs k:=by simp[Nv,Gh,e']
   rw[VL e,b];exact ih
theorem KV.any{kvs:List (κ×V)}{vs:List (κ×Value)}(r:KV kvs vs)(k:κ):(kvs.any fun kv=>decide (kv.1=k))=vs.any fun kv=>decide (kv.1=k):=by
 unfold KV at r;induction r with
 |nil=>rfl
 |cons h t ih=>rw[Fu,Fu,ih,h.1]
theorem KV.repl{kvs:List (κ×V)}{vs:List (κ×Value)}(r:KV kvs vs)(k:κ){y:V}{u:Value}(ry:cL y u):
  KV (kvs.map fun kv=>if kv.1=k then(kv.1,y) else kv) (vs.map fun kv=>if kv.1=k then(kv.1,u) else kv):=by
 unfold KV at r⊢;induction r with
 |nil=>exact .nil
 | @cons p q ps qs h t ih=>
  rw[Ar,Ar];refine .cons ?_ ih;obtain⟨h1,h2⟩:=h;by_cases e:p.1=k
  ·rw[if_pos e,if_pos (h1.symm.trans e)];exact⟨h1,ry⟩
  ·rw[if_neg e,if_neg (fun z=>e (h1.trans z))];exact⟨h1,h2⟩
theorem KV.put{kvs:List (κ×V)}{vs:List (κ×Value)}(r:KV kvs vs)(k:κ){y:V}{u:Value}(ry:cL y u):KV (X3 kvs k y) (Rj vs k u):=by
 unfold X3 Rj;rw[r.any k];by_cases e:(vs.any fun kv=>decide (kv.1=k))=true
 ·rw[if_pos e,if_pos e];exact r.repl k ry
 ·rw[if_neg e,if_neg e];exact Rr r ⟨rfl,ry⟩
theorem KV.length{kvs:List (κ×V)}{vs:List (κ×Value)}(r:KV kvs vs):kvs.length=vs.length:=Ms r
end
theorem Q3{P:Bq}{w:World}{k:b9}{u:Value}(r:cL (kV k) u):(b7 P w).is k u=true:=by
 cases k with
 |inl i=>obtain⟨t,e⟩:=(show∃t,u=Mq i t from r);subst e;exact JX P w i t
 |inr x=>obtain⟨t,e⟩:=(show∃t,u=Mr x t from r);subst e;exact JY P w x t
theorem M5{P:Bq}{w:World}: ∀{ks:List b9} {us:List Value},cG (ks.map kV) us->ItemsAre (b7 P w) ks us
 |[],_,r=>by rw[Dj] at r;cases r;exact .nil
 |k::ks,_,r=>by
  rw[Ar] at r;cases r with
  |cons h t=>exact .cons (Q3 h) (M5 t)
abbrev KT(H:Hp):List (List b9×V)->List (List b9×Addr×Value)->Prop:=Paired fun p q=>p.1=q.1/\H q.2.1=some (.tup (p.1.map kV))/\cL p.2 q.2.2
theorem KT.val{H:Hp}{kvs:List (List b9×V)}{xs:List (List b9×Addr×Value)}(r:KT H kvs xs)(k:List b9):RD (UH kvs k) ((atKey xs k).map (·.2)):=by
 induction r with
 |nil=>exact True.intro
 | @cons p q ps qs h t ih=>
  obtain⟨h1,_,h2⟩:=h;by_cases e:p.1=k
  ·have e':q.1=k:=h1.symm.trans e
   have b:atKey (q::qs) k=some q.2:=by simp[atKey,Gh,e']
   rw[S9 e,b];exact h2
  ·have e' : ¬ q.1 = k := fun z => e (h1.trans z)
   have b:atKey (q::qs) k=atKey qs k:=by simp[atKey,Gh,e']
   rw[VL e,b];exact ih
theorem KT.repl{H:Hp}{kvs:List (List b9×V)}{xs:List (List b9×Addr×Value)}(r:KT H kvs xs)(k:List b9){y:V}{u:Value}(ry:cL y u):
  KT H (kvs.map fun kv=>if kv.1=k then(kv.1,y) else kv) (xs.map (putAt k u)):=by
 induction r with
 |nil=>exact .nil
 | @cons p q ps qs h t ih=>
  rw[Ar,Ar];refine .cons ?_ ih;obtain⟨h1,h2,h3⟩:=h;unfold putAt;by_cases e:p.1=k
  ·rw[if_pos e,if_pos (h1.symm.trans e)];exact⟨h1,h2,ry⟩
  ·rw[if_neg e,if_neg (fun z=>e (h1.trans z))];exact⟨h1,h2,h3⟩
theorem KT.put{H:Hp}{kvs:List (List b9×V)}{xs:List (List b9×Addr×Value)}(r:KT H kvs xs)(k:List b9){b:Addr}{y:V}{u:Value}(hb:H b=some (.tup (k.map kV)))(ry:cL y u):
  KT H (X3 kvs k y) (storedH xs k b u):=by
 have e:(kvs.any fun kv=>decide (kv.1=k))=(atKey xs k).isSome:=by rw[P2,(r.val k).isSome_eq,Option.isSome_map]
 unfold X3 storedH;rw[e];by_cases q:(atKey xs k).isSome=true
 ·rw[if_pos q,if_pos q];exact r.repl k ry
 ·rw[if_neg q,if_neg q];exact Rr r ⟨rfl,hb,ry⟩
theorem KT.keeps{H H':Hp}{kvs:List (List b9×V)}{xs:List (List b9×Addr×Value)}(r:KT H kvs xs)(ht: ∀b ys,H b=some (.tup ys)->H' b=some (.tup ys)):KT H' kvs xs:=
 Paired.mapP r fun _ _ z=>⟨z.1,ht _ _ z.2.1,z.2.2⟩
section
variable{P:Bq}{w:World}{H:Hp}{h:Heap}{a:Addr}
theorem zDD{u:HO}(ok:TH P w H h)(e:Rd H a u):aG P w H h a u:=e.ok ok
theorem MV{kvs:List (b9×V)}(ok:TH P w H h)(e:Rd H a (.dK kvs)):kvs.length<=sizeLine/\(a==Fm)=false/\ ∃vs,KV kvs vs/\h.DictOf (b7 P w) a vs:=
 show aG P w H h a (.dK kvs) from zDD ok e
theorem zJM{kvs:List (b9×V)}(ok:TH P w H h)(e:H a=some (.dK kvs)):kvs.length<=sizeLine/\(a==Fm)=false/\ ∃vs,KV kvs vs/\h.DictOf (b7 P w) a vs:=MV ok (.inl e)
theorem OT{ks:List b9}(ok:TH P w H h)(e:H a=some (.tup (ks.map kV))):(tupleKind (b7 P w)).is h ks a:=by
 obtain⟨_,its,r,o,h1,h2,n,h3⟩:=(show aG P w H h a (.tup (ks.map kV)) from ok a _ e);exact⟨o,its.toArray,n,h1,h2,h3,by simpa using M5 r⟩
theorem MX{kvs:List (List b9×V)}(ok:TH P w H h)(e:Rd H a (.dT kvs)):kvs.length<=sizeLine/\(a==Fm)=false∧
  ∃xs,KT H kvs xs/\h.DictOfH (tupleKind (b7 P w)) a xs:=by
 obtain⟨z,y,xs,r,o,es,ep,h1,h2,h3,h4,h5⟩:=(show aG P w H h a (.dT kvs) from zDD ok e);refine⟨z,y,xs,r,o,es,ep,h1,h2,h3,h4,fun x hx=> ?_,h5⟩;have all: ∀{l:List (List b9×V)} {m:List (List b9×Addr×Value)},KT H l m-> ∀x∈m,(tupleKind (b7 P w)).is h x.1 x.2.1:=by
  intro l m q;induction q with
  |nil=>intro x hx;exact nomatch hx
  | @cons p q ps qs hq t ih=>
   intro x hx;rcases Al.mp hx with e|hx
   ·subst e
    exact OT ok (by rw[<- hq.1];exact hq.2.1)
   ·exact ih x hx
 exact all r x hx
theorem zJL{kvs:List (List b9×V)}(ok:TH P w H h)(e:H a=some (.dT kvs)):kvs.length<=sizeLine/\(a==Fm)=false∧
  ∃xs,KT H kvs xs/\h.DictOfH (tupleKind (b7 P w)) a xs:=MX ok (.inl e)
end
def RA(H:Hp)(a:Addr)(y:V)(r:Option V):Prop:=
 (∃kvs k,Rd H a (.dK kvs)/\y=kV k/\r=UH kvs k)∨ ∃kvs k b,Rd H a (.dT kvs)/\y= .ref b/\H b=some (.tup (k.map kV))/\r=UH kvs k
def DPut(H:Hp)(a:Addr)(y v:V)(H':Hp):Prop:=
 (∃kvs k,H a=some (.dK kvs)/\y=kV k/\kvs.length<sizeLine/\H'=bP H a (.dK (X3 kvs k v)))∨
 ∃kvs k b,H a=some (.dT kvs)/\y= .ref b/\H b=some (.tup (k.map kV))/\kvs.length<sizeLine/\H'=bP H a (.dT (X3 kvs k v))
theorem RA.k{H:Hp}{a:Addr}{kvs:List (b9×V)}{k:b9}(e:H a=some (.dK kvs)):RA H a (kV k) (UH kvs k):= .inl ⟨kvs,k,.inl e,rfl,rfl⟩
theorem DPut.k{H:Hp}{a:Addr}{kvs:List (b9×V)}{k:b9}{v:V}(e:H a=some (.dK kvs))(hl:kvs.length<sizeLine):DPut H a (kV k) v (bP H a (.dK (X3 kvs k v))):= .inl ⟨kvs,k,e,rfl,hl,rfl⟩
section
variable{X:Cx}{aa:List (Addr×Obj)}{σ:St}{H:Hp}{s:Af}{a:Addr}{y v:V}{u r:Value}{o:Option V}{A:Cy}{E:Value->Af->Prop}
theorem c6.big(I:c6 X aa σ H s):Fm<s.heap.objs.size:=by
 have h:mainGlobals<s.heap.objs.size:=(I.mod.glob.keeps I.bk).lt;exact Oi (by decide) h
theorem DG{Q:Value->Af->Prop}(hu:A.units+1<cLine)(I:c6 X aa σ H s)(g:RA H a y (some v))(ry:cL y u)(h: ∀w' s',c6 X aa σ H s'->cL v w'->Q w' s'):
  wpAny (model X.prog X.w) A (Km (.ref a) u) Q E s:=by
 rcases g with⟨kvs,k,e,ey,l⟩|⟨kvs,k,b,e,ey,eb,l⟩
 ·subst ey
  obtain⟨z,hd,vs,rel,dd⟩:=MV I.hok e;obtain⟨w',hw,rw'⟩:=RD.some_of (v:=v) (o:=Nv vs k) (by rw[l];exact rel.val k);exact wpAny_getItem_of (Q3 ry) dd.mapOf hw (h w' _ (I.tok _) rw')
 ·subst ey
  cases (show u=Br b from ry);obtain⟨z,hd,xs,rel,dd⟩:=MX I.hok e;obtain⟨w',hw,rw'⟩:=RD.some_of (v:=v) (o:=(atKey xs k).map (·.2)) (by rw[l];exact rel.val k);obtain⟨p,hp,hp2⟩:=Aq.mp hw;refine wpAny_getItem_heap (Hk hu) (OT I.hok eb) dd hp ?_;rw[hp2];exact h w' _ (I.tok _) rw'
theorem E6{h':Heap}{t':Nat}{ob:HO}(I:c6 X aa σ H s)(mu:Mut (H a))(hs:Fb a s.heap h')(he: ∃q,h'.get? a=some q)(new:aG X.prog X.w (bP H a ob) h' a ob):
  c6 X aa σ (bP H a ob) {s with heap:=h',toks:=t'}:=
 I.write (x:=a) (e:=a) mu (.inl rfl) (fun b q hb z=>(hs.2 b hb).trans z) he new
theorem zB3{P:Bq}{w:World}{H':Hp}{h':Heap}{kvs:List (b9×V)}{vs:List (b9×Value)}(z:kvs.length<=sizeLine)(hd:(a==Fm)=false)(rel:KV kvs vs)(dd:h'.DictOf (b7 P w) a vs):
  aG P w H' h' a (.dK kvs):=⟨z,hd,vs,rel,dd⟩
theorem DH{H':Hp}{Q:Unit->Af->Prop}(hu:A.units+1<cLine)(I:c6 X aa σ H s)(g:DPut H a y v H')(ry:cL y u)(rv:cL v r)(h: ∀s',c6 X aa σ H' s'->Q () s'):
  wpAny (model X.prog X.w) A (setItem (.ref a) u r) Q E s:=by
 rcases g with⟨kvs,k,e,ey,l,eH⟩|⟨kvs,k,b,e,ey,eb,l,eH⟩
 ·subst ey eH
  obtain⟨z,hd,vs,rel,dd⟩:=zJM I.hok e;have hz:vs.length<=sizeLine:=by rw[<- rel.length];exact z
  have hl:(X3 kvs k v).length<=sizeLine:=by have:=Q4 kvs k v;lia
  refine wpAny_setItem_pairs (hsz:=hz) (Q3 ry) dd fun h' dd' hs=>h _ ?_;have he: ∃q,h'.get? a=some q:=let ⟨q,_,_,hq,_⟩:=dd';⟨q,hq⟩
  exact E6 I (by rw[e];exact True.intro) hs he (zB3 hl hd (rel.put k rv) dd')
 ·subst ey eH
  cases (show u=Br b from ry);obtain⟨z,hd,xs,rel,dd⟩:=zJL I.hok e;have hz:xs.length<=sizeLine:=by rw[<- Ms rel];exact z
  have hl:(X3 kvs k v).length<=sizeLine:=by have:=Q4 kvs k v;lia
  refine wpAny_setItem_heap (hsz:=hz) (Hk hu) (OT I.hok eb) dd fun h' dd' hs=>h _ ?_;obtain⟨q,es,ep,hq,h2,h3,h4,_,h5⟩:=dd';refine E6 I (by rw[e];exact True.intro) hs ⟨q,hq⟩ ⟨hl,hd,_,(rel.put k eb rv).keeps fun c ys ec=> ?_,q,es,ep,hq,h2,h3,h4,h5⟩;rw[cE (zIZ ec e (fun z=>nomatch z))];exact ec
end
theorem JJ{X:Cx}{aa:List (Addr×Obj)}{σ:St}{H:Hp}{s:Af}{a:Addr}{y:V}{o:Option V}(I:c6 X aa σ H s)(g:RA H a y o):s.TypeIs (.ref a) "dict":=by
 rcases g with⟨kvs,k,e,_,_⟩|⟨kvs,k,b,e,_,_,_⟩
 ·obtain⟨_,_,vs,_,dd⟩:=MV I.hok e
  exact dd.typeIs
 ·obtain⟨_,_,xs,_,dd⟩:=MX I.hok e
  exact dd.typeIs
def zI3(td ty tv:TE):TS:=fun D σ H=>tv σ H fun v H1=>td σ H1 fun x H2=>ty σ H2 fun y H3=> ∃a H4,x= .ref a/\DPut H3 a y v H4/\D.nx σ H4
section
variable{X:Cx}{o i e value:Expr}{pos bm dg:Pos}{td ty tv:TE}
theorem zC2(hu:X.A.units+1<cLine)(ho:PE X o td)(hi:PE X i ty)(hv:PE X value tv)(hs:Gf value (some (.Subscript o i bm)) pos.line X.env=pure false):
  PS X (.Assign [.Subscript o i bm] value pos) (zI3 td ty tv):=by
 intro aa s σ H D I h;refine wpAny_Assign_Subscript (ZT (hv aa s σ H _ I h) fun r s1 ⟨v,H1,I1,rv,q1⟩=>ZT (ho aa s1 σ H1 _ I1 q1) fun u s2 ⟨x,H2,I2,rx,q2⟩=>ZT (hi aa s2 σ H2 _ I2 q2) fun iv s3 ⟨y,H3,I3,ry,a,H4,ex,g,q3⟩=> ?_) hs;subst ex;obtain rfl:u=Br a:=rx;exact DH hu I3 g ry rv fun s4 I4=>⟨σ,H4,I4,q3⟩
end
theorem zB4{P:Bq}{w:World}{H:Hp}(h:Heap)(hb:Fm<h.objs.size):aG P w H (h.push {cls:= .type "dict",data:= .dict #[]}) h.objs.size (.dK []):=
 ⟨Dd _,beq_eq_false_iff_ne.mpr (Dg (Be hb)),[],.nil,Pq h⟩
def zEA:TE:=fun _ H Q=> ∀p,H p=none->Q (.ref p) (bP H p (.dK []))
section
variable{X:Cx}{pos:Pos}
theorem AJ:PE X (.Dict [] [] pos) zEA:=fun aa s σ H Q I h=>
 wpAny_Dict_empty ⟨.ref s.heap.objs.size,_,I.laid (a:=s.heap.objs.size) (o:= .dK []) (t':=s.toks) (fun _ _ q=>Ad _ q) (Ao _) (zB4 s.heap I.big),rfl,h _ (I.hok.fresh (Ao _))⟩
end
def O0(kvs more:List (b9×V)):List (b9×V):=more.foldl (fun acc kv=>X3 acc kv.1 kv.2) kvs
theorem KV.merge: ∀{more:List (b9×V)} {rs:List (b9×Value)} {kvs:List (b9×V)} {vs:List (b9×Value)},KV more rs->KV kvs vs->KV (O0 kvs more) (merged vs rs):=by
 intro more rs kvs vs r;unfold KV at r;induction r generalizing kvs vs with
 |nil=>intro q;exact q
 | @cons p q ps qs h t ih=>
  intro r0;have e:KV (X3 kvs p.1 p.2) (Rj vs q.1 q.2):=by
   have:=r0.put p.1 h.2;rw[<- h.1];exact this
  exact ih e
structure M1(X:Cx)(o:Expr)(m:Str)(am:Pos)(e:Expr)(af:Pos):Prop where
 base:Hi o m X.env (eval o X.env)=eval o X.env
 few:((Fw af (Ak [e] X.env)).all (fun x=> !x.1) && (Mw af (Ja [] X.env)).all (fun x=>x.1.isSome)
  && decide (([e]:List Expr).length+([]:List Jb).length+(if([]:List Jb).isEmpty then 0 else 1)<30))=true
 line:(am.endLine==af.line)=true
 trees:Fw af (Ak [e] X.env)=[(false,eval e X.env)]
structure M2(X:Cx)(o:Expr)(m:Str)(am:Pos)(e f:Expr)(af:Pos):Prop where
 base:Hi o m X.env (eval o X.env)=eval o X.env
 few:((Fw af (Ak [e,f] X.env)).all (fun x=> !x.1) && (Mw af (Ja [] X.env)).all (fun x=>x.1.isSome)
  && decide (([e,f]:List Expr).length+([]:List Jb).length+(if([]:List Jb).isEmpty then 0 else 1)<30))=true
 line:(am.endLine==af.line)=true
 trees:Fw af (Ak [e,f] X.env)=[(false,eval e X.env),(false,eval f X.env)]
def IsD(H:Hp)(a:Addr):Prop:=(∃kvs,Rd H a (.dK kvs))∨ ∃kvs,Rd H a (.dT kvs)
theorem zAM{X:Cx}{aa:List (Addr×Obj)}{σ:St}{H:Hp}{s:Af}{a:Addr}(I:c6 X aa σ H s)(d:IsD H a):
  s.TypeIs (.ref a) "dict" /\(∀b,Br a= .ref b-> ∃ob,s.heap.get? b=some ob/\ob.dict=none)/\(a==Fm)=false:=by
 rcases d with⟨kvs,e⟩|⟨kvs,e⟩
 ·obtain⟨_,hd,vs,_,dd⟩:=MV I.hok e
  refine⟨dd.typeIs,fun b q=> ?_,hd⟩;cases q;obtain⟨ob,_,_,h1,h2,_⟩:=dd;exact⟨ob,h1,h2.2.1⟩
 ·obtain⟨_,hd,xs,_,dd⟩:=MX I.hok e
  refine⟨dd.typeIs,fun b q=> ?_,hd⟩;cases q;obtain⟨ob,_,_,h1,h2,_⟩:=dd;exact⟨ob,h1,h2.2.1⟩
section
variable{X:Cx}{aa:List (Addr×Obj)}{σ:St}{H:Hp}{s:Af}{a:Addr}{y d:V}{u r:Value}{o:Option V}{A:Cy}{E:Value->Af->Prop}
theorem zGX{Q:Value->Af->Prop}(hu:A.units+1<cLine)(I:c6 X aa σ H s)(g:RA H a y o)(ry:cL y u)(h: ∀w' s',c6 X aa σ H s'->cL (o.getD .non) w'->Q w' s'):
  wpAny (model X.prog X.w) A (call (.builtin "dict.get") [.ref a,u]) Q E s:=by
 rcases g with⟨kvs,k,e,ey,l⟩|⟨kvs,k,b,e,ey,eb,l⟩
 ·subst ey
  obtain⟨z,hd,vs,rel,dd⟩:=MV I.hok e;refine Lo Ds dd.typeIs Eu (Hl _ _) (meets_dict_get (b7 X.prog X.w) a (Q3 ry) hd) ⟨_,dd.mapOf,h _ _ (I.tok _) ?_⟩;rw[l];exact(rel.val k).getD rfl
 ·subst ey
  cases (show u=Br b from ry);obtain⟨z,hd,xs,rel,dd⟩:=MX I.hok e;refine Lo Ds dd.typeIs Eu (Hl _ _) (meetsH_dict_get (tupleKind (b7 X.prog X.w)) a b hd) ⟨Hk hu,k,xs,OT I.hok eb,dd,h _ _ (I.tok _) ?_⟩;rw[l];exact(rel.val k).getD rfl
theorem zGW{Q:Value->Af->Prop}(hu:A.units+1<cLine)(I:c6 X aa σ H s)(g:RA H a y o)(ry:cL y u)(rd:cL d r)(h: ∀w' s',c6 X aa σ H s'->cL (o.getD d) w'->Q w' s'):
  wpAny (model X.prog X.w) A (call (.builtin "dict.get") [.ref a,u,r]) Q E s:=by
 rcases g with⟨kvs,k,e,ey,l⟩|⟨kvs,k,b,e,ey,eb,l⟩
 ·subst ey
  obtain⟨z,hd,vs,rel,dd⟩:=MV I.hok e;refine Lo Ds dd.typeIs Eu (Kn _ _ _) (meets_dict_get_default (b7 X.prog X.w) a (Q3 ry) hd r) ⟨_,dd.mapOf,h _ _ (I.tok _) ?_⟩;rw[l];exact(rel.val k).getD rd
 ·subst ey
  cases (show u=Br b from ry);obtain⟨z,hd,xs,rel,dd⟩:=MX I.hok e;refine Lo Ds dd.typeIs Eu (Kn _ _ _) (meetsH_dict_get_default (tupleKind (b7 X.prog X.w)) a b hd r) ⟨Hk hu,k,xs,OT I.hok eb,dd,h _ _ (I.tok _) ?_⟩;rw[l];exact(rel.val k).getD rd
end
def zEB(td ty tx:TE):TE:=fun σ H Q=>td σ H fun x H1=> ∃a,x= .ref a/\IsD H1 a/\ty σ H1 fun y H2=>tx σ H2 fun z H3=> ∃o,RA H3 a y o/\Q (o.getD z) H3
section
variable{X:Cx}{o e f:Expr}{am af:Pos}{td ty tx:TE}
theorem AI(hu:X.A.units+1<cLine)(ho:PE X o td)(he:PE X e ty)(hf:PE X f tx)(m:M2 X o "get" am e f af):PE X (.Call (.Attribute o "get" am) [e,f] [] af) (zEB td ty tx):=by
 intro aa s σ H Q I h;refine Nw m.base m.few m.line Ko Ds Lp (ZT (ho aa s σ H _ I h) fun u s1 ⟨x,H1,I1,rx,a,ex,d,q1⟩=> ?_);subst ex;obtain rfl:u=Br a:=rx;obtain⟨t1,t2,_⟩:=zAM I1 d;refine⟨t1,t2,?_⟩;rw[m.trees];refine Gb rfl (Gs (Gc (ZT (he aa s1 σ H1 _ I1 q1) fun iv s2 ⟨y,H2,I2,ry,q2⟩=>
  Gc (ZT (hf aa s2 σ H2 _ I2 q2) fun fv s3 ⟨z,H3,I3,rz,ov,g,q3⟩=>Hx ?_))))
 exact zGW hu I3 g ry rz fun w' s4 I4 rw'=>⟨_,H3,I4,rw',q3⟩
end
end L2
namespace Att
open PySem PySem.W PySem.Calls PyProof.Rows
theorem QT{P:Pk}{h:Heap}: ∀(ns:List Int) (vs:List Value),WellAll P h vs (ns.map WData.int)->Iz vs ns:=by
 intro ns;induction ns with
 |nil=>
  intro vs w;rw[Dj] at w;cases w;exact .nil
 |cons n ns ih=>
  intro vs w;rw[Ar] at w;cases w with
  |cons a b=>
   cases a;exact .cons _ _ (ih _ b)
theorem EG{l:OpenLaw}{n:Nat}(hn:l.most=some n){P:Pk}{h:Heap}{args:List WData}{vals:List Value}
  (hpre:l.row.toRowW.claim.pre args=true) (hwl:WellAll P h vals args):
  ∃a vs ns,vals=[Br a]/\args=[WData.list (ns.map WData.int)]/\h.get? a=some {cls:= .type "list",data:= .seq vs.toArray}/\Iz vs ns/\ns.length<=n:=by
 have hsh:WShape.hasAll [] args [.list .int]=true:=(pre_splitW hpre).1;have hc:l.pre.holds [] {args:=args}=true:=(pre_splitW hpre).2;obtain⟨d,r,rfl,h1,h2⟩:=hasAllW_cons hsh;obtain rfl:=hasAllW_nil h2;obtain⟨xs,rfl,h3⟩:=hasW_list h1;obtain⟨ns,rfl⟩:=items_int h3;have ag:ns.length<=n:=by
  unfold OpenLaw.pre at hc;have h4:(WTm.not (.lt (.lit (.int (n:Int))) (.len (.arg 0)))).holds [] {args:=[.list (ns.map .int)]}=true:=by
   have h4:=(holds_andW hc).1;rw[hn] at h4;exact h4
  have h5:=condW_of h4 (w_not (w_lt w_lit (w_len_list (w_arg rfl))));rw[Bf] at h5;refine Ez fun q=> ?_;have q':(n:Int)<((ns.length:Nat):Int):=by lia
  first
   |(rw[decide_eq_true q'] at h5;exact absurd h5 (by decide))
   |(simp at h5;lia)
 cases hwl with
 |cons w1 w2=>
  cases w2;cases w1 with
  |list ho ja=>exact⟨_,_,ns,rfl,rfl,ho,QT ns _ ja,ag⟩
theorem EA(l:OpenLaw)(args:List WData):l.row.toRowW.claim.post args (.bool true) args=true:=
 postW_of (r:=l.row.toRowW) (X:=(true==true))
  (show Rw [] (.bool true) .bool=true by first|rfl|decide|simp[Rw,WShape.arms,WShape.armsAll])
  (show(WTm.eq .res (.lit (.bool true))).value [] {args:=args,res:=some (.bool true),after:=args}=some (.bool (true==true)) from w_eq_bool (w_res rfl) w_lit) rfl
theorem JC{l:OpenLaw}{n:Nat}{q:Bq}{loose:List Str}{XP:(Str->Option Value)->Heap->Prop}{YP:World->Heap->Prop}{d:DefRec}
  (hn:l.most=some n) (hdf:d.params.defaults=[])
  (call: ∀(w:World) (s₀ s₁:Af) (mg mb:Str->Option Value) (fa:Addr) (o:Obj) (pm cd doc:Value) (a:Addr) (vs:List Value) (ns:List Int),
   Ground q loose [] XP w s₀ mg mb s₁.heap->YP w s₁.heap→
   s₁.heap.get? fa=some o->o.data= .func (docDef d.name d.params d.body d.scope pm cd doc)->s₁.heap.CodeRec cd d.name->mg d.name=some (.ref fa)→
   s₁.heap.get? a=some {cls:= .type "list",data:= .seq vs.toArray}->Iz vs ns->ns.length<=n->s₁.gens= #[]→
   Ga (model l.prog w) Mj (.call (.ref fa) ⟨[.ref a],[]⟩) (fun r s'=>r= .ok (.ret (.bool true))/\OldK s₁.heap s'.heap/\s'.os=s₁.os/\Lk s'.gens) s₁):
  WalkO q loose XP YP l.row.toRowW d [] (fun f vs=>Qv f vs):=by
 intro w s₀ s₁ mg mb G Y fa o pm cd doc dV kV ho hd hcd hD hmg hg args vals as hpre hlay hrd hwl hlo;obtain rfl:dV= .none:=Dflts.none hD hdf;obtain rfl:kV= .none:=Dflts.noKw hD;obtain⟨a,vs,ns,rfl,rfl,hobj,hints,ag⟩:=EG hn hpre hwl;refine enter_call (Gz (call w s₀ s₁ mg mb fa o pm cd doc a vs ns G Y ho (fd_plain hd) hcd hmg hobj hints ag hg) fun r s' hq=> ?_);obtain⟨rfl,h2,h3,h4⟩:=hq;exact⟨.inl ⟨.bool true,.bool true,[],rfl,fun _=>rfl,.bool true,EA l _,fun _=>⟨Ka,fun _ hm=>(nomatch hm)⟩⟩,h2,h3,h4⟩
end Att
namespace L2
open PySem PySem.Spec PyProof.Rows
theorem NQ: ∀{vs:List Value} {ns:List Int},Iz vs ns->cG (ns.map V.int) vs
 |_,_,.nil=> .nil
 |_,_,.cons n t h=> .cons ⟨t,rfl⟩ (NQ h)
def Only(H:Hp):Prop:= ∀b,H b=none∨ ∃o xs,H b=some (.frz o (.lst xs))
theorem zAD{P:Bq}{w:World}{K:As}{mg mb:Str->Option Value}{CX:CXT}{k:Nat}{fa a:Addr}{fd:Gd}{x:Str}{sp:Sp}{s₁:Af}{vs:List Value}{ns:List Int}
  (KX:K.In s₁.heap) (hns:s₁.heap.Ns mainGlobals mg) (hb:s₁.heap.Ns builtinsNs mb) (hbb: ∀x:Str,x≠ "__name__" ->mb x=Bj x) (o7:s₁.heap.NoLimit) (hg:s₁.gens= #[])
  (ha:s₁.heap.get? a=some {cls:= .type "list",data:= .seq vs.toArray}) (hi:Iz vs ns) (hl:ns.length<=sizeLine) (hr:XQ k Mj)
  (F: ∀base:Heap,K.In base->base.Ns mainGlobals mg->aW P w K mg base CX k fa fd [x] sp) (ly: ∀(s:Af) (u:Value),Pp s fd ⟨[u],[]⟩ [(x,u)])
  (hsp: ∀H:Hp,Only H->X1 K H a (ns.map V.int)->sp [.ref a] H (fun v _=>v= .bl true) fun _ _ _=>False)
  (hCX: ∀H e s',CX [] H s₁ (fun _ _ _=>False) e s'->False):
  Ga (model P w) Mj (.call (.ref fa) ⟨[.ref a],[]⟩) (fun r s'=>r= .ok (.ret (.bool true))/\OldK s₁.heap s'.heap/\s'.os=s₁.os/\Lk s'.gens) s₁:=by
 have rv:=NQ hi;have nh:=hi.length;have lz: ∀H:Hp,Only H->X1 K H a (ns.map V.int)->TH P w H s₁.heap->(∀b,H b≠none->b=a)->(H a≠none->K.lookup a=none)→
   Ga (model P w) Mj (.call (.ref fa) ⟨[.ref a],[]⟩) (fun r s'=>r= .ok (.ret (.bool true))/\OldK s₁.heap s'.heap/\s'.os=s₁.os/\Lk s'.gens) s₁:=by
  intro H hO hS hok hA hK;have f7: ∀{b:Addr} {o:Obj},s₁.heap.get? b=some o->H b=none->(LW s₁.heap H).get? b=some o:=fun e n=>zAU e n;have noA: ∀{b:Addr} {o:Obj} {es:Array Li} {ep:Nat},s₁.heap.get? b=some o->o.data= .dict es ep->H b=none:=fun{b o es ep} e d=>by
   cases q:H b with
   |none=>rfl
   |some u=>
    have e':b=a:=hA b (by rw[q];simp);subst e';rw[ha] at e;cases e;have d':Data.seq vs.toArray _=Data.dict es ep:=d;cases d'
  have nsK: ∀{b:Addr} {m:Str->Option Value},s₁.heap.Ns b m->(LW s₁.heap H).Ns b m:=fun{b m} ⟨o,es,ep,e,d,r⟩=>⟨o,es,ep,f7 e (noA e d),d,r⟩;have hKb:K.In (LW s₁.heap H):=fun b o e=>f7 (KX b o e) (by
   cases q:H b with
   |none=>rfl
   |some u=>
    have e':b=a:=hA b (by rw[q];simp);subst e';rw[hK (by rw[q];simp)] at e;cases e)
  have hM:Mod K mg (LW s₁.heap H):=⟨hKb,nsK hns,⟨mb,nsK hb,hbb⟩,let ⟨mc,h1,h2⟩:=o7;⟨mc,nsK h1,h2⟩⟩;have e0:Env0 P w K mg (LW s₁.heap H) Mj [] s₁ H:=⟨rfl,hM,fun b o e=>zCI e,Nat.le_of_eq (DP _ _),trivial,fun b hb=>absurd (show b∈([]:List Addr) from hb) (by simp),hok,.of_eq hg⟩;refine Gz ((F _ hKb (nsK hns)).run Mj [] s₁ H ⟨[.ref a],[]⟩ [.ref a] [.ref a] _ _ hr e0 (ly s₁ (.ref a)) (.cons rfl .nil) (hsp H hO hS)) fun r s' h=> ?_;cases r with
  |error e=>exact(hCX H e s' h).elim
  |ok fl=>
   cases fl with
   |next=>exact Gm h
   |brk=>exact Gm h
   |cont=>exact Gm h
   |ret u=>
    obtain⟨v,H',os,bare,un,nv,r',q⟩:=h;have q':v= .bl true:=q;subst q';obtain rfl:u=Nq true:=r';refine⟨rfl,OldK.of_keep fun b o e=> ?_,os,bare⟩;cases q:H b with
    |none=>exact un.keep b o e q (by intro z;exact absurd (show b∈([]:List Addr) from z) (by simp)) (by simp)
    |some u=>
     rcases hO b with z|⟨ob,xs,z⟩
     ·rw[q] at z;cases z
     ·have z2:=un.frzs b ob _ z
      obtain⟨e1,_⟩:=hok b _ z;obtain⟨e2,_⟩:=nv b _ z2;rw[e] at e1;cases e1;exact e2
 cases hk:K.lookup a with
 |some o=>
  have e:=KX a o hk;rw[ha] at e;cases e;refine lz (fun _=>none) (fun _=> .inl rfl) (.inr ⟨_,vs.toArray,_,hk,rfl,rfl,rfl,by rw[Av,nh];exact hl,by simpa using rv⟩) (fun b u z=>by have z':(none:Option HO)=some u:=z;cases z') (fun b z=>absurd rfl z) fun z=>absurd rfl z
 |none=>
  refine lz (fun b=>if b=a then some (.frz {cls:= .type "list",data:= .seq vs.toArray} (.lst (ns.map V.int))) else none) (fun b=> ?_) (.inl (.inr ⟨{cls:= .type "list",data:= .seq vs.toArray},if_pos rfl⟩)) (fun b u z=> ?_) (fun b z=> ?_) fun _=>hk
  ·by_cases hb:b=a
   ·exact .inr ⟨_,_,if_pos hb⟩
   ·exact .inl (if_neg hb)
  ·by_cases hb:b=a
   ·have z':=(if_pos hb).symm.trans z
    cases z';subst hb;exact⟨ha,by rw[Bf];exact hl,vs,_,rv,ha⟩
   ·have z':=(if_neg hb).symm.trans z
    cases z'
  ·by_cases hb:b=a
   ·exact hb
   ·exact absurd (if_neg hb) z
theorem zBB{l:Rk}{n k:Nat}{q:Bq}{loose:List Str}{XP:(Str->Option Value)->Heap->Prop}{YP:World->Heap->Prop}{d:DefRec}{K:Pk->As}{CX:World->CXT}{sp:World->Sp}{x:Str}
  (hn:l.most=some n) (hn2:n<=sizeLine) (hdf:d.params.defaults=[]) (hr:XQ k Mj)
  (hY: ∀(w:World) (h:Heap),YP w h->(K w.params).In h)
  (F: ∀(w:World) (mg:Str->Option Value) (fa:Addr) (h:Heap),(K w.params).In h->h.Ns mainGlobals mg->mg d.name=some (.ref fa)→
   ∃fd:Gd,(∀(s:Af) (u:Value),Pp s fd ⟨[u],[]⟩ [(x,u)])∧
    ∀base:Heap,(K w.params).In base->base.Ns mainGlobals mg->aW l.prog w (K w.params) mg base (CX w) k fa fd [x] (sp w))
  (hsp: ∀(w:World) (H:Hp) (a:Addr) (ns:List Int),ns.length<=n->Only H->X1 (K w.params) H a (ns.map V.int)->sp w [.ref a] H (fun v _=>v= .bl true) fun _ _ _=>False)
  (hCX: ∀(w:World) (H:Hp) (s:Af) (e:Value) (s':Af),CX w [] H s (fun _ _ _=>False) e s'->False):
  W.WalkO q loose XP YP l.row.toRowW d [] (fun f vs=>Qv f vs):=by
 refine Att.JC hn hdf fun w s₀ s₁ mg mb fa o pm cd doc a vs ns G Y ho hd hcd hmg hobj hints ag hg=> ?_;have KX:=hY w _ Y;obtain⟨fd,hb,hF⟩:=F w mg fa _ KX G.T.g hmg;exact zAD KX G.T.g G.T.b G.T.builtins G.T.nolimit hg hobj hints (Cf ag hn2) hr hF hb (fun H hO hS=>hsp w H a ns ag hO hS) fun H e s'=>hCX w H s₁ e s'
theorem CJ{l:Rk}{n k:Nat}{q:Bq}{loose:List Str}{XP:(Str->Option Value)->Heap->Prop}{YP:World->Heap->Prop}{d:DefRec}{K:Pk->As}{CX:CXT}{sp:As->Sp}{x:Str}
  (hn:l.most=some n) (hn2:n<=sizeLine) (hdf:d.params.defaults=[]) (hr:XQ k Mj)
  (hY: ∀(w:World) (h:Heap),YP w h->(K w.params).In h)
  (F: ∀(w:World) (mg:Str->Option Value) (fa:Addr) (h:Heap),(K w.params).In h->h.Ns mainGlobals mg->mg d.name=some (.ref fa)→
   ∃fd:Gd,(∀(s:Af) (u:Value),Pp s fd ⟨[u],[]⟩ [(x,u)])∧
    ∀base:Heap,(K w.params).In base->base.Ns mainGlobals mg->aW l.prog w (K w.params) mg base CX k fa fd [x] (sp (K w.params)))
  (hsp: ∀(K:As) (H:Hp) (a:Addr) (ns:List Int),ns.length<=n->Only H->X1 K H a (ns.map V.int)->sp K [.ref a] H (fun v _=>v= .bl true) fun _ _ _=>False)
  (hCX: ∀(H:Hp) (s:Af) (e:Value) (s':Af),CX [] H s (fun _ _ _=>False) e s'->False):
  W.WalkO q loose XP YP l.row.toRowW d [] (fun f vs=>Qv f vs):=
 zBB (K:=K) (CX:=fun _=>CX) (sp:=fun w=>sp (K w.params)) hn hn2 hdf hr hY F (fun w H a ns h1 h2 h3=>hsp (K w.params) H a ns h1 h2 h3) fun _ H s e s'=>hCX H s e s'
def X9(s:Stmt):Arguments:=match s with
 | .FunctionDef _ a _ _ _ _ _ _ _ _=>a
 |_=>{posonlyargs:=[],args:=[],vararg:=none,kwonlyargs:=[],kw_defaults:=[],kwarg:=none,defaults:=[]}
def ZK(s:Stmt):List Stmt:=match s with
 | .FunctionDef _ _ b _ _ _ _ _ _ _=>b
 |_=>[]
def dF(s:Stmt):Scope:=match s with
 | .FunctionDef _ _ _ _ _ _ sc _ _ _=>sc
 |_=>{kind:= .function,names:=[],isGenerator:=false,isCoroutine:=false}
abbrev CX0:CXT:=fun _ _ _ _ _ _=>False
abbrev E0:XK:=fun _ _ _=>False
theorem zIL{X:Cx}:GW CX0 X E0:=fun _ _ _ _ _ _ _ h=>h.elim
structure W9(K:As)(x qual:Str)(st:Stmt)(f:Addr)(fd:Gd):Prop where
 ex: ∃(oc:Value) (od:Option Addr) (kV doc pm:Value) (an:Option Addr) (cdv ct:Value) (osl:Array (Option Value)),
  fd=Mc x qual (X9 st) (ZK st) (dF st) .none kV doc pm an cdv ct/\K.lookup f=some ⟨oc,od,.func fd,osl⟩/\Mu K cdv qual=true
 kp:Lx K (.ref f)=true
section
variable{P:Bq}{w:World}{K:As}{mg:Str->Option Value}{base:Heap}
theorem W9.ok{x qual:Str}{st:Stmt}{f:Addr}{fd:Gd}{N ps:List Str}{k:Nat}{sp:Sp}(F:W9 K x qual st f fd)(S:cW N ps (dF st))(len: ∀vs H Q E,sp vs H Q E->vs.length=ps.length)
  (cn: ∀(cdv:Value) (A:Cy) (outer:List Env) (s:Af) (H:Hp) (vs:List V) (Q:VK) (E:XK),XQ k (A.deeper (Kx qual (dF st) s.heap.objs.size f cdv))->sp vs H Q E→
   ∃t,QN (JI CX0 P w K mg base N qual (dF st) f cdv A outer s H E).nox (ZK st) t/\t {nx:=fun _ H'=>Q .non H',rt:=Q} (start N vs) H):aW P w K mg base CX0 (k+1) f fd ps sp:=by
 obtain⟨oc,od,kV,doc,pm,an,cdv,ct,osl,rfl,lk,hcd⟩:=F.ex;refine zJH lk hcd S len fun A outer s H vs Q E hr hsp=> ?_;obtain⟨t,h,q⟩:=cn cdv A outer s H vs Q E hr hsp;exact⟨t,h.nox,q⟩
theorem W9.binds{x qual:Str}{st:Stmt}{f:Addr}{fd:Gd}{ps:List Str}(F:W9 K x qual st f fd)
  (h: ∀(kV doc pm:Value) (an:Option Addr) (cdv ct:Value) (us:List Value),us.length=ps.length->bindArgs (Mc x qual (X9 st) (ZK st) (dF st) .none kV doc pm an cdv ct) ⟨us,[]⟩=pure (ps.zip us)):MJ K fd ps []:=by
 obtain⟨oc,od,kV,doc,pm,an,cdv,ct,osl,rfl,lk,hcd⟩:=F.ex;exact .all (h kV doc pm an cdv ct)
theorem zAX{x qual:Str}{st:Stmt}{f:Addr}{oc:Value}{od an:Option Addr}{osl:Array (Option Value)}{kV doc pm cdv ct:Value}(l:K.lookup f=some ⟨oc,od,.func (Mc x qual (X9 st) (ZK st) (dF st) .none kV doc pm an cdv ct),osl⟩)
  (c:Mu K cdv qual=true) (k:Lx K (.ref f)=true):W9 K x qual st f (Mc x qual (X9 st) (ZK st) (dF st) .none kV doc pm an cdv ct):=⟨⟨oc,od,kV,doc,pm,an,cdv,ct,osl,rfl,l,c⟩,k⟩
end
theorem zJD{A:Cy}{k:Nat}(hr:XQ k A):A.units+1<cLine:=My (Nat.add_le_add_left (by decide:1<=64) _) hr.units
section
variable{X:Cx}
theorem pv(i:Nat){x:Str}{pos:Pos}(hN:X.N[i]? =some x:=by rfl)(hv:Vis X.env.scope x:=by first|exact Md rfl|exact Kz (Md rfl)|exact Kz (Kz rfl))(hd:(x==("__debug__":Str))=false:=by decide)
  (hcd:(x==("__classdict__":Str))=false:=by decide):PE X (.Name x pos) (MD i):=HR hN hv hd hcd
end
theorem QV{A B:Prop}(h:B):if false=true then A else B:=by
 rw[if_neg De];exact h
theorem QW{A B:Prop}(h:A):if true=true then A else B:=by
 rw[if_pos rfl];exact h
def bR(H H':Hp):Prop:= ∀b o,H b=some o->H' b=some o
theorem bR.refl(H:Hp):bR H H:=fun _ _ h=>h
theorem bR.trans{H H1 H2:Hp}(a:bR H H1)(b:bR H1 H2):bR H H2:=fun c o h=>b c o (a c o h)
theorem bR.seq{K:As}{H H':Hp}{a:Addr}{xs:List V}(e:bR H H')(h:X1 K H a xs):X1 K H' a xs:=by
 rcases h with(h|⟨o,h⟩)|h
 ·exact .inl (.inl (e _ _ h))
 ·exact .inl (.inr ⟨o,e _ _ h⟩)
 ·exact .inr h
theorem LQ{env:Env}{f:Str×NameKind->List (Str×Addr)->Sem (ForInStep (List (Str×Addr)))}
  (hf: ∀n k r,f (n,k) r=if(k==Bp)=true then(cellOf env n>>=fun c=>pure (Cr ((n,c)::r))) else pure (Cr r)):
  ∀(names:List (Str×NameKind)) (cs:List (Str×Addr)),(∀y∈names,y.2= .free-> ∃c,env.cells.lookup y.1=some c)→
   ∃cl,forIn names cs f=(pure cl:Sem (List (Str×Addr)))/\(∀x c,cl.lookup x=some c->cs.lookup x=some c∨env.cells.lookup x=some c)∧
    (∀x c,cs.lookup x=some c-> ∃c',cl.lookup x=some c')/\ ∀x,(x,Bp)∈names-> ∃c,cl.lookup x=some c
 |[],cs,_=>⟨cs,rfl,fun _ _ e=> .inl e,fun _ c e=>⟨c,e⟩,fun _ h=>nomatch h⟩
 | (n,k) :: r,cs,h => by
  have hr: ∀y∈r,y.2= .free-> ∃c,env.cells.lookup y.1=some c:=fun y hy=>h y (Ah _ hy);by_cases hk:k= .free
  ·subst hk
   obtain⟨c,hc⟩:=h (n,.free) Ai rfl;have hc:env.cells.lookup n=some c:=hc;obtain⟨cl,e1,e2,e3,e4⟩:=LQ hf r ((n,c)::cs) hr;refine⟨cl,?_,fun x c' e=> ?_,fun x c' e=> ?_,fun x hx=> ?_⟩
   ·rw [Jd,hf,if_pos (show (Bp == Bp) = true by decide)]
    have ec:cellOf env n=pure c:=by unfold cellOf;rw[hc]
    rw[ec,pure_bind,pure_bind];exact e1
   ·rcases e2 x c' e with q|q
    ·by_cases hx:x=n
     ·subst hx
      rw[Dt] at q;cases q;exact .inr hc
     ·rw[Cj,beq_eq_false_iff_ne.mpr hx] at q
      exact .inl q
    ·exact .inr q
   ·by_cases hx:x=n
    ·subst hx
     exact e3 x c (Dt ..)
    ·refine e3 x c' ?_
     rw[Cj,beq_eq_false_iff_ne.mpr hx];exact e
   ·rcases Al.mp hx with q|q
    ·cases q
     exact e3 n c (Dt ..)
    ·exact e4 x q
  ·obtain⟨cl,e1,e2,e3,e4⟩:=LQ hf r cs hr
   refine⟨cl,?_,e2,e3,fun x hx=> ?_⟩
   ·have hb : ¬ (k == Bp) = true := by simpa using hk
    rw[Jd,hf,if_neg hb,pure_bind];exact e1
   ·rcases Al.mp hx with q|q
    ·cases q
     exact absurd rfl hk
    ·exact e4 x q
theorem QB{env:Env}{scope:Scope}(h: ∀y∈scope.names,y.2= .free-> ∃c,env.cells.lookup y.1=some c):
  ∃cl,closureFor scope env=pure cl/\(∀x c,cl.lookup x=some c->env.cells.lookup x=some c)/\ ∀x,(x,Bp)∈scope.names-> ∃c,cl.lookup x=some c:=by
 simp only[closureFor];obtain⟨cl,e1,e2,_,e4⟩:=LQ (env:=env) (f:=fun x r=>match x with
  |(name,kind)=>if(kind==Bp)=true then(cellOf env name>>=fun c=>pure (Cr ((name,c)::r))) else pure (Cr r)) (fun _ _ _=>rfl) scope.names [] h
 refine⟨cl,?_,fun x c e=> ?_,e4⟩
 ·first
   |exact e1
   |(refine Eq.trans (congrArg (fun m=>m>>=pure) e1) ?_;exact pure_bind _ _)
 ·rcases e2 x c e with q|q
  ·cases q
  ·exact q
def bO(ix:List Nat)(σ:St):St:=ix.map fun i=>(σ[i]?).join
def PTs(Y:Cx)(ifs:List Expr)(tt:TT):Prop:=
 ∀(aa:List (Addr×Obj)) (s:Af) (σ:St) (H:Hp) (Q:Bool->Hp->Prop),c6 Y aa σ H s->tt σ H Q→
  wpAny (model Y.prog Y.w) Y.A (forIn ifs true fun c r=>if r=true then do let ok<- isTrue c Y.env (eval c Y.env);pure (Cr ok) else pure (Cr r)) (TP Y aa σ Q) Y.xe s
def tYes:TT:=fun _ H Q=>Q true H
theorem zBZ{Y:Cx}:PTs Y [] tYes:=fun _ _ _ H _ I h=>wpAny_tests_nil ⟨H,I,h⟩
theorem zBY{Y:Cx}{c:Expr}{tt:TT}(h:PT Y c tt):PTs Y [c] tt:=fun aa s σ H Q I hw=>wpAny_tests_one (h aa s σ H Q I hw)
structure Blk(Y:Cx)(tg:Expr)(ifs:List Expr)(elt:Expr)(g:TG)(tt:TT)(te:TE):Prop where
 tg:PG Y tg g
 ts:PTs Y ifs tt
 el:PE Y elt te
theorem DF{prog:Bq}{w:World}{A:Cy}{s:Af}{elt bz iter:Expr}{ifs:List Expr}{scope:Scope}{pos:Pos}{it acc:Value}{env:Env}{R:Oh->Af->Prop}(I:Nat->Af->Prop)
  (turn : ∀ n s,I n s -> wpAny (model prog w) A (pyNext it) (fun r s₁ => match r with
   |none=>R (.ok .next) s₁
   | some v => wpAny (model prog w) A (Ep bz it v) (fun _ s₀ => wpAny (model prog w) A (Ex bz env v) (fun _ s₂ =>
     wpAny (model prog w) A (forIn ifs true fun c r=>if r=true then do let ok<- isTrue c env (eval c env);pure (Cr ok) else pure (Cr r)) (fun ok s₃=>if ok=true then wpAny (model prog w) A (eval elt env) (fun x s₄=>
      wpAny (model prog w) A (call (.builtin "list.append") [acc,x]) (fun _ s₅=> ∃m,m<n/\I m s₅) (fun _ _=>False) s₄) (fun _ _=>False) s₃
      else∃m,m<n/\I m s₃) (fun _ _=>False) s₂)
     (fun _ _=>False) s₀) (fun _ _=>False) s₁) (fun _ _=>False) s)
  (n:Nat) (h:I n s):Ga (model prog w) A (.compLoop (.ListComp elt [⟨bz,iter,ifs,0⟩] scope pos) 0 it acc env) R s:=by
 refine Oj rfl I (fun n s hI=> ?_) n h;show wpAny _ A ((Pf (.ListComp elt [⟨bz,iter,ifs,0⟩] scope pos) 0 it acc env).onRaise (fun x=>do Pr x env;Lq x)) _ _ s;refine Ps ?_;rw[compTurn_list];refine Ac (Dw (Ac (Az (turn n s hI) (fun r s₁ h₁=> ?_) fun _ _ h'=>h'.elim)));cases r with
 |none=>exact Aj h₁
 |some v=>
  refine Ac (Az h₁ (fun _ s₀ h₀'=> ?_) fun _ _ h'=>h'.elim);refine Ac (Az h₀' (fun _ s₂ h₂=> ?_) fun _ _ h'=>h'.elim);refine Ac (Az h₂ (fun okb s₃ h₃=> ?_) fun _ _ h'=>h'.elim);cases okb with
  |false=>exact Aj ⟨rfl,h₃⟩
  |true=>exact Ac (Ac (Az h₃ (fun x s₄ h₄=>Ac (Az h₄ (fun _ s₅ h₅=>Aj (Aj ⟨rfl,h₅⟩)) fun _ _ h'=>h'.elim)) fun _ _ h'=>h'.elim))
section
variable{X:Cx}{aa:List (Addr×Obj)}{σ:St}{H H':Hp}{s s1 s':Af}{h'':Heap}
theorem c6.offNew{σ':St}{H1:Hp}(I1:c6 X aa σ H1 s1)(I':c6 X aa σ' H' s')(hn:H' s1.heap.objs.size=none)(sb: ∀b o,b≠s1.heap.objs.size->s'.heap.get? b=some o->h''.get? b=some o):
  c6 X aa σ' H' {s' with heap:=h''}:=
 I'.turned (t':=s'.toks) (it:=s1.heap.objs.size) sb hn (Gg I1.lt) (.inr I1.sz)
  (fun x c e z => by
   obtain⟨v,q⟩:=I1.cell x c e;have:=q.lt;rw[z] at this;exact Bz _ this)
  fun p hp z=>by
   have:=An (I1.pin p hp).1;rw[z] at this;exact Bz _ this
end
def zDW(D:Addr)(ix:List Nat)(nl:Nat)(J:It)(g:TG)(tt:TT)(te:TE)(σ:St)(H0:Hp)(Q:Hp->Prop):Prop:=
 ∃W:Nat->Nat->List V->Hp->Prop,(∃m,W 0 m [] (bP H0 D (.lst [])))/\ ∀i m acc H1,W i m acc H1→
  (J.stop i H1/\Q H1)∨
  (J.go i H1/\ ∃N:List V->Hp->Prop,(∀ae H',N ae H'-> ∃m',m'<m/\W (i+1) m' ae H')∧
   ∀x H2,J.yld i H1 x H2->g x (bO ix σ++Bi nl none) H2 fun σ2 H3=>σ2.take ix.length=bO ix σ∧
    tt σ2 H3 fun b H4=>if b=true then te σ2 H4 fun v H5=>H5 D=some (.lst acc)/\acc.length<sizeLine/\N (acc++[v]) (bP H5 D (.lst (acc++[v]))) else N acc H4)
theorem WJ{env:Env}{x:Str}: ∀{l:List (Str×NameKind)},l.lookup x=some .free→
  (l.map fun(n,k)=>if(k==Bp && env.scope.kind== .function && env.kindOf n==some .cell) then(n,Bx) else(n,k)).lookup x=some .cell∨
  (l.map fun(n,k)=>if(k==Bp && env.scope.kind== .function && env.kindOf n==some .cell) then(n,Bx) else(n,k)).lookup x=some .free
 |[],h=>by cases h
 | (n,k) :: r,h => by
  show Mk x ((if(k==Bp && env.scope.kind== .function && env.kindOf n==some .cell)=true then(n,Bx) else(n,k))::_)=some .cell∨Mk x ((if(k==Bp && env.scope.kind== .function && env.kindOf n==some .cell)=true then(n,Bx) else(n,k))::_)=some .free;by_cases hx:x=n
  ·subst hx
   rw[Dt] at h;cases h;by_cases hc:(Bp==Bp && env.scope.kind== .function && env.kindOf x==some .cell)=true
   ·left
    rw[if_pos hc,Dt]
   ·right
    rw[if_neg hc,Dt]
  ·have hb:(x==n)=false:=beq_eq_false_iff_ne.mpr hx
   simp only[Cj,hb] at h;have ih:=WJ (env:=env) h;by_cases hc:(k==Bp && env.scope.kind== .function && env.kindOf n==some .cell)=true
   ·rw[if_pos hc]
    simp only[Cj,hb];exact ih
   ·rw[if_neg hc]
    simp only[Cj,hb];exact ih
def GD(ix:List Nat)(nl:Nat)(wi:TI)(g:TG)(tt:TT)(te:TE):TE:=fun σ H Q=>wi σ H fun J H0=> ∀D,H0 D=none->zDW D ix nl J g tt te σ H0 fun H'=>Q (.ref D) H'
mutual
inductive Dp(K:As)(H:Hp):V->Me->Prop
 |non:Dp K H .non .none
 |bl (b:Bool):Dp K H (.bl b) (.bool b)
 |int (i:Int):Dp K H (.int i) (.int i)
 |str (x:Str):Dp K H (.str x) (.str x)
 |lst {a:Addr} {xs:List V} {ds:List Me}:X1 K H a xs->N9 K H xs ds->Dp K H (.ref a) (.list ds)
 |tup {a:Addr} {xs:List V} {ds:List Me}:W4 K H a xs->N9 K H xs ds->Dp K H (.ref a) (.tuple ds)
inductive N9(K:As)(H:Hp):List V->List Me->Prop
 |nil:N9 K H [] []
 |cons {v:V} {vs:List V} {d:Me} {ds:List Me}:Dp K H v d->N9 K H vs ds->N9 K H (v::vs) (d::ds)
end
section
variable{X:Cx}{aa:List (Addr×Obj)}{σ:St}{H:Hp}{s:Af}
mutual
theorem c6.reads(I:c6 X aa σ H s): ∀{v:V} {d:Me} {u:Value},Dp X.K H v d->cL v u-> ∃as,Reads s.heap u d as
 |_,_,_,.non,r=>by cases r;exact⟨_,.none⟩
 |_,_,_,.bl b,r=>by cases r;exact⟨_,.bool b⟩
 |_,_,_,.int i,r=>by obtain⟨t,rfl⟩:=r;exact⟨_,.int i t⟩
 |_,_,_,.str x,r=>by obtain⟨t,rfl⟩:=r;exact⟨_,.str x t⟩
 |_,_,_,.lst q all,r=>by
  cases r;obtain⟨its,rv,⟨o,n,e,c,_,d⟩,_⟩:=I.list q;obtain⟨as,h⟩:=c6.readsAll I all rv;exact⟨_,.list e c d (by simpa using h)⟩
 |_,_,_,.tup q all,r=>by
  cases r;obtain⟨its,rv,⟨o,e,c,n,d⟩,_⟩:=I.tuple q;obtain⟨as,h⟩:=c6.readsAll I all rv;exact⟨_,.tuple e c d (by simpa using h)⟩
theorem c6.readsAll(I:c6 X aa σ H s): ∀{vs:List V} {ds:List Me} {us:List Value},N9 X.K H vs ds->cG vs us-> ∃as,ReadsAll s.heap us ds as
 |_,_,_,.nil,r=>by cases r;exact⟨_,.nil⟩
 | _,_,_,.cons h t,r => by
  cases r with
  |cons r1 r2=>
   obtain⟨as,h1⟩:=c6.reads I h r1;obtain⟨bs,h2⟩:=c6.readsAll I t r2;exact⟨_,.cons h1 h2⟩
end
end
def rEqD(K:As):R2:=fun x y H Q=> ∃d e,Dp K H x d/\Dp K H y e/\Eg d=true/\Eg e=true/\Q (.bl (Iu d e)) H
def rNeD(K:As):R2:=fun x y H Q=> ∃d e,Dp K H x d/\Dp K H y e/\Eg d=true/\Eg e=true/\Q (.bl (!PyData.eqv d e)) H
section
variable{X:Cx}
theorem zFL(hu:X.A.units+64<cLine):XO X (Df .Eq) (rEqD X.K):=by
 intro aa s σ H x y v u Q I rx ry h;obtain⟨d,e,hd,he,sd,se,q⟩:=h;obtain⟨as,h1⟩:=I.reads hd rx;obtain⟨bs,h2⟩:=I.reads he ry;exact eq_dataH h1 h2 sd se hu (HC I q rfl)
theorem zFJ(hu:X.A.units+64<cLine):XO X (Df .NotEq) (rNeD X.K):=by
 intro aa s σ H x y v u Q I rx ry h;obtain⟨d,e,hd,he,sd,se,q⟩:=h;obtain⟨as,h1⟩:=I.reads hd rx;obtain⟨bs,h2⟩:=I.reads he ry;exact ne_dataH h1 h2 sd se hu (HC I q rfl)
def rngP(p:Addr)(a b c:Int):Heap->Prop:=fun h=> ∃t u v,IsRange h p a b c t u v
inductive MM:List Li->List (Str×V)->Prop
 |nil:MM [] []
 |cons {e:Li} {es:List Li} {x:Str} {t:Tok} {v:V} {D:List (Str×V)}:e.key= .str x t->cL v e.val->MM es D->MM (e::es) ((x,v)::D)
def KTab(K:As)(a:Addr)(D:List (Str×V)):Prop:=
 (a==Fm)=false/\ ∃o es ep,K.lookup a=some o/\o.ExactDict/\o.data= .dict es ep/\MM es.toList D
theorem MM.rows{es:List Li}{D:List (Str×V)}(h:MM es D):KTD.Rows cL es D:=by
 induction h with
 |nil=>exact .nil
 |cons h1 h2 _ ih=>exact .cons h1 h2 ih
theorem JT{A:Cy}{E:Value->Af->Prop}{s:Af}{K:As}{prog:Bq}{w:World}{a:Addr}{D:List (Str×V)}{k:Str}{tk:Tok}{Q:Option Value->Af->Prop}(hK:K.In s.heap)(T:KTab K a D)
  (h1: ∀d v,Fk k D=some d->cL d v->Q (some v) {s with toks:=s.toks+1}) (h2:Fk k D=none->Q none {s with toks:=s.toks+1}):
  wpAny (model prog w) A (dictGet a (.str k tk)) Q E s:=by
 obtain⟨_,o,es,ep,ho,hc,hd,hr⟩:=T;have ho:=hK _ _ ho;have hr:=hr.rows;unfold dictGet;try with_reducible refine Ce ?_
 refine Ac (wpAny_pyHash_str (Ac (KTD.kt_dictFind_strs (s:={s with toks:=s.toks+1}) ho hd (by obtain⟨l⟩:=es;simpa using hr.exact) ?_)));have hq:Q (findBy (fun k v=>v.isStr k) es k) {s with toks:=s.toks+1}:=by
  have hf:findBy (fun k v=>v.isStr k) es k=(es.toList.find? fun e=>e.key.isStr k).map (·.val):=by
   obtain⟨l⟩:=es;simp[findBy]
  rw[hf];cases hat:Fk k D with
  |some d=>obtain⟨v,hv,hfl⟩:=hr.find_some hat;rw[hv];exact h1 d v hat hfl
  |none=>rw[hr.find_none hat];exact h2 hat
 rw[findBy_of_findIdx?] at hq;cases hi:es.findIdx? fun e=>e.key.isStr k with
 |none=>rw[hi] at hq;exact Aj hq
 |some i=>rw[hi] at hq;exact Ac (wpAny_dictEntries (s:={s with toks:=s.toks+1}) ho hd (Aj hq))
theorem zCV:C0 X (fun x y H Q=> ∃a k D v,x= .ref a/\y= .str k/\KTab X.K a D/\Fk k D=some v/\Q v H):=by
 intro value slice aa s σ H x y v u Q I rx ry h hs;obtain⟨a,k,D,d,rfl,rfl,T,hk,q⟩:=h;cases rx;obtain⟨t,rfl⟩:=ry;have hT:s.TypeIs (.ref a) "dict":=by
  obtain⟨_,o,es,ep,ho,hc,_⟩:=T;exact⟨o,I.kIn _ _ ho,hc.1⟩
 have main:wpAny (model X.prog X.w) X.A (Km (.ref a) (.str k t)) (EP X aa σ Q) X.xe s:=by
  unfold Km;try with_reducible refine Ce ?_
  refine Ac (Jz hT (by decide) ?_);refine Ac (Dh (name:=Aw "__getitem__") hT Ju
   (Ec Ju hT PySem.F.entry_dict_getitem ?_ (PySem.F.args_dict_getitem_2 _ _)))
  show wpAny _ _ (dictGet a (.str k t)>>=_) _ _ s;exact Ac (JT I.kIn T (fun d' v' ha hv=>Aj ⟨v',rfl,Aj (by
   rw[hk] at ha;cases ha;exact⟨d,H,I.tok _,hv,q⟩)⟩) fun hn=>by rw[hk] at hn;cases hn)
 exact Ra hT PySem.F.slot_dict_getitem.lookup main hs
end
section
variable{prog:Bq}{w:World}{A:Cy}{E:Value->Af->Prop}{s:Af}
theorem MW{it t:Addr}{items:Array Value}(hne:t≠it): ∀(n i:Nat) (s:Af) (Q:List Value->Af->Prop),s.heap.IsListIter it t i->s.heap.IsList t items->i+n<=items.size→
  (∀h',h'.IsListIter it t (i+n)->Fb it s.heap h'->Q ((items.toList.drop i).take n) {s with heap:=h'})->wpAny (model prog w) A (draw (.ref it) n) Q E s
 |0,i,s,Q,hit,_,_,hQ=>by
  show wpAny _ _ (pure []) Q E s;exact Aj (by simpa using hQ s.heap hit (Heap.SameBut.refl ..))
 |n+1,i,s,Q,hit,ht,hle,hQ=>by
  have hlt:i<items.size:=by lia
  show wpAny _ _ (pyNext (.ref it)>>=_) Q E s;refine Ac (Hs hit ht (x:=items[i]) (by simp[hlt]) fun h₁ hit₁ hs₁=> ?_);refine Ac (Ce (MW hne n (i+1) _ _ hit₁ (ht.extBut hs₁.extBut hne) (by lia) fun h₂ hit₂ hs₂=>Aj ?_));have hd:items.toList.drop i=items[i]::items.toList.drop (i+1):=by simp[Cw,hlt]
  have:=hQ h₂ (by rw[show i+(n+1)=i+1+n by lia];exact hit₂) (hs₁.trans hs₂);rw[hd,Je] at this;exact this
theorem SD{t:Addr}{items:Array Value}{Q:List Value->Af->Prop}(hh:A.handled=none)(ht:s.heap.IsList t items)
  (hQ: ∀h',Jf s.heap.objs.size s.heap h'->Q items.toList {s with heap:=h'}):wpAny (model prog w) A (Iy (.ref t) items.size none) Q E s:=by
 have hlt:t≠s.heap.objs.size:=by obtain⟨o,ho,_⟩:=ht;exact Be (An ho)
 unfold Iy;refine Ac ?_
 ·unfold notIterableAtAll
  refine Ac (wpAny_specialOf ht.typeIs PySem.F.slot_list_iter.lookup ?_);refine Aj ?_;simp only[Dk,if_false];refine Ac (Ce (Em ht ?_));have htp:(s.heap.push {cls:= .type "list_iterator",data:= .fields #[.ref t,.int 0 0]}).IsList t items:=by
   obtain⟨o,ho,r⟩:=ht;exact⟨o,Ad _ ho,r⟩
  refine Ac (Ce (MW hlt items.size 0 _ _ ⟨_,Au _ rfl,rfl,rfl⟩ htp (by lia) fun h₁ hit₁ hs₁=> ?_));have ja:List.take items.size (List.drop 0 items.toList)=items.toList:=by rw[Jv];exact Ca (by simp)
  rw[ja];rw[if_neg (by simp)];have ht₁:h₁.IsList t items:=htp.extBut hs₁.extBut hlt;refine Ac (Ce (Ic hh hit₁ ht₁ (by simp) fun h₂ he₂=> ?_));simp only[Option.isSome_none,Dk,if_false];refine Aj (hQ h₂ fun b o hb e=>he₂ b o hb (hs₁.extBut b o hb (Ad _ e)))
theorem SI{env:Env}{ii:List Expr}{x1}{pos:Pos}{t:Addr}{items:Array Value}{Q:Unit->Af->Prop}(hh:A.handled=none)(ht:s.heap.IsList t items)
  (hn:(assignEach ii env).length=items.size) (lq:(assignEach ii env).findIdx? (·.1)=none)
  (h: ∀h',Jf s.heap.objs.size s.heap h'->wpAny (model prog w) A (assignInOrder ((assignEach ii env).map (·.2)) items.toList) Q E {s with heap:=h'}):
  wpAny (model prog w) A (Ex (.Tuple ii x1 pos) env (.ref t)) Q E s:=by
 rw[assign_Tuple];refine Ac (Dw ?_);unfold unpack;rw[hn,lq];exact Ac (Ce (SD hh ht h))
end
section
variable{X:Cx}{pos:Pos}
def gLst(K:As)(n:Nat)(t:C6):TG:=fun v σ H Q=> ∃a xs,v= .ref a/\X1 K H a xs/\xs.length=n/\t xs σ H Q
theorem zF8{es:List Expr}{k:Nat}{t:C6}{n:Nat}(hc:X.calm=true)(h:EU X es t)
  (hn:(assignEach es X.env).length=n:=by rfl) (hst:(assignEach es X.env).findIdx? (·.1)=none:=by rfl):PG X (.Tuple es k pos) (gLst X.K n t):=by
 intro aa s σ H v u Q I r hw;obtain⟨a,xs,e1,hq,hl,hw⟩:=hw;subst e1;cases r;obtain⟨its,rv,ht,hz⟩:=I.list hq;refine SI (I.ok.hd hc) ht.isList (by simp[hn,<- hl,rv.length]) hst fun h' hx=> ?_;have I1:c6 X aa σ H {s with heap:=h'}:=I.kept (t':=s.toks) fun b o e=>hx b o (Be (An e)) e;exact h aa _ σ H xs _ Q I1 (by simpa using rv) hw
end
section
variable{X:Cx}{K:As}
theorem zJ5(h:X.K=K):a8 X (.type "list") (fun xs H Q=> ∃p ys,xs=[.ref p]/\(X1 K H p ys∨W4 K H p ys)/\ ∀l,H l=none->Q (.ref l) (bP H l (.lst ys))):=by subst h;exact LM
theorem zGO(h:X.K=K):a8 X (.type "tuple") (fun xs H Q=> ∃p ys,xs=[.ref p]/\((X1 K H p ys/\ ∀l,H l=none->Q (.ref l) (bP H l (.tup ys)))∨(W4 K H p ys/\Q (.ref p) H))):=by subst h;exact N0
theorem kEqD(h:X.K=K)(hu:X.A.units+64<cLine):XO X (Df .Eq) (rEqD K):=by subst h;exact zFL hu
theorem RQ(h:X.K=K)(hu:X.A.units+64<cLine):XO X (Df .NotEq) (rNeD K):=by subst h;exact zFJ hu
theorem zAK(h:X.K=K){es:List Expr}{k:Nat}{t:C6}{n:Nat}{pos:Pos}(hc:X.calm=true)(hg:EU X es t)(hn:(assignEach es X.env).length=n:=by rfl)(hst:(assignEach es X.env).findIdx? (·.1)=none:=by rfl):PG X (.Tuple es k pos) (gTup K n t):=by subst h;exact zF7 hc hg hn hst
theorem zJ4(h:X.K=K){es:List Expr}{k:Nat}{t:C6}{n:Nat}{pos:Pos}(hc:X.calm=true)(hg:EU X es t)(hn:(assignEach es X.env).length=n:=by rfl)(hst:(assignEach es X.env).findIdx? (·.1)=none:=by rfl):PG X (.Tuple es k pos) (gLst K n t):=by subst h;exact zF8 hc hg hn hst
theorem zAJ(h:X.K=K){tg l:Expr}{tl:TE}(hl:PE X l tl):PI X tg l (zDS K tl):=by subst h;exact zC5 hl
theorem zDP(h:X.K=K){tg l:Expr}{tl:TE}(hl:PE X l tl):PI X tg l (iTup K tl):=by subst h;exact zF6 hl
theorem kBm(h:X.K=K){o e:Expr}{es:List Expr}{to:TE}{t:TA}{name:Str}{am af:Pos}{T id:String}{r:V->List V->Hp->VK->Prop}(pa:PlainAttrs T)(slot:Slot T name id)(hty:typeOf (.builtin id)=pure (.type "method_descriptor")) (hm:MtR X id r) (ho:PE X o to) (ha:PA X (e::es) t)
  (cp:Hi o name X.env (eval o X.env)=eval o X.env:=by rfl)
  (eg : ((Fw af (Ak (e :: es) X.env)).all (fun x => !x.1) && (Mw af (Ja [] X.env)).all (fun x => x.1.isSome)
   && decide ((e::es).length+([]:List Jb).length+(if([]:List Jb).isEmpty then 0 else 1)<30))=true:=by rfl)
  (cg:(am.endLine==af.line)=true:=by rfl) (hs:Ak (e::es) X.env=(false,eval e X.env)::Ak es X.env:=by rfl) (bn:(Fw af (Ak es X.env)).any (·.1)=false:=by rfl):
  PE X (.Call (.Attribute o name am) (e::es) [] af) (tBM K T r to t):=by
 subst h;exact zIJ pa slot hty hm ho ha cp eg cg hs bn
end
theorem zB6:Bj "len"=some (.builtin "len"):=by decide+kernel
theorem zH1:Bj "min"=some (.builtin "min"):=by decide+kernel
theorem zH2:Bj "max"=some (.builtin "max"):=by decide+kernel
theorem RE:Bj "sorted"=some (.builtin "sorted"):=by decide+kernel
theorem NY:Bj "isinstance"=some (.builtin "isinstance"):=by decide+kernel
theorem P9:Bj "list"=some (.type "list"):=by decide+kernel
theorem ZQ:Bj "tuple"=some (.type "tuple"):=by decide+kernel
theorem zB5:Bj "range"=some (.type "range"):=by decide+kernel
theorem zD4:Bj "bool"=some (.type "bool"):=by decide+kernel
theorem zH3:Bj "int"=some (.type "int"):=by decide+kernel
theorem zH0:Bj "str"=some (.type "str"):=by decide+kernel
structure Def(P:Bq)(w:World)(K:As)(mg:Str->Option Value)(base:Heap)(x:Str)(k:Nat)(ps:List Str)(sp:Sp)(f:Addr):Prop where
 at_:mg x=some (.ref f)
 ok: ∃fd,aW P w K mg base CX0 k f fd ps sp/\MJ K fd ps []
 kp:Lx K (.ref f)=true
section
variable{X:Cx}{x:Str}{k j:Nat}{ps:List Str}{sp:Sp}{f:Addr}{p pos:Pos}{e:Expr}{es:List Expr}{t:TA}
theorem AF(D:Def X.prog X.w X.K X.mg X.base x k ps sp f)(hr:XQ j X.A)(hk:k<=j)(hg:Gl X x)(ha:PA X (e::es) t)(hdb:(x==("__debug__":Str))=false:=by decide)
  (he:Ak (e::es) X.env=(false,eval e X.env)::Ak es X.env:=by rfl) (hpl:(Fw pos (Ak es X.env)).any (·.1)=false:=by rfl):
  PE X (.Call (.Name x p) (e::es) [] pos) (BW sp [] E0 t):=by
 obtain⟨fd,F,B⟩:=D.ok;exact zCA F (hr.mono hk) hg D.at_ D.kp B .nil zIL ha hdb he hpl
end
theorem dJ{H:Hp}{p:Addr}{o:HO}(hp:H p=none):bR H (bP H p o):=fun b o' e=>by
 rw[cE (YL e hp)];exact e
theorem KQ(ns:List Int):Eg (.list (ns.map Nx))=true:=by
 have h1:Fz (.list (ns.map Nx))=true:=by simp only[Fz,canLayAll_ints]
 have h2:Ii (.list (ns.map Nx))<=64:=by
  simp only[Ii,depthAll_ints];decide
 unfold Eg;rw[h1,decide_eq_true h2];rfl
inductive dP where
 |non|bl (b:Bool)|int (i:Int)|str (x:Str)|ty (n:String)|fn (x:Str)|tup (ds:List dP)|lst (ds:List dP)|dct (ks:List b9) (ds:List dP)|exn (x:Str)|exr (x n:Str) (d:dP)
def FzL(K:As)(H:Hp)(a:Addr)(xs:List V):Prop:=
 (∃o,H a=some (.frz o (.lst xs)))∨
  ∃(o:Obj) (its:Array Value) (n:Nat),K.lookup a=some o/\o.cls= .type "list" /\o.dict=none/\o.data= .seq its n/\its.size<=sizeLine/\cG xs its.toList
theorem FzL.sq{K:As}{H:Hp}{a:Addr}{xs:List V}(h:FzL K H a xs):X1 K H a xs:=by
 rcases h with⟨o,h⟩|h
 ·exact .inl (.inr ⟨o,h⟩)
 ·exact .inr h
def zJU(h:Heap)(a C:Addr):Prop:= ∃o vs,h.get? a=some o/\o.cls= .ref C/\o.data= .fields vs
def zHA(h:Heap)(a C D:Addr):Prop:= ∃o vs,h.get? a=some o/\o.cls= .ref C/\o.data= .fields vs/\o.dict=some D
mutual
inductive b6(K:As)(N:Addr->Prop)(H:Hp):(Addr->Prop)->V->dP->Prop
 |non {M:Addr->Prop}:b6 K N H M .non .non
 |bl {M:Addr->Prop} (b:Bool):b6 K N H M (.bl b) (.bl b)
 |int {M:Addr->Prop} (i:Int):b6 K N H M (.int i) (.int i)
 |str {M:Addr->Prop} (x:Str):b6 K N H M (.str x) (.str x)
 |ty {M:Addr->Prop} (n:String):b6 K N H M (.ty n) (.ty n)
 |fn {M:Addr->Prop} {a:Addr} {x:Str}:Ol K mainGlobals x=some (some (.ref a))->b6 K N H M (.ref a) (.fn x)
 |tup {M:Addr->Prop} {a:Addr} {xs:List V} {ds:List dP}:W4 K H a xs->cY K N H xs ds->b6 K N H M (.ref a) (.tup ds)
 |lst {M:Addr->Prop} {a:Addr} {xs:List V} {ds:List dP}:H a=some (.lst xs)-> ¬M a->cY K N H xs ds->b6 K N H M (.ref a) (.lst ds)
 |fzl {M:Addr->Prop} {a:Addr} {xs:List V} {ds:List dP}:FzL K H a xs->cY K N H xs ds->b6 K N H M (.ref a) (.lst ds)
 |dct {M:Addr->Prop} {a:Addr} {kvs:List (b9×V)} {ds:List dP}:H a=some (.dK kvs)-> ¬M a->cY K N H (kvs.map Du) ds->b6 K N H M (.ref a) (.dct (kvs.map Ct) ds)
 |ktb {M:Addr->Prop} {a:Addr} {D:List (Str×V)} {ds:List dP}:KTab K a D->cY K N H (D.map Du) ds->b6 K N H M (.ref a) (.dct (D.map fun p=> .inr p.1) ds)
 |exn {M:Addr->Prop} {a C:Addr} {x:Str} {φ:Heap->Prop}:Ol K mainGlobals x=some (some (.ref C))->H a=some (.ext φ)->(∀h,φ h->zJU h a C)->b6 K N H M (.ref a) (.exn x)
 |exr {M:Addr->Prop} {a C D:Addr} {x n:Str} {φ:Heap->Prop} {v:V} {d:dP}:Ol K mainGlobals x=some (some (.ref C))->H a=some (.ext φ)->(∀h,φ h->zHA h a C D)->H D=some (.xd [(n,v)])->b6 K N H N v d->b6 K N H M (.ref a) (.exr x n d)
inductive cY(K:As)(N:Addr->Prop)(H:Hp):List V->List dP->Prop
 |nil:cY K N H [] []
 |cons {v:V} {vs:List V} {d:dP} {ds:List dP}:b6 K N H N v d->cY K N H vs ds->cY K N H (v::vs) (d::ds)
end
def Hard:HO->Prop
 | .tup _=>True
 | .frz _ _=>True
 | .ext _=>True
 | .xd _=>True
 |_=>False
def Fr(P:Addr->Prop)(H H':Hp):Prop:= ∀b o,H b=some o->(P b->Hard o)->H' b=some o
theorem Fr.refl(P:Addr->Prop)(H:Hp):Fr P H H:=fun _ _ h _=>h
theorem Fr.trans{P:Addr->Prop}{H H1 H2:Hp}(a:Fr P H H1)(b:Fr P H1 H2):Fr P H H2:=fun c o h n=>b c o (a c o h n) n
theorem Fr.mono{P P':Addr->Prop}{H H':Hp}(a:Fr P H H')(h: ∀b,P b->P' b):Fr P' H H':=fun c o e n=>a c o e fun z=>n (h c z)
theorem bR.fr{P:Addr->Prop}{H H':Hp}(a:bR H H'):Fr P H H':=fun c o h _=>a c o h
section
variable{K:As}{N N' M M' P:Addr->Prop}{H H':Hp}
theorem Fr.tup(f:Fr P H H'){a:Addr}{xs:List V}(h:W4 K H a xs):W4 K H' a xs:=by
 rcases h with(h|⟨o,h⟩)|h
 ·exact .inl (.inl (f _ _ h fun _=>trivial))
 ·exact .inl (.inr ⟨o,f _ _ h fun _=>trivial⟩)
 ·exact .inr h
theorem Fr.fzl(f:Fr P H H'){a:Addr}{xs:List V}(h:FzL K H a xs):FzL K H' a xs:=by
 rcases h with⟨o,h⟩|h
 ·exact .inl ⟨o,f _ _ h fun _=>trivial⟩
 ·exact .inr h
theorem b6.fr(f:Fr P H H')(hN: ∀a,P a->N a){M:Addr->Prop}{v:V}{d:dP}(hM: ∀a,P a->M a)(h:b6 K N H M v d):b6 K N H' M v d:=
 b6.rec (motive_1:=fun M v d _=>(∀a,P a->M a)->b6 K N H' M v d) (motive_2:=fun vs ds _=>cY K N H' vs ds) (fun _=> .non) (fun b _=> .bl b) (fun i _=> .int i) (fun x _=> .str x) (fun n _=> .ty n) (fun q _=> .fn q) (fun q _ r _=> .tup (f.tup q) r)
  (fun q n _ r hM=> .lst (f _ _ q fun z=>absurd (hM _ z) n) n r) (fun q _ r _=> .fzl (f.fzl q) r) (fun q n _ r hM=> .dct (f _ _ q fun z=>absurd (hM _ z) n) n r) (fun q _ r _=> .ktb q r) (fun p q r _=> .exn p (f _ _ q fun _=>trivial) r)
  (fun p q r s _ t _=> .exr p (f _ _ q fun _=>trivial) r (f _ _ s fun _=>trivial) (t hN)) .nil (fun _ _ a b=> .cons (a hN) b) h hM
theorem cY.map{K':As}{N':Addr->Prop}{H':Hp}(g: ∀{v d},b6 K N H N v d->b6 K' N' H' N' v d): ∀{vs:List V} {ds:List dP},cY K N H vs ds->cY K' N' H' vs ds:=by
 intro vs;induction vs with
 |nil=>intro ds h;cases h;exact .nil
 |cons v vs ih=>intro ds h;cases h with|cons a b=>exact .cons (g a) (ih b)
theorem cY.fr(f:Fr P H H')(hN: ∀a,P a->N a){vs:List V}{ds:List dP}(h:cY K N H vs ds):cY K N H' vs ds:=h.map fun r=>r.fr f hN hN
theorem b6.mono(hN: ∀a,N' a->N a){M M':Addr->Prop}{v:V}{d:dP}(hM: ∀a,M' a->M a)(h:b6 K N H M v d):b6 K N' H M' v d:=
 b6.rec (motive_1:=fun M v d _=> ∀M',(∀a,M' a->M a)->b6 K N' H M' v d) (motive_2:=fun vs ds _=>cY K N' H vs ds) (fun _ _=> .non) (fun b _ _=> .bl b) (fun i _ _=> .int i) (fun x _ _=> .str x) (fun n _ _=> .ty n) (fun q _ _=> .fn q) (fun q _ r _ _=> .tup q r)
  (fun q n _ r _ hM=> .lst q (fun z=>n (hM _ z)) r) (fun q _ r _ _=> .fzl q r) (fun q n _ r _ hM=> .dct q (fun z=>n (hM _ z)) r) (fun q _ r _ _=> .ktb q r) (fun p q r _ _=> .exn p q r) (fun p q r s _ t _ _=> .exr p q r s (t _ hN)) .nil (fun _ _ a b=> .cons (a _ hN) b) h M' hM
theorem cY.mono(hN: ∀a,N' a->N a){vs:List V}{ds:List dP}(h:cY K N H vs ds):cY K N' H vs ds:=h.map fun r=>r.mono hN hN
theorem b6.same(f:bR H H'){v:V}{d:dP}(h:b6 K N H M v d):b6 K N H' M v d:=h.fr f.fr (fun _ z=>z.elim) (P:=fun _=>False) fun _ z=>z.elim
theorem cY.same(f:bR H H'){vs:List V}{ds:List dP}(h:cY K N H vs ds):cY K N H' vs ds:=h.fr f.fr (P:=fun _=>False) fun _ z=>z.elim
theorem cY.length: ∀{vs:List V} {ds:List dP},cY K N H vs ds->vs.length=ds.length
 |_,_,.nil=>rfl
 |_,_,.cons _ t=>congrArg (· +1) (cY.length t)
theorem cY.append: ∀{vs ws:List V} {ds es:List dP},cY K N H vs ds->cY K N H ws es->cY K N H (vs++ws) (ds++es)
 |_,_,_,_,.nil,s=>s
 |_,_,_,_,.cons h t,s=> .cons h (cY.append t s)
theorem cY.get: ∀{vs:List V} {ds:List dP} {i:Nat} {d:dP},cY K N H vs ds->ds[i]? =some d-> ∃v,vs[i]? =some v/\b6 K N H N v d
 |_,_,_,_,.nil,e=>by simp at e
 |_,_,0,_,.cons r _,e=>by simp at e;subst e;exact⟨_,rfl,r⟩
 |_,_,i+1,x,.cons _ t,e=>by
  obtain⟨u,h1,h2⟩:=cY.get (i:=i) (d:=x) t (by simpa using e);exact⟨u,by simpa using h1,h2⟩
theorem cY.take: ∀{vs:List V} {ds:List dP} (n:Nat),cY K N H vs ds->cY K N H (vs.take n) (ds.take n)
 |_,_,0,_=> .nil
 |_,_,_+1,.nil=> .nil
 |_,_,n+1,.cons r t=> .cons r (cY.take n t)
theorem cY.drop: ∀{vs:List V} {ds:List dP} (n:Nat),cY K N H vs ds->cY K N H (vs.drop n) (ds.drop n)
 |_,_,0,r=>r
 |_,_,_+1,.nil=> .nil
 |_,_,n+1,.cons _ t=>cY.drop n t
theorem cY.snoc{vs:List V}{ds:List dP}{v:V}{d:dP}(r:cY K N H vs ds)(h:b6 K N H N v d):cY K N H (vs++[v]) (ds++[d]):=r.append (.cons h .nil)
end
mutual
def dP.isD:dP->Bool
 | .non=>true
 | .bl _=>true
 | .int _=>true
 | .str _=>true
 | .ty _=>false
 | .fn _=>false
 | .tup ds=>JO ds
 | .lst ds=>JO ds
 | .dct _ _=>false
 | .exn _=>false
 | .exr _ _ _=>false
def JO:List dP->Bool
 |[]=>true
 |d::ds=>d.isD && JO ds
end
mutual
def dP.pd:dP->Me
 | .non=> .none
 | .bl b=> .bool b
 | .int i=> .int i
 | .str x=> .str x
 | .ty _=> .none
 | .fn _=> .none
 | .tup ds=> .tuple (CV ds)
 | .lst ds=> .list (CV ds)
 | .dct _ _=> .none
 | .exn _=> .none
 | .exr _ _ _=> .none
def CV:List dP->List Me
 |[]=>[]
 |d::ds=>d.pd::CV ds
end
mutual
def dP.hard:dP->Bool
 | .tup ds=>U7 ds
 | .lst _=>false
 | .dct _ _=>false
 | .exr _ _ _=>false
 |_=>true
def U7:List dP->Bool
 |[]=>true
 |d::ds=>d.hard && U7 ds
end
section
variable{K:As}{N:Addr->Prop}{H:Hp}
theorem b6.dp{M:Addr->Prop}{v:V}{d:dP}(h:b6 K N H M v d)(e:d.isD=true):Dp K H v d.pd:=
 b6.rec (motive_1:=fun M v d _=>d.isD=true->Dp K H v d.pd) (motive_2:=fun vs ds _=>JO ds=true->N9 K H vs (CV ds)) (fun _=> .non) (fun b _=> .bl b) (fun i _=> .int i) (fun x _=> .str x) (fun _ h=>nomatch h) (fun _ h=>nomatch h) (fun q _ r h=> .tup q (r h))
  (fun q _ _ r h=> .lst (X1.of q) (r h)) (fun q _ r h=> .lst q.sq (r h)) (fun _ _ _ _ h=>nomatch h) (fun _ _ _ h=>nomatch h) (fun _ _ _ h=>nomatch h) (fun _ _ _ _ _ _ h=>nomatch h) (fun _=> .nil) (fun _ _ a b e=> .cons (a (Di.mp e).1) (b (Di.mp e).2)) h e
theorem b6.hard{N':Addr->Prop}{M M':Addr->Prop}{v:V}{d:dP}(h:b6 K N H M v d)(e:d.hard=true):b6 K N' H M' v d:=
 b6.rec (motive_1:=fun M v d _=> ∀M',d.hard=true->b6 K N' H M' v d) (motive_2:=fun vs ds _=>U7 ds=true->cY K N' H vs ds) (fun _ _=> .non) (fun b _ _=> .bl b) (fun i _ _=> .int i) (fun x _ _=> .str x) (fun n _ _=> .ty n) (fun q _ _=> .fn q) (fun q _ r _ h=> .tup q (r h))
  (fun _ _ _ _ _ h=>nomatch h) (fun _ _ _ _ h=>nomatch h) (fun _ _ _ _ _ h=>nomatch h) (fun _ _ _ _ h=>nomatch h) (fun p q r _ _=> .exn p q r) (fun _ _ _ _ _ _ _ h=>nomatch h) (fun _=> .nil) (fun _ _ a b e=> .cons (a _ (Di.mp e).1) (b (Di.mp e).2)) h M' e
theorem cY.hard{N':Addr->Prop}: ∀{vs:List V} {ds:List dP},cY K N H vs ds->U7 ds=true->cY K N' H vs ds:=by
 intro vs;induction vs with
 |nil=>intro ds h _;cases h;exact .nil
 |cons v vs ih=>intro ds h e;cases h with|cons a b=>exact .cons (a.hard (Di.mp e).1) (ih b (Di.mp e).2)
end
inductive Sl where
 |no|va (d:dP)|ow (d:dP)
abbrev Ev:=List Sl
structure Bs where
 Z:Addr->Prop
 P:Addr->Prop
 H0:Hp
 mu:Nat->Option Addr
 kp:List (V×dP)
def Nn(B:Bs)(O:Nat->Option Addr):Addr->Prop:=fun a=>B.Z a∨ ∃i,O i=some a
def OA(O:Nat->Option Addr):Addr->Prop:=fun a=> ∃i,O i=some a
inductive P7(K:As)(N:Addr->Prop)(H:Hp)(a:Addr):dP->Prop
 |lst {xs:List V} {ds:List dP}:H a=some (.lst xs)->cY K N H xs ds->P7 K N H a (.lst ds)
 |dct {kvs:List (b9×V)} {ds:List dP}:H a=some (.dK kvs)->cY K N H (kvs.map Du) ds->P7 K N H a (.dct (kvs.map Ct) ds)
theorem P7.fr{K:As}{N P:Addr->Prop}{H H':Hp}{a:Addr}{d:dP}(f:Fr P H H')(hN: ∀a,P a->N a)(ha: ¬P a):P7 K N H a d->P7 K N H' a d
 | .lst q r=> .lst (f _ _ q fun z=>absurd z ha) (r.fr f hN)
 | .dct q r=> .dct (f _ _ q fun z=>absurd z ha) (r.fr f hN)
theorem P7.mono{K:As}{N N':Addr->Prop}{H:Hp}{a:Addr}{d:dP}(h: ∀b,N' b->N b):P7 K N H a d->P7 K N' H a d
 | .lst q r=> .lst q (r.mono h)
 | .dct q r=> .dct q (r.mono h)
theorem P7.soft{K:As}{N:Addr->Prop}{H:Hp}{a:Addr}{d:dP}(h:P7 K N H a d): ∃o,H a=some o/\¬Hard o:=by
 cases h with
 |lst q _=>exact⟨_,q,fun z=>z⟩
 |dct q _=>exact⟨_,q,fun z=>z⟩
theorem P7.rep{K:As}{N M:Addr->Prop}{H:Hp}{a:Addr}{d:dP}(h:P7 K N H a d)(hM: ¬M a):b6 K N H M (.ref a) d:=by
 cases h with
 |lst q r=>exact .lst q hM r
 |dct q r=>exact .dct q hM r
structure bB(K:As)(ml:List Nat)(B:Bs)(O:Nat->Option Addr)(H:Hp)(σ:St)(δ:Ev):Prop where
 len:σ.length=δ.length
 va: ∀(i:Nat) (d:dP),δ[i]? =some (Sl.va d)-> ∃v,σ[i]? =some (some v)/\b6 K (Nn B O) H (Nn B O) v d
 ow: ∀(i:Nat) (d:dP),δ[i]? =some (Sl.ow d)-> ∃a,O i=some a/\σ[i]? =some (some (.ref a))/\P7 K (Nn B O) H a d
 dom: ∀(i:Nat) a,O i=some a-> ∃d,δ[i]? =some (Sl.ow d)
 inj: ∀i j a,O i=some a->O j=some a->i=j
 old: ∀i a,O i=some a-> ¬B.Z a/\(B.P a∨B.H0 a=none)
 zin: ∀a,B.Z a-> ∃o,H a=some o
 frm:Fr B.P B.H0 H
 par:(∀i a,B.mu i=some a->i∈ml)/\ ∀i∈ml,O i=B.mu i
 pin: ∀a,B.P a-> ∃o,H a=some o
 kep: ∀p∈B.kp,b6 K (Nn B O) H (Nn B O) p.1 p.2
section
variable{K:As}{ml:List Nat}{B:Bs}{O:Nat->Option Addr}{H H':Hp}{σ:St}{δ δ':Ev}
theorem bB.nin(S:bB K ml B O H σ δ){a:Addr}(h:Nn B O a): ∃o,H a=some o:=by
 rcases h with h|⟨i,h⟩
 ·exact S.zin a h
 ·obtain⟨d,e⟩:=S.dom i a h
  obtain⟨a',e1,_,w⟩:=S.ow i d e;rw[h] at e1;cases e1;obtain⟨o,q,_⟩:=w.soft;exact⟨o,q⟩
theorem bB.new(S:bB K ml B O H σ δ){a:Addr}(h:H a=none): ¬Nn B O a:=fun z=>by
 obtain⟨o,q⟩:=S.nin z;rw[h] at q;cases q
theorem bB.same(S:bB K ml B O H σ δ)(f:bR H H'):bB K ml B O H' σ δ where
 len:=S.len
 va:=fun i d e=>let ⟨v,a,b⟩:=S.va i d e;⟨v,a,b.same f⟩
 ow:=fun i d e=>let ⟨a,b,c,w⟩:=S.ow i d e;⟨a,b,c,w.fr (P:=fun _=>False) f.fr (fun _ z=>z.elim) fun z=>z⟩
 dom:=S.dom
 inj:=S.inj
 old:=S.old
 zin:=fun a h=>let ⟨o,q⟩:=S.zin a h;⟨o,f _ _ q⟩
 frm:=S.frm.trans f.fr
 par:=S.par
 pin:=fun a h=>let ⟨o,q⟩:=S.pin a h;⟨o,f _ _ q⟩
 kep:=fun p h=>(S.kep p h).same f
theorem bB.fresh(S:bB K ml B O H σ δ){a:Addr}(h:H a=none):B.H0 a=none:=by
 cases q:B.H0 a with
 |none=>rfl
 |some o=>
  by_cases hp:B.P a
  ·obtain⟨o',e⟩:=S.pin a hp
   rw[h] at e;cases e
  ·have := S.frm a o q fun z => absurd z hp
   rw[h] at this;cases this
def Bs.add(B:Bs)(p:Addr):Bs:={B with Z:=fun a=>B.Z a∨a=p}
theorem T4{p:Addr}: ∀a,Nn B O a->Nn (B.add p) O a:=fun a h=>by
 rcases h with h|h
 ·exact .inl (.inl h)
 ·exact .inr h
theorem b6.away{p:Addr}(hp:H p=none)(N N':Addr->Prop)(hN: ∀a,N' a->N a∨a=p){M M':Addr->Prop}{v:V}{d:dP}(hM: ∀a,M' a->M a∨a=p)(h:b6 K N H M v d):b6 K N' H M' v d:=
 have no: ∀{a:Addr} {o:HO} {M M':Addr->Prop},H a=some o-> ¬M a->(∀a,M' a->M a∨a=p)-> ¬M' a:=fun q n hM z=>(hM _ z).elim n fun e=>by rw[e,hp] at q;cases q
 b6.rec (motive_1:=fun M v d _=> ∀M',(∀a,M' a->M a∨a=p)->b6 K N' H M' v d) (motive_2:=fun vs ds _=>cY K N' H vs ds) (fun _ _=> .non) (fun b _ _=> .bl b) (fun i _ _=> .int i) (fun x _ _=> .str x) (fun n _ _=> .ty n) (fun q _ _=> .fn q) (fun q _ r _ _=> .tup q r)
  (fun q n _ r _ hM=> .lst q (no q n hM) r) (fun q _ r _ _=> .fzl q r) (fun q n _ r _ hM=> .dct q (no q n hM) r) (fun q _ r _ _=> .ktb q r) (fun p q r _ _=> .exn p q r) (fun p q r s _ t _ _=> .exr p q r s (t _ hN)) .nil (fun _ _ a b=> .cons (a _ hN) b) h M' hM
theorem cY.away{p:Addr}(hp:H p=none)(N N':Addr->Prop)(hN: ∀a,N' a->N a∨a=p){vs:List V}{ds:List dP}(h:cY K N H vs ds):cY K N' H vs ds:=h.map fun r=>r.away hp N N' hN hN
theorem W8{p:Addr}: ∀a,Nn (B.add p) O a->Nn B O a∨a=p:=fun a h=>by
 rcases h with(h|h)|h
 ·exact .inl (.inl h)
 ·exact .inr h
 ·exact .inl (.inr h)
theorem bB.laid(S:bB K ml B O H σ δ){p:Addr}{o:HO}(hp:H p=none):bB K ml (B.add p) O (bP H p o) σ δ where
 len:=S.len
 va:=fun i d e=>let ⟨v,a,b⟩:=S.va i d e;⟨v,a,(b.away hp _ _ W8 W8).same (dJ hp)⟩
 ow:=fun i d e=>by
  obtain⟨a,b,c,w⟩:=S.ow i d e;refine⟨a,b,c,?_⟩;have hne: ∀o,H a=some o->bP H p o=bP H p o:=fun _ _=>rfl;cases w with
  |lst q r=>exact .lst (dJ hp _ _ q) ((r.away hp _ _ W8).same (dJ hp))
  |dct q r=>exact .dct (dJ hp _ _ q) ((r.away hp _ _ W8).same (dJ hp))
 dom:=S.dom
 inj:=S.inj
 old:=fun i a h=>by
  refine⟨fun z=> ?_,(S.old i a h).2⟩;rcases z with z|z
  ·exact(S.old i a h).1 z
  ·obtain⟨o,q⟩:=S.nin (.inr ⟨i,h⟩)
   rw[z,hp] at q;cases q
 zin:=fun a h=>by
  rcases h with h|h
  ·obtain⟨o,q⟩:=S.zin a h
   exact⟨o,dJ hp _ _ q⟩
  ·exact⟨_,by rw[h];exact c0⟩
 frm:=S.frm.trans (dJ hp).fr
 par:=S.par
 pin:=fun a h=>let ⟨o,q⟩:=S.pin a h;⟨o,dJ hp _ _ q⟩
 kep:=fun p h=>((S.kep p h).away hp _ _ W8 W8).same (dJ hp)
theorem Q6{i:Nat}{o:Option Addr}: ∀a,Nn B (fun j=>if j=i then none else O j) a->Nn B O a:=fun a h=>by
 rcases h with h|⟨j,h⟩
 ·exact .inl h
 ·refine .inr ⟨j,?_⟩
  by_cases hj:j=i
  ·simp[hj] at h
  ·simpa[hj] using h
theorem UT{α:Type}{l:List α}{i j:Nat}{x y:α}(h:(l.set i x)[j]? =some y):(j=i/\y=x/\i<l.length)∨(j≠i/\l[j]? =some y):=by
 by_cases hj:j=i
 ·subst hj
  rw[List.getElem?_set_self'] at h;obtain⟨z,q,h⟩:=Aq.mp h;cases h;exact .inl ⟨rfl,rfl,(Ag.mp q).1⟩
 ·rw[Bw (Dg hj)] at h
  exact .inr ⟨hj,h⟩
theorem bB.setVa(S:bB K ml B O H σ δ){i:Nat}{v:V}{d:dP}(hm:i∉ml)(h:b6 K (Nn B O) H (Nn B O) v d):bB K ml B (fun j=>if j=i then none else O j) H (σ.set i (some v)) (δ.set i (.va d)) where
 len:=by rw[Cd,Cd,S.len]
 va:=fun j e q=>by
  rcases UT q with⟨rfl,z,hl⟩|⟨hj,q⟩
  ·cases z
   exact⟨v,by rw[Db (by rw[S.len];exact hl)],h.mono (Q6 (o:=none)) (Q6 (o:=none))⟩
  ·obtain⟨u,e1,r⟩:=S.va j e q
   exact⟨u,by rw[Bw (Dg hj)];exact e1,r.mono (Q6 (o:=none)) (Q6 (o:=none))⟩
 ow:=fun j e q=>by
  rcases UT q with⟨rfl,z,hl⟩|⟨hj,q⟩
  ·cases z
  ·obtain⟨a,e1,e2,w⟩:=S.ow j e q
   exact⟨a,by simpa[hj] using e1,by rw[Bw (Dg hj)];exact e2,w.mono (Q6 (o:=none))⟩
 dom:=fun j a e=>by
  by_cases hj:j=i
  ·simp[hj] at e
  ·obtain ⟨d,q⟩ := S.dom j a (by simpa [hj] using e)
   exact⟨d,by rw[Bw (Dg hj)];exact q⟩
 inj:=fun j k a e1 e2=>by
  by_cases hj:j=i
  ·simp[hj] at e1
  ·by_cases hk:k=i
   ·simp[hk] at e2
   ·exact S.inj j k a (by simpa[hj] using e1) (by simpa[hk] using e2)
 old:=fun j a e=>by
  by_cases hj:j=i
  ·simp[hj] at e
  ·exact S.old j a (by simpa[hj] using e)
 zin:=S.zin
 frm:=S.frm
 par:=⟨S.par.1,fun j hj=>by
  have hne:j≠i:=fun z=>hm (z▸hj);have h2:O j=B.mu j:=S.par.2 j hj;simpa[hne] using h2⟩
 pin:=S.pin
 kep:=fun p hp=>(S.kep p hp).mono (Q6 (o:=none)) (Q6 (o:=none))
theorem RT{i:Nat}{p:Addr}: ∀a,Nn B (fun j=>if j=i then some p else O j) a->Nn (B.add p) O a:=fun a h=>by
 rcases h with h|⟨j,h⟩
 ·exact .inl (.inl h)
 ·by_cases hj:j=i
  ·simp[hj] at h
   exact .inl (.inr h.symm)
  ·exact .inr ⟨j,by simpa[hj] using h⟩
theorem bB.setOw{p:Addr}(S:bB K ml (B.add p) O H σ δ){i:Nat}{d:dP}(hm:i∉ml)(hl:i<δ.length)(hz: ¬B.Z p)(h0:B.H0 p=none)(h:P7 K (Nn (B.add p) O) H p d):
  bB K ml B (fun j=>if j=i then some p else O j) H (σ.set i (some (.ref p))) (δ.set i (.ow d)) where
 len:=by rw[Cd,Cd,S.len]
 va:=fun j e q=>by
  rcases UT q with⟨rfl,z,_⟩|⟨hj,q⟩
  ·cases z
  ·obtain⟨u,e1,r⟩:=S.va j e q
   exact⟨u,by rw[Bw (Dg hj)];exact e1,r.mono RT RT⟩
 ow:=fun j e q=>by
  rcases UT q with⟨rfl,z,hl⟩|⟨hj,q⟩
  ·cases z
   exact⟨p,by simp,by rw[Db (by rw[S.len];exact hl)],h.mono RT⟩
  ·obtain⟨a,e1,e2,w⟩:=S.ow j e q
   exact⟨a,by simpa[hj] using e1,by rw[Bw (Dg hj)];exact e2,w.mono RT⟩
 dom:=fun j a e=>by
  by_cases hj:j=i
  ·subst hj
   exact⟨d,by rw[Db hl]⟩
  ·obtain ⟨d,q⟩ := S.dom j a (by simpa [hj] using e)
   exact⟨d,by rw[Bw (Dg hj)];exact q⟩
 inj:=fun j k a e1 e2=>by
  by_cases hj:j=i
  ·by_cases hk:k=i
   ·rw[hj,hk]
   ·simp[hj] at e1
    simp[hk] at e2;exact absurd (.inr e1.symm) (S.old k a e2).1
  ·by_cases hk:k=i
   ·simp[hk] at e2
    simp[hj] at e1;exact absurd (.inr e2.symm) (S.old j a e1).1
   ·exact S.inj j k a (by simpa[hj] using e1) (by simpa[hk] using e2)
 old:=fun j a e=>by
  by_cases hj:j=i
  ·simp[hj] at e
   subst e;exact⟨hz,.inr h0⟩
  ·have := S.old j a (by simpa [hj] using e)
   exact⟨fun z=>this.1 (.inl z),this.2⟩
 zin:=fun a h=>S.zin a (.inl h)
 frm:=S.frm
 par:=⟨S.par.1,fun j hj=>by
  have hne:j≠i:=fun z=>hm (z▸hj);have h2:O j=B.mu j:=S.par.2 j hj;simpa[hne] using h2⟩
 pin:=S.pin
 kep:=fun p hp=>(S.kep p hp).mono RT RT
theorem bB.wrote(S:bB K ml B O H σ δ){i:Nat}{a:Addr}{d:dP}{o:HO}(e:O i=some a)(ho: ¬Hard o)(h:P7 K (Nn B O) (bP H a o) a d):bB K ml B O (bP H a o) σ (δ.set i (.ow d)):=by
 have hf:Fr (fun b=>b=a) H (bP H a o):=fun b u q n=>by
  by_cases hb:b=a
  ·subst hb
   obtain⟨d',q'⟩:=S.dom i b e;obtain⟨a',e1,_,w⟩:=S.ow i d' q';rw[e] at e1;cases e1;obtain⟨u',q1,hh⟩:=w.soft;rw[q] at q1;cases q1;exact absurd (n rfl) hh
  ·rw[cE hb]
   exact q
 have hN: ∀b,b=a->Nn B O b:=fun b z=> .inr ⟨i,z▸e⟩;have hin: ∀b,(∃u,H b=some u)-> ∃u,bP H a o b=some u:=fun b q0=>by
  obtain⟨u,q⟩:=q0;by_cases hb:b=a
  ·exact⟨o,by rw[hb];exact c0⟩
  ·exact⟨u,by rw[cE hb];exact q⟩
 refine⟨by rw[Cd,S.len],fun j d' q=> ?_,fun j d' q=> ?_,fun j b q=> ?_,S.inj,S.old,fun b h=>hin b (S.zin b h),?_,S.par,fun b h=>hin b (S.pin b h),fun p hp=>(S.kep p hp).fr hf hN hN⟩
 ·rcases UT q with⟨_,z,_⟩|⟨hj,q⟩
  ·cases z
  ·obtain⟨v,e1,r⟩:=S.va j d' q
   exact⟨v,e1,r.fr hf hN hN⟩
 ·rcases UT q with⟨rfl,z,hl⟩|⟨hj,q⟩
  ·cases z
   obtain⟨d0,q0⟩:=S.dom j a e;obtain⟨a',e1,e2,_⟩:=S.ow j d0 q0;rw[e] at e1;cases e1;exact⟨a,e,e2,h⟩
  ·obtain⟨a',e1,e2,w⟩:=S.ow j d' q
   exact⟨a',e1,e2,w.fr hf hN fun z=>hj (S.inj j i a (z▸e1) e)⟩
 ·by_cases hj:j=i
  ·subst hj
   obtain⟨d0,q0⟩:=S.dom j b q;exact⟨d,by rw[Db (Ag.mp q0).1]⟩
  ·obtain⟨d0,q0⟩:=S.dom j b q
   exact⟨d0,by rw[Bw (Dg hj)];exact q0⟩
 ·intro b u q n
  have h1:=S.frm b u q n;by_cases hb:b=a
  ·subst hb
   rcases(S.old i b e).2 with z|z
   ·obtain⟨d',q'⟩:=S.dom i b e
    obtain⟨a',e1,_,w⟩:=S.ow i d' q';rw[e] at e1;cases e1;obtain⟨u',q1,hh⟩:=w.soft;rw[h1] at q1;cases q1;exact absurd (n z) hh
   ·rw[q] at z
    cases z
  ·rw[cE hb]
   exact h1
theorem bB.keepV(S:bB K ml B O H σ δ){ps:List (V×dP)}(h: ∀p∈ps,b6 K (Nn B O) H (Nn B O) p.1 p.2):bB K ml {B with kp:=ps++B.kp} O H σ δ:=
 ⟨S.len,S.va,S.ow,S.dom,S.inj,S.old,S.zin,S.frm,S.par,S.pin,fun p hp=>(Cc.mp hp).elim (h p) (S.kep p)⟩
theorem bB.unkeep{ps:List (V×dP)}(S:bB K ml {B with kp:=ps++B.kp} O H σ δ):bB K ml B O H σ δ:=
 ⟨S.len,S.va,S.ow,S.dom,S.inj,S.old,S.zin,S.frm,S.par,S.pin,fun p hp=>S.kep p (Ay _ hp)⟩
end
def rz(B:Bs):Addr->Prop:=fun a=>B.Z a∨ ∃i,B.mu i=some a
def av(B:Bs)(O:Nat->Option Addr)(b:Bool):Addr->Prop:=if b then Nn B O else fun a=>Nn B O a/\rz B a
def at_(B:Bs)(O:Nat->Option Addr)(b:Bool):Addr->Prop:=if b then Nn B O else fun _=>False
theorem zDV{B:Bs}{O:Nat->Option Addr}{b:Bool}: ∀a,at_ B O b a->av B O b a:=fun a h=>by
 cases b with
 |true=>exact h
 |false=>exact h.elim
theorem zD7{B:Bs}{O:Nat->Option Addr}{b c:Bool}(h:b=true->c=true): ∀a,at_ B O b a->at_ B O c a:=fun a z=>by
 cases b with
 |true=>rw[h rfl];exact z
 |false=>exact z.elim
theorem bB.rzn{K:As}{ml:List Nat}{B:Bs}{O:Nat->Option Addr}{H:Hp}{σ:St}{δ:Ev}(S:bB K ml B O H σ δ): ∀a,rz B a->Nn B O a:=fun a h=>by
 rcases h with h|⟨i,h⟩
 ·exact .inl h
 ·exact .inr ⟨i,(S.par.2 i (S.par.1 i a h)).trans h⟩
theorem bB.rza{K:As}{ml:List Nat}{B:Bs}{O:Nat->Option Addr}{H:Hp}{σ:St}{δ:Ev}(S:bB K ml B O H σ δ){b:Bool}: ∀a,rz B a->av B O b a:=fun a h=>by
 cases b with
 |true=>exact S.rzn a h
 |false=>exact⟨S.rzn a h,h⟩
theorem P8{B:Bs}{O:Nat->Option Addr}{b c:Bool}(h:b=true->c=true): ∀a,av B O b a->av B O c a:=fun a z=>by
 cases b with
 |true=>rw[h rfl];exact z
 |false=>cases c with
  |true=>exact z.1
  |false=>exact z
structure Res(K:As)(ml:List Nat)(B:Bs)(O:Nat->Option Addr)(H:Hp)(σ:St)(pu bt bi:Bool)(H':Hp)(δ':Ev)(v:V)(d:dP):Prop where
 sta:bB K ml B O H' σ δ'
 frm:Fr (OA O) H H'
 pur:pu=true->bR H H'
 rep:b6 K (av B O bi) H' (at_ B O bt) v d
abbrev VF:=Ev->Option (dP×Ev)
def TV(K:As)(ml:List Nat)(pu bt bi:Bool)(f:VF):TE:=fun σ H Q=> ∃B O δ d δ',bB K ml B O H σ δ/\f δ=some (d,δ')/\ ∀v H',Res K ml B O H σ pu bt bi H' δ' v d->Q v H'
theorem PE.imp{X:Cx}{e:Expr}{t u:TE}(h:PE X e t)(k: ∀σ H Q,u σ H Q->t σ H Q):PE X e u:=fun aa s σ H Q I w=>h aa s σ H Q I (k σ H Q w)
theorem PT.imp{X:Cx}{e:Expr}{t u:TT}(h:PT X e t)(k: ∀σ H Q,u σ H Q->t σ H Q):PT X e u:=fun aa s σ H Q I w=>h aa s σ H Q I (k σ H Q w)
theorem PW.imp{X:Cx}{e:Expr}{t u:TT}(h:PW X e t)(k: ∀σ H Q,u σ H Q->t σ H Q):PW X e u:=fun bp aa s σ H Q I w=>h bp aa s σ H Q I (k σ H Q w)
theorem PA.imp{X:Cx}{e:List Expr}{t u:TA}(h:PA X e t)(k: ∀σ H Q,u σ H Q->t σ H Q):PA X e u:=fun pos aa s σ H Q I w=>h pos aa s σ H Q I (k σ H Q w)
theorem PS.imp{X:Cx}{e:Stmt}{t u:TS}(h:PS X e t)(k: ∀D σ H,u D σ H->t D σ H):PS X e u:=fun aa s σ H D I w=>h aa s σ H D I (k D σ H w)
theorem QN.imp{X:Cx}{e:List Stmt}{t u:TS}(h:QN X e t)(k: ∀D σ H,u D σ H->t D σ H):QN X e u:=fun aa s σ H D I w=>h aa s σ H D I (k D σ H w)
section
variable{X:Cx}{K:As}{ml:List Nat}{e a b c:Expr}{pa ta ia pb tb ib pc tc ic:Bool}{fa fb fc:VF}{r:R2}{o:dP->dP->Option dP}{B:Bs}{O:Nat->Option Addr}{H H1 H':Hp}{σ:St}{δ δ':Ev}{v:V}{d:dP}
def fC(d:dP):VF:=fun δ=>some (d,δ)
theorem Res.refl{pu bt bi:Bool}(S:bB K ml B O H σ δ)(h:b6 K (av B O bi) H (at_ B O bt) v d):Res K ml B O H σ pu bt bi H δ v d:=⟨S,Fr.refl _ _,fun _=>bR.refl _,h⟩
theorem EQ(h:PE X e (tC v))(hr: ∀N H M,b6 K N H M v d):PE X e (TV K ml true true true (fC d)):=h.imp fun σ H Q hq0=>by
 obtain⟨B,O,δ,d',δ',S,q,k⟩:=hq0;cases q;exact k v H (Res.refl S (hr _ _ _))
theorem dN{i j pos}:PE X (.Constant (.int i) j pos) (TV K ml true true true (fC (.int i))):=EQ zFE fun _ _ _=> .int i
theorem YR{i j pos}:PE X (.Constant (.bool i) j pos) (TV K ml true true true (fC (.bl i))):=EQ zIK fun _ _ _=> .bl i
theorem MF{j pos}:PE X (.Constant .none j pos) (TV K ml true true true (fC .non)):=EQ zFC fun _ _ _=> .non
theorem c8{i j pos}:PE X (.Constant (.str i) j pos) (TV K ml true true true (fC (.str i))):=EQ zF9 fun _ _ _=> .str i
noncomputable def fV(i:Nat):VF:=fun δ=>match δ[i]? with
 |some (.va d)=>some (d,δ)
 |_=>none
noncomputable def fO(i:Nat):VF:=fun δ=>match δ[i]? with
 |some (.va d)=>some (d,δ)
 |some (.ow d)=>some (d,δ)
 |_=>none
theorem zDZ{i:Nat}(h:PE X e (MD i)):PE X e (TV K ml true true true (fV i)):=h.imp fun σ H Q hq0=>by
 obtain⟨B,O,δ,d',δ',S,q,k⟩:=hq0;unfold fV at q;split at q
 ·rename_i d hd
  cases q;obtain⟨v,e1,r⟩:=S.va i _ hd;exact⟨v,e1,k v H (Res.refl S r)⟩
 ·cases q
theorem zE0{i:Nat}(h:PE X e (MD i)):PE X e (TV K ml true false true (fO i)):=h.imp fun σ H Q hq0=>by
 obtain⟨B,O,δ,d',δ',S,q,k⟩:=hq0;unfold fO at q;split at q
 ·rename_i d hd
  cases q;obtain⟨v,e1,r⟩:=S.va i _ hd;exact⟨v,e1,k v H (Res.refl S (r.mono (fun _ z=>z) fun a z=>z.elim))⟩
 ·rename_i d hd
  cases q;obtain⟨a,e1,e2,w⟩:=S.ow i _ hd;exact⟨.ref a,e2,k _ H (Res.refl S (w.rep fun z=>z))⟩
 ·cases q
theorem Res.live{H2:Hp}{v2:V}{d2:dP}(R2:Res K ml B O H1 σ pb tb ib H2 δ' v2 d2)(hs:(pb || (ta && ia))=true)(h:b6 K (av B O ia) H1 (at_ B O ta) v d):b6 K (av B O ia) H2 (at_ B O ta) v d:=by
 cases pb with
 |true=>exact h.same (R2.pur rfl)
 |false=>
  have hs:(ta && ia)=true:=by simpa using hs
  obtain⟨h1,h2⟩:=(Ae _ _).mp hs;subst h1 h2;exact h.fr R2.frm (fun a z=> .inr z) fun a z=> .inr z
noncomputable def f2(o:dP->dP->Option dP)(fa fb:VF):VF:=fun δ=>(fa δ).bind fun p=>(fb p.2).bind fun q=>(o p.1 q.1).map fun c=>(c,q.2)
theorem RK{δ2:Ev}(h:f2 o fa fb δ=some (d,δ2)): ∃x δ1 y,fa δ=some (x,δ1)/\fb δ1=some (y,δ2)/\o x y=some d:=by
 unfold f2 at h;cases h1:fa δ with
 |none=>rw[h1] at h;cases h
 |some p=>
  rw[h1] at h;cases h2:fb p.2 with
  |none=>simp[h2] at h
  |some q=>
   simp only[At,h2] at h;obtain⟨c,h3,h⟩:=Aq.mp h;cases h;exact⟨p.1,p.2,q.1,rfl,h2,h3⟩
def SG(K:As)(r:R2)(o:dP->dP->Option dP):Prop:= ∀(H:Hp) (N N' M M':Addr->Prop) (x y:V) (d e c:dP) (Q:VK),b6 K N H M x d->b6 K N' H M' y e->o d e=some c->(∀v,(∀H' N M,b6 K N H' M v c)->Q v H)->r x y H Q
def OpC(K:As)(r:R2)(o:dP->dP->Option dP):Prop:= ∀(H:Hp) (N M M':Addr->Prop) (x y:V) (d e c:dP) (Q:VK),b6 K N H M x d->b6 K N H M' y e->o d e=some c→
 (∀v H',bR H H'->(∀M,(∀a,M a-> ∃o,H a=some o)->b6 K N H' M v c)->Q v H')->r x y H Q
def OpI(K:As)(r:R2)(o:dP->dP->Option dP):Prop:= ∀(H:Hp) (N N' M M':Addr->Prop) (x y:V) (d e c:dP) (Q:VK),b6 K N H M x d->b6 K N' H M' y e->o d e=some c->(∀v,b6 K N H N v c->Q v H)->r x y H Q
theorem IP(ho:SG K r o)(hs:(pb || (ta && ia))=true){Q:VK}(h:TV K ml (pa && pb) true true (f2 o fa fb) σ H Q):tOp r (TV K ml pa ta ia fa) (TV K ml pb tb ib fb) σ H Q:=by
 obtain⟨B,O,δ,d,δ2,S,q,k⟩:=h;obtain⟨x,δ1,y,h1,h2,h3⟩:=RK q;refine⟨B,O,δ,x,δ1,S,h1,fun v1 H1 R1=>⟨B,O,δ1,y,δ2,R1.sta,h2,fun v2 H2 R2=> ?_⟩⟩;exact ho H2 _ _ _ _ v1 v2 x y d Q (R2.live hs R1.rep) R2.rep h3 fun v hv=>k v H2 ⟨R2.sta,R1.frm.trans R2.frm,fun z=>by
  obtain⟨z1,z2⟩:=(Ae _ _).mp z;exact(R1.pur z1).trans (R2.pur z2),hv _ _ _⟩
theorem zE5(ho:OpC K r o)(hs:(pb || (ta && ia))=true){Q:VK}(h:TV K ml (pa && pb) true (ia && ib) (f2 o fa fb) σ H Q):tOp r (TV K ml pa ta ia fa) (TV K ml pb tb ib fb) σ H Q:=by
 obtain⟨B,O,δ,d,δ2,S,q,k⟩:=h;obtain⟨x,δ1,y,h1,h2,h3⟩:=RK q;refine⟨B,O,δ,x,δ1,S,h1,fun v1 H1 R1=>⟨B,O,δ1,y,δ2,R1.sta,h2,fun v2 H2 R2=> ?_⟩⟩;have g1: ∀a,av B O (ia && ib) a->av B O ia a:=P8 fun z=>((Ae _ _).mp z).1;have g2: ∀a,av B O (ia && ib) a->av B O ib a:=P8 fun z=>((Ae _ _).mp z).2;refine ho H2 (av B O (ia && ib)) _ _ v1 v2 x y d Q ((R2.live hs R1.rep).mono g1 fun _ z=>z) (R2.rep.mono g2 fun _ z=>z) h3 fun v H3 s3 hv=>k v H3 ⟨R2.sta.same s3,(R1.frm.trans R2.frm).trans s3.fr,fun z=> ?_,hv _ fun a z=>R2.sta.nin z⟩;obtain⟨z1,z2⟩:=(Ae _ _).mp z;exact((R1.pur z1).trans (R2.pur z2)).trans s3
theorem zE4(ho:OpI K r o)(hs:(pb || (ta && ia))=true){Q:VK}(h:TV K ml (pa && pb) ia ia (f2 o fa fb) σ H Q):tOp r (TV K ml pa ta ia fa) (TV K ml pb tb ib fb) σ H Q:=by
 obtain⟨B,O,δ,d,δ2,S,q,k⟩:=h;obtain⟨x,δ1,y,h1,h2,h3⟩:=RK q;refine⟨B,O,δ,x,δ1,S,h1,fun v1 H1 R1=>⟨B,O,δ1,y,δ2,R1.sta,h2,fun v2 H2 R2=> ?_⟩⟩;exact ho H2 _ _ _ _ v1 v2 x y d Q (R2.live hs R1.rep) R2.rep h3 fun v hv=>k v H2 ⟨R2.sta,R1.frm.trans R2.frm,fun z=>by
  obtain⟨z1,z2⟩:=(Ae _ _).mp z;exact(R1.pur z1).trans (R2.pur z2),hv.mono (fun _ z=>z) zDV⟩
theorem ZE{op:Operator}{pos:Pos}(ho:XO X (Fe op) r)(hv:SG K r o)(ha:PE X a (TV K ml pa ta ia fa))(hb:PE X b (TV K ml pb tb ib fb))(hs:(pb || (ta && ia))=true:=by rfl):PE X (.BinOp a op b pos) (TV K ml (pa && pb) true true (f2 o fa fb)):=
 (zDK ho ha hb).imp fun _ _ _ h=>IP hv hs h
theorem aT{op:Operator}{pos:Pos}(ho:XO X (Fe op) r)(hv:OpC K r o)(ha:PE X a (TV K ml pa ta ia fa))(hb:PE X b (TV K ml pb tb ib fb))(hs:(pb || (ta && ia))=true:=by rfl):PE X (.BinOp a op b pos) (TV K ml (pa && pb) true (ia && ib) (f2 o fa fb)):=
 (zDK ho ha hb).imp fun _ _ _ h=>zE5 hv hs h
theorem X4{op:CmpOp}{pos:Pos}(ho:XO X (Df op) r)(hv:SG K r o)(ha:PE X a (TV K ml pa ta ia fa))(hb:PE X b (TV K ml pb tb ib fb))(hm:Hg op b=false)(hs:(pb || (ta && ia))=true:=by rfl):PE X (.Compare a [op] [b] pos) (TV K ml (pa && pb) true true (f2 o fa fb)):=
 (zC9 ho ha hb hm).imp fun _ _ _ h=>IP hv hs h
theorem zHD{pos:Pos}(ho:C0 X r)(hv:OpI K r o)(ha:PE X a (TV K ml pa ta ia fa))(hb:PE X b (TV K ml pb tb ib fb))(hx:LC b)(hs:(pb || (ta && ia))=true:=by rfl):PE X (.Subscript a b pos) (TV K ml (pa && pb) ia ia (f2 o fa fb)):=
 (zII ho ha hb hx).imp fun _ _ _ h=>zE4 hv hs h
noncomputable def oI(C:Int->Int->Bool)(g:Int->Int->dP):dP->dP->Option dP
 | .int i,.int j=>if C i j=true then some (g i j) else none
 |_,_=>none
theorem zA5{C:Int->Int->Bool}{g:Int->Int->dP}{d e c:dP}(h:oI C g d e=some c): ∃i j,d= .int i/\e= .int j/\C i j=true/\c=g i j:=by
 unfold oI at h;split at h
 ·split at h
  ·rename_i hc
   cases h;exact⟨_,_,rfl,rfl,hc,rfl⟩
  ·cases h
 ·cases h
theorem PJ{C:Int->Int->Prop}{C':Int->Int->Bool}{g:Int->Int->V}{g':Int->Int->dP}(hC: ∀i j,C' i j=true->C i j)(hg: ∀i j N H M,b6 K N H M (g i j) (g' i j)):SG K (rI C g) (oI C' g'):=by
 intro H N N' M M' x y d e c Q hx hy h k;obtain⟨i,j,rfl,rfl,hc,rfl⟩:=zA5 h;cases hx;cases hy;exact⟨_,_,rfl,rfl,hC _ _ hc,k _ fun _ _ _=>hg ..⟩
theorem PK{g:Int->Int->V}{g':Int->Int->dP}(hg: ∀i j N H M,b6 K N H M (g i j) (g' i j)):SG K (HX g) (oI (fun _ _=>true) g'):=by
 intro H N N' M M' x y d e c Q hx hy h k;obtain⟨i,j,rfl,rfl,hc,rfl⟩:=zA5 h;cases hx;cases hy;exact⟨_,_,rfl,rfl,k _ fun _ _ _=>hg ..⟩
noncomputable def cMul(i j:Int):Bool:=(decide (-18446744073709551616<i) && decide (i<18446744073709551616)) || (decide (-18446744073709551616<j) && decide (j<18446744073709551616))
noncomputable def cDiv(i j:Int):Bool:=decide (0<j) && decide (j<1073741824)
def G1(i j:Int):Bool:=decide (0<=j) && decide (j<=1000000) && decide (i.natAbs<18446744073709551616)
abbrev PF:=oI (fun _ _=>true) fun i j=> .int (i - j)
abbrev oMul:=oI cMul fun i j=> .int (i*j)
abbrev FT:=oI cDiv fun i j=> .int (i/j)
noncomputable abbrev L1:=oI (fun _ j=>decide (0<j)) fun i j=> .int (i % j)
abbrev oPow:=oI G1 fun i j=> .int (i ^ j.toNat)
abbrev oLt:=oI (fun _ _=>true) fun i j=> .bl (decide (i<j))
abbrev oLe:=oI (fun _ _=>true) fun i j=> .bl (decide (i<=j))
abbrev oGt:=oI (fun _ _=>true) fun i j=> .bl (decide (j<i))
abbrev oGe:=oI (fun _ _=>true) fun i j=> .bl (decide (j<=i))
theorem PY:SG K (HX fun i j=> .int (i - j)) PF:=PK fun i j _ _ _=> .int _
theorem zHX:SG K (rI CW fun i j=> .int (i*j)) oMul:=PJ (fun i j h=>by
 have p:(2:Int) ^ 64=18446744073709551616:=by decide
 unfold CW;rw[p];simpa[cMul] using h) fun i j _ _ _=> .int _
theorem BH:SG K (rI CDiv fun i j=> .int (i/j)) FT:=PJ (fun i j h=>by show 0<j/\j<1073741824;simpa[cDiv] using h) fun i j _ _ _=> .int _
theorem Q9:SG K (rI (fun _ j=>0<j) fun i j=> .int (i % j)) L1:=PJ (fun i j h=>by simpa using h) fun i j _ _ _=> .int _
theorem zHW:SG K (rI CY fun i j=> .int (i ^ j.toNat)) oPow:=PJ (fun i j h=>by
 have p:(2:Nat) ^ 64=18446744073709551616:=by decide
 unfold CY;rw[p];simpa[G1,and_assoc] using h) fun i j _ _ _=> .int _
theorem s_lt:SG K (HX fun i j=> .bl (decide (i<j))) oLt:=PK fun i j _ _ _=> .bl _
theorem s_le:SG K (HX fun i j=> .bl (decide (i<=j))) oLe:=PK fun i j _ _ _=> .bl _
theorem s_gt:SG K (HX fun i j=> .bl (decide (j<i))) oGt:=PK fun i j _ _ _=> .bl _
theorem s_ge:SG K (HX fun i j=> .bl (decide (j<=i))) oGe:=PK fun i j _ _ _=> .bl _
def ND(d:dP):Bool:=d.isD && Eg d.pd
def HB(d e:dP):Bool:=Iu d.pd e.pd
def YC(d e:dP):Option dP:=if(ND d && ND e)=true then some (.bl (HB d e)) else none
def TJ(d e:dP):Option dP:=if(ND d && ND e)=true then some (.bl (!HB d e)) else none
theorem s_eq:SG K (rEqD K) YC:=by
 intro H N N' M M' x y d e c Q hx hy h k;unfold YC at h;split at h
 ·rename_i hh
  cases h;simp only[ND,Ae] at hh;exact⟨d.pd,e.pd,hx.dp hh.1.1,hy.dp hh.2.1,hh.1.2,hh.2.2,k _ fun _ _ _=> .bl _⟩
 ·cases h
theorem RW:SG K (rNeD K) TJ:=by
 intro H N N' M M' x y d e c Q hx hy h k;unfold TJ at h;split at h
 ·rename_i hh
  cases h;simp only[ND,Ae] at hh;exact⟨d.pd,e.pd,hx.dp hh.1.1,hy.dp hh.2.1,hh.1.2,hh.2.2,k _ fun _ _ _=> .bl _⟩
 ·cases h
noncomputable def isN:dP->Bool
 | .non=>true
 |_=>false
noncomputable def J5:dP->dP->Option dP
 |d,.non=>some (.bl (isN d))
 |_,_=>none
theorem zBU{N M:Addr->Prop}(h:b6 K N H M v d):decide (v=V.non)=isN d:=by
 cases h<;>simp[isN]
theorem zDB:SG K (fun x y H Q=>y= .non/\Q (.bl (decide (x= .non))) H) J5:=by
  intro H N N' M M' x y d e c Q hx hy h k;cases hy<;>first
    | (cases h
       refine⟨rfl,?_⟩;rw[zBU hx];exact k _ fun _ _ _=> .bl _)
    |(simp[J5] at h)
noncomputable def YS:dP->Option (List dP)
 | .tup ds=>some ds
 | .lst ds=>some ds
 |_=>none
theorem b6.seq{N M:Addr->Prop}{ds:List dP}(h:b6 K N H M v d)(e:YS d=some ds): ∃a xs,v= .ref a/\(X1 K H a xs∨W4 K H a xs)/\cY K N H xs ds:=by
 cases h<;>first
  |(cases e;rename_i q r;exact⟨_,_,rfl,.inr q,r⟩)
  |(cases e;rename_i q n r;exact⟨_,_,rfl,.inl (X1.of q),r⟩)
  |(cases e;rename_i q r;exact⟨_,_,rfl,.inl q.sq,r⟩)
  |cases e
theorem zD8{N:Addr->Prop}{xs:List V}{ds:List dP}{i:Int}(r:cY K N H xs ds)(h:V1 ds i=some d): ∃v,V1 xs i=some v/\b6 K N H N v d:=by
 unfold V1 at h⊢;rw[r.length];cases hi:ixN ds.length i with
 |none=>rw[hi] at h;cases h
 |some j=>
  rw[hi] at h;exact r.get h
end
section
variable{X:Cx}{K:As}{ml:List Nat}{e a b c:Expr}{es:List Expr}{pa ta ia pb tb ib pc tc ic pu bt bi ps bs:Bool}{fa fb fc:VF}{r r':R2}{o o':dP->dP->Option dP}{B:Bs}{O:Nat->Option Addr}{H H1 H':Hp}{σ:St}{δ δ':Ev}{v:V}{d:dP}{p:Addr}{pos:Pos}
theorem bB.unadd(S:bB K ml (B.add p) O H σ δ):bB K ml B O H σ δ where
 len:=S.len
 va:=fun i d e=>let ⟨v,a,b⟩:=S.va i d e;⟨v,a,b.mono T4 T4⟩
 ow:=fun i d e=>let ⟨a,b,c,w⟩:=S.ow i d e;⟨a,b,c,w.mono T4⟩
 dom:=S.dom
 inj:=S.inj
 old:=fun i a h=>⟨fun z=>(S.old i a h).1 (.inl z),(S.old i a h).2⟩
 zin:=fun a h=>S.zin a (.inl h)
 frm:=S.frm
 par:=S.par
 pin:=S.pin
 kep:=fun p h=>(S.kep p h).mono T4 T4
structure ResN(K:As)(ml:List Nat)(B:Bs)(O:Nat->Option Addr)(H:Hp)(σ:St)(pu:Bool)(H':Hp)(δ':Ev)(p:Addr)(d:dP):Prop where
 sta:bB K ml (B.add p) O H' σ δ'
 frm:Fr (OA O) H H'
 pur:pu=true->bR H H'
 own:P7 K (Nn (B.add p) O) H' p d
 nz: ¬Nn B O p
 h0:B.H0 p=none
def TN(K:As)(ml:List Nat)(pu:Bool)(f:VF):TE:=fun σ H Q=> ∃B O δ d δ',bB K ml B O H σ δ/\f δ=some (d,δ')/\ ∀p H',ResN K ml B O H σ pu H' δ' p d->Q (.ref p) H'
theorem cQ{f:VF}(h:PE X e (TN K ml pu f)):PE X e (TV K ml pu true true f):=h.imp fun σ H Q ⟨B,O,δ,d,δ',S,q,k⟩=>
 ⟨B,O,δ,d,δ',S,q,fun p H' R=>k _ H' ⟨R.sta.unadd,R.frm,R.pur,(R.own.mono T4).rep R.nz⟩⟩
theorem mkN{xs:List V}{ds:List dP}(S:bB K ml B O H1 σ δ')(f:Fr (OA O) H H1)(s:pu=true->bR H H1)(hp:H1 p=none)(r:cY K (Nn B O) H1 xs ds):ResN K ml B O H σ pu (bP H1 p (.lst xs)) δ' p (.lst ds):=
 ⟨S.laid hp,f.trans (dJ hp).fr,fun z=>(s z).trans (dJ hp),.lst c0 ((r.away hp _ _ W8).same (dJ hp)),S.new hp,S.fresh hp⟩
theorem mkD(S:bB K ml B O H1 σ δ')(f:Fr (OA O) H H1)(s:pu=true->bR H H1)(hp:H1 p=none):ResN K ml B O H σ pu (bP H1 p (.dK [])) δ' p (.dct [] []):=
 ⟨S.laid hp,f.trans (dJ hp).fr,fun z=>(s z).trans (dJ hp),.dct (kvs:=[]) c0 .nil,S.new hp,S.fresh hp⟩
theorem CC:PE X (.Dict [] [] pos) (TN K ml true (fC (.dct [] []))):=AJ.imp fun σ H Q hq0=>by
 obtain⟨B,O,δ,d,δ',S,q,k⟩:=hq0;cases q;exact fun p hp=>k p _ (mkD S (Fr.refl _ _) (fun _=>bR.refl _) hp)
abbrev N8:=Ev->Option (List dP×Ev)
structure ResA(K:As)(ml:List Nat)(B:Bs)(O:Nat->Option Addr)(H:Hp)(σ:St)(pu b:Bool)(H':Hp)(δ':Ev)(vs:List V)(ds:List dP):Prop where
 sta:bB K ml B O H' σ δ'
 frm:Fr (OA O) H H'
 pur:pu=true->bR H H'
 rep:cY K (av B O b) H' vs ds
def TAV(K:As)(ml:List Nat)(pu b:Bool)(f:N8):TA:=fun σ H Q=> ∃B O δ d δ',bB K ml B O H σ δ/\f δ=some (d,δ')/\ ∀vs H',ResA K ml B O H σ pu b H' δ' vs d->Q vs H'
def cP:N8:=fun δ=>some ([],δ)
noncomputable def dL(fa:VF)(fs:N8):N8:=fun δ=>(fa δ).bind fun p=>(fs p.2).map fun q=>(p.1::q.1,q.2)
theorem DK{fs:N8}{ds:List dP}(h:dL fa fs δ=some (ds,δ')): ∃x δ1 xs,fa δ=some (x,δ1)/\fs δ1=some (xs,δ')/\ds=x::xs:=by
 unfold dL at h;cases h1:fa δ with
 |none=>rw[h1] at h;cases h
 |some p=>
  rw[h1] at h;cases h2:fs p.2 with
  |none=>simp[h2] at h
  |some q=>
   simp only[At,h2] at h;cases h;exact⟨p.1,p.2,q.1,rfl,h2,rfl⟩
theorem dD:PA X [] (TAV K ml true true cP):=aP.imp fun σ H Q hq0=>by
 obtain⟨B,O,δ,d,δ',S,q,k⟩:=hq0;cases q;exact k [] H ⟨S,Fr.refl _ _,fun _=>bR.refl _,.nil⟩
theorem dO{fs:N8}(ha:PE X a (TV K ml pa ta ia fa))(hr:PA X es (TAV K ml ps bs fs))(hs:Ak (a::es) X.env=(false,eval a X.env)::Ak es X.env:=by rfl)(hl:(ps || (ta && ia))=true:=by rfl)(ht:ta=true:=by rfl):
  PA X (a::es) (TAV K ml (pa && ps) (ta && ia && bs) (dL fa fs)):=(cK ha hr hs).imp fun σ H Q hq0=>by
 obtain⟨B,O,δ,d,δ2,S,q,k⟩:=hq0;obtain⟨x,δ1,xs,h1,h2,rfl⟩:=DK q;refine⟨B,O,δ,x,δ1,S,h1,fun v1 H1 R1=>⟨B,O,δ1,xs,δ2,R1.sta,h2,fun vs H2 R2=>k _ H2 ⟨R2.sta,R1.frm.trans R2.frm,fun z=> ?_,?_⟩⟩⟩
 ·obtain⟨z1,z2⟩:=(Ae _ _).mp z
  exact(R1.pur z1).trans (R2.pur z2)
 ·have g : ∀ c,((ta && ia && bs) = true -> c = true) -> ∀ a,av B O (ta && ia && bs) a -> av B O c a := fun c h => P8 h
  have g1:=g ta fun z=>by simp only[Ae] at z;exact z.1.1
  have g2:=g ia fun z=>by simp only[Ae] at z;exact z.1.2
  have g3:=g bs fun z=>by simp only[Ae] at z;exact z.2
  refine .cons ?_ (R2.rep.mono g3);have h:b6 K (av B O ia) H2 (at_ B O ta) v1 x:=by
   cases ps with
   |true=>exact R1.rep.same (R2.pur rfl)
   |false=>
    have hs:(ta && ia)=true:=by simpa using hl
    obtain⟨h1,h2⟩:=(Ae _ _).mp hs;subst h1 h2;exact R1.rep.fr R2.frm (fun a z=> .inr z) fun a z=> .inr z
  subst ht;exact h.mono g2 g1
theorem bB.lone(S:bB K ml B O H σ δ){i:Nat}{x:dP}(hm:i∉ml)(h:fO i δ=some (x,δ')):δ'=δ/\ ∃v,σ[i]? =some (some v)/\b6 K (av B O false) H (av B O false) v x:=by
 unfold fO at h;split at h
 ·rename_i d hd
  cases h;obtain⟨v,e1,r⟩:=S.va i _ hd;exact⟨rfl,v,e1,r.mono (fun a z=>z.1) fun a z=>z.1⟩
 ·rename_i d hd
  cases h;obtain⟨a,e1,e2,w⟩:=S.ow i _ hd;refine⟨rfl,.ref a,e2,(w.mono fun a z=>z.1).rep fun z=> ?_⟩;rcases z.2 with z|⟨j,z⟩
  ·exact(S.old i a e1).1 z
  ·have hj:=S.par.1 j a z
   have:i=j:=S.inj i j a e1 ((S.par.2 j hj).trans z);exact hm (this▸hj)
 ·cases h
noncomputable def aN(fs:N8):VF:=fun δ=>(fs δ).bind fun p=>if p.1.length<=16777216 then some (.tup p.1,p.2) else none
noncomputable def ZL(fs:N8):VF:=fun δ=>(fs δ).bind fun p=>if p.1.length<=16777216 then some (.lst p.1,p.2) else none
theorem JL{fs:N8}{g:List dP->dP}(h:((fs δ).bind fun p=>if p.1.length<=16777216 then some (g p.1,p.2) else none)=some (d,δ')): ∃ds,fs δ=some (ds,δ')/\ds.length<=16777216/\d=g ds:=by
 cases h1:fs δ with
 |none=>rw[h1] at h;cases h
 |some p=>
  rw[h1] at h;have h:(if p.1.length<=16777216 then some (g p.1,p.2) else none)=some (d,δ'):=h;split at h
  ·cases h
   exact⟨p.1,rfl,by assumption,rfl⟩
  ·cases h
theorem b5{x1}{fs:N8}(h:PA X es (TAV K ml pu bs fs)):PE X (.Tuple es x1 pos) (TV K ml pu true bs (aN fs)):=(HQ h).imp fun σ H Q hq0=>by
 obtain⟨B,O,δ,d,δ',S,q,k⟩:=hq0;obtain⟨ds,h1,hl,rfl⟩:=JL (g:=dP.tup) q;refine⟨B,O,δ,ds,δ',S,h1,fun vs H1 R=>⟨by rw[R.rep.length,Dc];exact hl,fun p hp=>k _ _ ⟨R.sta.same (dJ hp),R.frm.trans (dJ hp).fr,fun z=>(R.pur z).trans (dJ hp),.tup (W4.of c0) (R.rep.same (dJ hp))⟩⟩⟩
theorem a7{fs:N8}(h:PA X es (TAV K ml pu true fs)):PE X (.List es pos) (TN K ml pu (ZL fs)):=(zFD h).imp fun σ H Q hq0=>by
 obtain⟨B,O,δ,d,δ',S,q,k⟩:=hq0;obtain⟨ds,h1,hl,rfl⟩:=JL (g:=dP.lst) q;exact⟨B,O,δ,ds,δ',S,h1,fun vs H1 R=>⟨by rw[R.rep.length,Dc];exact hl,fun p hp=>k p _ (mkN R.sta R.frm R.pur hp R.rep)⟩⟩
abbrev VB:=Ev->Option (Bool×Ev)
structure C4(K:As)(ml:List Nat)(B:Bs)(O:Nat->Option Addr)(H:Hp)(σ:St)(pu:Bool)(H':Hp)(δ':Ev):Prop where
 sta:bB K ml B O H' σ δ'
 frm:Fr (OA O) H H'
 pur:pu=true->bR H H'
def TB(K:As)(ml:List Nat)(pu:Bool)(f:VB):TT:=fun σ H Q=> ∃B O δ k δ',bB K ml B O H σ δ/\f δ=some (k,δ')/\ ∀H',C4 K ml B O H σ pu H' δ'->Q k H'
noncomputable def fB(f:VF):VB:=fun δ=>(f δ).bind fun p=>match p.1 with
 | .bl k=>some (k,p.2)
 |_=>none
theorem zGU{f:VF}{k:Bool}(h:fB f δ=some (k,δ')):f δ=some (.bl k,δ'):=by
 unfold fB at h;cases h1:f δ with
 |none=>rw[h1] at h;cases h
 |some p=>
  obtain⟨x,δ1⟩:=p;rw[h1] at h;cases x<;>first
   |(cases h;rfl)
   |cases h
theorem ME{f:VF}{t:TE}(ht: ∀σ H Q,TV K ml pu bt bi f σ H Q->t σ H Q){Q:Bool->Hp->Prop}(h:TB K ml pu (fB f) σ H Q):t σ H fun x H'=> ∃k,x= .bl k/\Q k H':=by
 obtain⟨B,O,δ,k,δ',S,q,w⟩:=h;refine ht σ H _ ⟨B,O,δ,.bl k,δ',S,zGU q,fun v H' R=>⟨k,?_,w H' ⟨R.sta,R.frm,R.pur⟩⟩⟩;cases R.rep;rfl
theorem cH{op:CmpOp}(ho:XO X (Df op) r)(hv:SG K r o)(ha:PE X a (TV K ml pa ta ia fa))(hb:PE X b (TV K ml pb tb ib fb))(hm:Hg op b=false)(hs:(pb || (ta && ia))=true:=by rfl):PT X (.Compare a [op] [b] pos) (TB K ml (pa && pb) (fB (f2 o fa fb))):=
 (zC0 ho ha hb hm).imp fun _ _ _ h=>ME (fun _ _ _=>IP hv hs) h
theorem ZU{f:VF}(h:PE X e (TV K ml pu bt bi f))(he: ∀bp,isTrue e X.env bp=(do let v<- bp;Nr e.pos;holding [v] (truthy v)):=by intro _;rfl):PT X e (TB K ml pu (fB f)):=
 (zEX h he).imp fun _ _ _ h=>ME (fun _ _ _ z=>z) h
noncomputable def QQ(x y:VB):VB:=fun δ=>(x δ).bind fun p=>if p.1=true then y p.2 else some (false,p.2)
noncomputable def JD(x y:VB):VB:=fun δ=>(x δ).bind fun p=>if p.1=true then some (true,p.2) else y p.2
noncomputable def UF(x:VB):VB:=fun δ=>(x δ).map fun p=>(!p.1,p.2)
theorem C4.refl(S:bB K ml B O H σ δ):C4 K ml B O H σ pu H δ:=⟨S,Fr.refl _ _,fun _=>bR.refl _⟩
theorem zE8{x y:VB}{Q:Bool->Hp->Prop}(h:TB K ml (pa && pb) (QQ x y) σ H Q):tAnd (TB K ml pa x) (TB K ml pb y) σ H Q:=by
 obtain⟨B,O,δ,k,δ',S,q,w⟩:=h;unfold QQ at q;obtain⟨⟨kk,δ1⟩,h1,q⟩:=Aa.mp q;refine⟨B,O,δ,kk,δ1,S,h1,fun H1 R1=> ?_⟩;cases kk with
 |true=>
  have q:y δ1=some (k,δ'):=q;exact QW ⟨B,O,δ1,k,δ',R1.sta,q,fun H2 R2=>w H2 ⟨R2.sta,R1.frm.trans R2.frm,fun z=>by
   obtain⟨z1,z2⟩:=(Ae _ _).mp z;exact(R1.pur z1).trans (R2.pur z2)⟩⟩
 |false=>
  have q:some (false,δ1)=some (k,δ'):=q;cases q;exact QV (w H1 ⟨R1.sta,R1.frm,fun z=>R1.pur ((Ae _ _).mp z).1⟩)
theorem zHF{x y:VB}{Q:Bool->Hp->Prop}(h:TB K ml (pa && pb) (JD x y) σ H Q):tOr (TB K ml pa x) (TB K ml pb y) σ H Q:=by
 obtain⟨B,O,δ,k,δ',S,q,w⟩:=h;unfold JD at q;obtain⟨⟨kk,δ1⟩,h1,q⟩:=Aa.mp q;refine⟨B,O,δ,kk,δ1,S,h1,fun H1 R1=> ?_⟩;cases kk with
 |false=>
  have q:y δ1=some (k,δ'):=q;exact QV ⟨B,O,δ1,k,δ',R1.sta,q,fun H2 R2=>w H2 ⟨R2.sta,R1.frm.trans R2.frm,fun z=>by
   obtain⟨z1,z2⟩:=(Ae _ _).mp z;exact(R1.pur z1).trans (R2.pur z2)⟩⟩
 |true=>
  have q:some (true,δ1)=some (k,δ'):=q;cases q;exact QW (w H1 ⟨R1.sta,R1.frm,fun z=>R1.pur ((Ae _ _).mp z).1⟩)
theorem YN{x:VB}(h:PT X a (TB K ml pu x)):PT X (.UnaryOp .Not a pos) (TB K ml pu (UF x)):=(zEY h).imp fun σ H Q hq0=>by
 obtain⟨B,O,δ,k,δ',S,q,w⟩:=hq0;unfold UF at q;obtain⟨p,h1,q⟩:=Aq.mp q;cases q;exact⟨B,O,δ,p.1,p.2,S,h1,w⟩
theorem QL{x:VB}(h:PT X a (TB K ml pu x)):PW X (.BoolOp .And [a] pos) (TB K ml pu x):=zBX h
theorem XH{x:VB}(h:PT X a (TB K ml pu x)):PW X (.BoolOp .Or [a] pos) (TB K ml pu x):=zEV h
theorem MI{x y:VB}(ha:PT X a (TB K ml pa x))(hb:PW X (.BoolOp .And (b::es) pos) (TB K ml pb y)):PW X (.BoolOp .And (a::b::es) pos) (TB K ml (pa && pb) (QQ x y)):=(zEW ha hb).imp fun _ _ _ h=>zE8 h
theorem WX{x y:VB}(ha:PT X a (TB K ml pa x))(hb:PW X (.BoolOp .Or (b::es) pos) (TB K ml pb y)):PW X (.BoolOp .Or (a::b::es) pos) (TB K ml (pa && pb) (JD x y)):=(zIE ha hb).imp fun _ _ _ h=>zHF h
theorem UA{x:VB}(h:PW X e (TB K ml pu x)):PT X e (TB K ml pu x):=h.pt
noncomputable def QR(x y:VF):VF:=fun δ=>(x δ).bind fun p=>match p.1 with
 | .bl true=>y p.2
 | .bl false=>some (.bl false,p.2)
 |_=>none
noncomputable def fOr(x y:VF):VF:=fun δ=>(x δ).bind fun p=>match p.1 with
 | .bl false=>y p.2
 | .bl true=>some (.bl true,p.2)
 |_=>none
noncomputable def fNot(x:VF):VF:=fun δ=>(x δ).bind fun p=>match p.1 with
 | .bl k=>some (.bl (!k),p.2)
 |_=>none
theorem VM{op}{f:VF}(h:PE X a (TV K ml pu bt bi f)):PE X (.BoolOp op [a] pos) (TV K ml pu bt bi f):=zFA h
theorem WN(ha:PE X a (TV K ml pa ta ia fa))(hb:PE X (.BoolOp .And (b::es) pos) (TV K ml pb tb ib fb)):PE X (.BoolOp .And (a::b::es) pos) (TV K ml (pa && pb) tb ib (QR fa fb)):=(zFF ha hb).imp fun σ H Q hq0=>by
 obtain⟨B,O,δ,d,δ',S,q,k⟩:=hq0;unfold QR at q;obtain⟨⟨x,δ1⟩,h1,q⟩:=Aa.mp q;refine⟨B,O,δ,x,δ1,S,h1,fun v1 H1 R1=> ?_⟩;cases x with
 |bl kk=>
  have e1:v1= .bl kk:=by cases R1.rep;rfl
  refine⟨kk,e1,?_⟩;cases kk with
  |true=>
   exact QW ⟨B,O,δ1,d,δ',R1.sta,q,fun v2 H2 R2=>k v2 H2 ⟨R2.sta,R1.frm.trans R2.frm,fun z=>by
    obtain⟨z1,z2⟩:=(Ae _ _).mp z;exact(R1.pur z1).trans (R2.pur z2),R2.rep⟩⟩
  |false=>
   cases q;exact QV (k _ H1 ⟨R1.sta,R1.frm,fun z=>R1.pur ((Ae _ _).mp z).1,.bl _⟩)
 |_=>cases q
theorem zHC(ha:PE X a (TV K ml pa ta ia fa))(hb:PE X (.BoolOp .Or (b::es) pos) (TV K ml pb tb ib fb)):PE X (.BoolOp .Or (a::b::es) pos) (TV K ml (pa && pb) tb ib (fOr fa fb)):=(zIH ha hb).imp fun σ H Q hq0=>by
 obtain⟨B,O,δ,d,δ',S,q,k⟩:=hq0;unfold fOr at q;obtain⟨⟨x,δ1⟩,h1,q⟩:=Aa.mp q;refine⟨B,O,δ,x,δ1,S,h1,fun v1 H1 R1=> ?_⟩;cases x with
 |bl kk=>
  have e1:v1= .bl kk:=by cases R1.rep;rfl
  refine⟨kk,e1,?_⟩;cases kk with
  |false=>
   exact QV ⟨B,O,δ1,d,δ',R1.sta,q,fun v2 H2 R2=>k v2 H2 ⟨R2.sta,R1.frm.trans R2.frm,fun z=>by
    obtain⟨z1,z2⟩:=(Ae _ _).mp z;exact(R1.pur z1).trans (R2.pur z2),R2.rep⟩⟩
  |true=>
   cases q;exact QW (k _ H1 ⟨R1.sta,R1.frm,fun z=>R1.pur ((Ae _ _).mp z).1,.bl _⟩)
 |_=>cases q
theorem zE1(ha:PE X a (TV K ml pa ta ia fa)):PE X (.UnaryOp .Not a pos) (TV K ml pa true true (fNot fa)):=(zFB ha).imp fun σ H Q hq0=>by
 obtain⟨B,O,δ,d,δ',S,q,k⟩:=hq0;unfold fNot at q;obtain⟨⟨x,δ1⟩,h1,q⟩:=Aa.mp q;refine⟨B,O,δ,x,δ1,S,h1,fun v1 H1 R1=> ?_⟩;cases x with
 |bl kk=>
  have e1:v1= .bl kk:=by cases R1.rep;rfl
  cases q;exact⟨kk,e1,k _ H1 ⟨R1.sta,R1.frm,R1.pur,.bl _⟩⟩
 |_=>cases q
def fIf(t:VB)(x y:VF):VF:=fun δ=>(t δ).bind fun p=>if p.1=true then x p.2 else y p.2
theorem NU{t:VB}(ht:PT X c (TB K ml pc t))(ha:PE X a (TV K ml pa ta ia fa))(hb:PE X b (TV K ml pb tb ib fb)):PE X (.IfExp c a b pos) (TV K ml (pc && pa && pb) (ta && tb) (ia && ib) (fIf t fa fb)):=(AL ht ha hb).imp fun σ H Q hq0=>by
 obtain⟨B,O,δ,d,δ',S,q,k⟩:=hq0;unfold fIf at q;obtain⟨⟨kk,δ1⟩,h1,q⟩:=Aa.mp q;refine⟨B,O,δ,kk,δ1,S,h1,fun H1 R1=> ?_⟩;have g1: ∀c,((ta && tb)=true->c=true)-> ∀a,at_ B O (ta && tb) a->at_ B O c a:=fun c h=>zD7 h;have g2: ∀c,((ia && ib)=true->c=true)-> ∀a,av B O (ia && ib) a->av B O c a:=fun c h=>P8 h;cases kk with
 |true=>
  exact QW ⟨B,O,δ1,d,δ',R1.sta,q,fun v2 H2 R2=>k v2 H2 ⟨R2.sta,R1.frm.trans R2.frm,fun z=>by
   simp only[Ae] at z;exact(R1.pur z.1.1).trans (R2.pur z.1.2),R2.rep.mono (g2 _ fun z=>((Ae _ _).mp z).1) (g1 _ fun z=>((Ae _ _).mp z).1)⟩⟩
 |false=>
  exact QV ⟨B,O,δ1,d,δ',R1.sta,q,fun v2 H2 R2=>k v2 H2 ⟨R2.sta,R1.frm.trans R2.frm,fun z=>by
   simp only[Ae] at z;exact(R1.pur z.1.1).trans (R2.pur z.2),R2.rep.mono (g2 _ fun z=>((Ae _ _).mp z).2) (g1 _ fun z=>((Ae _ _).mp z).2)⟩⟩
noncomputable def f3(o o':dP->dP->Option dP)(fa fb fc:VF):VF:=fun δ=>(fa δ).bind fun p=>(fb p.2).bind fun q=>(o p.1 q.1).bind fun z=>match z with
 | .bl true=>(fc q.2).bind fun s=>(o' q.1 s.1).map fun u=>(u,s.2)
 | .bl false=>some (.bl false,q.2)
 |_=>none
theorem KW(ho:SG K r o)(ho':SG K r' o')(hs:(pb || (ta && ia))=true)(hs':(pc || (tb && ib))=true){Q:VK}(h:TV K ml (pa && pb && pc) true true (f3 o o' fa fb fc) σ H Q):IJ r r' (TV K ml pa ta ia fa) (TV K ml pb tb ib fb) (TV K ml pc tc ic fc) σ H Q:=by
 obtain⟨B,O,δ,d,δ3,S,q,k⟩:=h;unfold f3 at q;obtain⟨⟨x,δ1⟩,h1,q⟩:=Aa.mp q;cases h2:fb δ1 with
 |none=>simp[h2] at q
 |some p2=>
  obtain⟨y,δ2⟩:=p2;simp only[At,h2] at q;refine⟨B,O,δ,x,δ1,S,h1,fun v1 H1 R1=>⟨B,O,δ1,y,δ2,R1.sta,h2,fun v2 H2 R2=> ?_⟩⟩;obtain⟨z,h3,q⟩:=Aa.mp q;refine ho H2 _ _ _ _ v1 v2 x y z _ (R2.live hs R1.rep) R2.rep h3 fun v hv=> ?_;have hv:=hv (fun _=>none) (fun _=>True) fun _=>True;cases z with
  |bl kk=>
   have e1:v= .bl kk:=by cases hv;rfl
   refine⟨kk,e1,?_⟩;cases kk with
   |false=>
    cases q;exact QV (k _ H2 ⟨R2.sta,R1.frm.trans R2.frm,fun z=>by
     simp only[Ae] at z;exact(R1.pur z.1.1).trans (R2.pur z.1.2),.bl _⟩)
   |true=>
    have q:((fc δ2).bind fun s=>(o' y s.1).map fun u=>(u,s.2))=some (d,δ3):=q;obtain⟨⟨z4,δ4⟩,h4,q⟩:=Aa.mp q;have q:((o' y z4).map fun u=>(u,δ4))=some (d,δ3):=q;obtain⟨u,h5,q⟩:=Aq.mp q;cases q;refine QW ⟨B,O,δ2,z4,_,R2.sta,h4,fun v4 H4 R4=> ?_⟩;exact ho' H4 _ _ _ _ v2 v4 y z4 d Q (R4.live hs' R2.rep) R4.rep h5 fun v hv=>k v H4 ⟨R4.sta,(R1.frm.trans R2.frm).trans R4.frm,fun z=>by
     simp only[Ae] at z;exact((R1.pur z.1.1).trans (R2.pur z.1.2)).trans (R4.pur z.2),hv _ _ _⟩
  |_=>cases q
theorem B5{op op':CmpOp}(ho:XO X (Df op) r)(ho':XO X (Df op') r')(hv:SG K r o)(hv':SG K r' o')(ha:PE X a (TV K ml pa ta ia fa))(hb:PE X b (TV K ml pb tb ib fb))(hc:PE X c (TV K ml pc tc ic fc))
  (hm:Po [op,op'] [b,c]=false:=by with_unfolding_all rfl) (hs:(pb || (ta && ia))=true:=by rfl) (hs':(pc || (tb && ib))=true:=by rfl):PE X (.Compare a [op,op'] [b,c] pos) (TV K ml (pa && pb && pc) true true (f3 o o' fa fb fc)):=
 (AG ho ho' ha hb hc hm).imp fun _ _ _ h=>KW hv hv' hs hs' h
theorem CH{op op':CmpOp}(ho:XO X (Df op) r)(ho':XO X (Df op') r')(hv:SG K r o)(hv':SG K r' o')(ha:PE X a (TV K ml pa ta ia fa))(hb:PE X b (TV K ml pb tb ib fb))(hc:PE X c (TV K ml pc tc ic fc))
  (hm:Po [op,op'] [b,c]=false:=by with_unfolding_all rfl) (hs:(pb || (ta && ia))=true:=by rfl) (hs':(pc || (tb && ib))=true:=by rfl):PT X (.Compare a [op,op'] [b,c] pos) (TB K ml (pa && pb && pc) (fB (f3 o o' fa fb fc))):=
 (AU ho ho' ha hb hc hm).imp fun _ _ _ h=>ME (fun _ _ _=>KW hv hv' hs hs') h
end
section
variable{X:Cx}{K:As}{ml:List Nat}{e a b c:Expr}{es:List Expr}{pa ta ia pb tb ib pc tc ic pu bt bi ps bs:Bool}{fa fb fc:VF}{B:Bs}{O:Nat->Option Addr}{H H1 H':Hp}{σ:St}{δ δ':Ev}{v:V}{d:dP}{p:Addr}{pos:Pos}
noncomputable def f1(o:dP->Option dP)(fa:VF):VF:=fun δ=>(fa δ).bind fun p=>(o p.1).map fun c=>(c,p.2)
theorem RJ{o:dP->Option dP}(h:f1 o fa δ=some (d,δ')): ∃x,fa δ=some (x,δ')/\o x=some d:=by
 unfold f1 at h;cases h1:fa δ with
 |none=>rw[h1] at h;cases h
 |some p=>
  rw[h1] at h;have h:((o p.1).map fun c=>(c,p.2))=some (d,δ'):=h;obtain⟨c,h3,h⟩:=Aq.mp h;cases h;exact⟨p.1,rfl,h3⟩
abbrev RC:=List V->Hp->VK->Prop
def CZ(K:As)(r:RC)(o:dP->Option dP):Prop:= ∀(H:Hp) (N M:Addr->Prop) (x:V) (d c:dP) (Q:VK),b6 K N H M x d->o d=some c->(∀v,(∀H' N M,b6 K N H' M v c)->Q v H)->r [x] H Q
def CalC(K:As)(r:RC)(o:dP->Option dP):Prop:= ∀(H:Hp) (N M:Addr->Prop) (x:V) (d c:dP) (Q:VK),b6 K N H M x d->o d=some c→
 (∀v H',bR H H'->(∀M,(∀a,M a-> ∃o,H a=some o)->b6 K N H' M v c)->Q v H')->r [x] H Q
def CalN(K:As)(r:RC)(o:dP->Option dP):Prop:= ∀(H:Hp) (N M:Addr->Prop) (x:V) (d c:dP) (Q:VK),b6 K N H M x d->o d=some c→
 (∀p xs ds,H p=none->cY K N H xs ds->c= .lst ds->Q (.ref p) (bP H p (.lst xs)))->r [x] H Q
def MK(K:As)(r:RC)(o:dP->dP->Option dP):Prop:= ∀(H:Hp) (N N' M M':Addr->Prop) (x y:V) (d e c:dP) (Q:VK),b6 K N H M x d->b6 K N' H M' y e->o d e=some c->(∀v,(∀H' N M,b6 K N H' M v c)->Q v H)->r [x,y] H Q
theorem EN{r:RC}{o:dP->Option dP}(ho:CZ K r o){Q:VK}(h:TV K ml pa true true (f1 o fa) σ H Q):tCB r (NO (TV K ml pa ta ia fa) BX) σ H Q:=by
 obtain⟨B,O,δ,d,δ',S,q,k⟩:=h;obtain⟨x,h1,h2⟩:=RJ q;exact⟨B,O,δ,x,δ',S,h1,fun v1 H1 R1=>ho H1 _ _ v1 x d Q R1.rep h2 fun v hv=>k v H1 ⟨R1.sta,R1.frm,R1.pur,hv _ _ _⟩⟩
theorem EM{r:RC}{o:dP->Option dP}(ho:CalC K r o){Q:VK}(h:TV K ml pa true ia (f1 o fa) σ H Q):tCB r (NO (TV K ml pa ta ia fa) BX) σ H Q:=by
 obtain⟨B,O,δ,d,δ',S,q,k⟩:=h;obtain⟨x,h1,h2⟩:=RJ q;exact⟨B,O,δ,x,δ',S,h1,fun v1 H1 R1=>ho H1 _ _ v1 x d Q R1.rep h2 fun v H2 s2 hv=>k v H2 ⟨R1.sta.same s2,R1.frm.trans s2.fr,fun z=>(R1.pur z).trans s2,hv _ fun a z=>R1.sta.nin z⟩⟩
theorem NP{r:RC}{o:dP->Option dP}(ho:CalN K r o){Q:VK}(h:TN K ml pa (f1 o fa) σ H Q):tCB r (NO (TV K ml pa ta true fa) BX) σ H Q:=by
 obtain⟨B,O,δ,d,δ',S,q,k⟩:=h;obtain⟨x,h1,h2⟩:=RJ q;refine⟨B,O,δ,x,δ',S,h1,fun v1 H1 R1=>ho H1 _ _ v1 x d Q R1.rep h2 fun p xs ds hp hr he=> ?_⟩;subst he;exact k p _ (mkN R1.sta R1.frm R1.pur hp hr)
theorem EO{r:RC}{o:dP->dP->Option dP}(ho:MK K r o)(hs:(pb || (ta && ia))=true){Q:VK}(h:TV K ml (pa && pb) true true (f2 o fa fb) σ H Q):tCB r (NO (TV K ml pa ta ia fa) (NO (TV K ml pb tb ib fb) BX)) σ H Q:=by
 obtain⟨B,O,δ,d,δ2,S,q,k⟩:=h;obtain⟨x,δ1,y,h1,h2,h3⟩:=RK q;refine⟨B,O,δ,x,δ1,S,h1,fun v1 H1 R1=>⟨B,O,δ1,y,δ2,R1.sta,h2,fun v2 H2 R2=> ?_⟩⟩;exact ho H2 _ _ _ _ v1 v2 x y d Q (R2.live hs R1.rep) R2.rep h3 fun v hv=>k v H2 ⟨R2.sta,R1.frm.trans R2.frm,fun z=>by
  obtain⟨z1,z2⟩:=(Ae _ _).mp z;exact(R1.pur z1).trans (R2.pur z2),hv _ _ _⟩
section
variable{x:Str}{p':Pos}{id T:String}{r:RC}
theorem NS{o:dP->Option dP}(hc:a8 X (.builtin id) r)(ho:CZ K r o)(hg:Gl X x)(hm:X.mg x=none)(hv:Bj x=some (.builtin id))(ha:PE X a (TV K ml pa ta ia fa))(hn:x≠ "__name__":=by decide) (hdb:(x==("__debug__":Str))=false:=by decide)
  (he:Ak (a::[]) X.env=(false,eval a X.env)::Ak [] X.env:=by rfl):PE X (.Call (.Name x p') [a] [] pos) (TV K ml pa true true (f1 o fa)):=
 (SW hc hg hm hv (cK ha aP he) hn hdb he).imp fun _ _ _ h=>EN ho h
theorem B4{o:dP->dP->Option dP}(hc:a8 X (.builtin id) r)(ho:MK K r o)(hg:Gl X x)(hm:X.mg x=none)(hv:Bj x=some (.builtin id))(ha:PE X a (TV K ml pa ta ia fa))(hb:PE X b (TV K ml pb tb ib fb))(hn:x≠ "__name__":=by decide) (hdb:(x==("__debug__":Str))=false:=by decide)
  (he:Ak (a::[b]) X.env=(false,eval a X.env)::Ak [b] X.env:=by rfl) (he2:Ak (b::[]) X.env=(false,eval b X.env)::Ak [] X.env:=by rfl) (hpl:(Fw pos (Ak [b] X.env)).any (·.1)=false:=by rfl) (hs:(pb || (ta && ia))=true:=by rfl):
  PE X (.Call (.Name x p') [a,b] [] pos) (TV K ml (pa && pb) true true (f2 o fa fb)):=
 (SW hc hg hm hv (cK ha (cK hb aP he2) he) hn hdb he hpl).imp fun _ _ _ h=>EO ho hs h
theorem NT{o:dP->Option dP}(hc:a8 X (.type T) r)(ho:CalC K r o)(hg:Gl X x)(hm:X.mg x=none)(hv:Bj x=some (.type T))(ha:PE X a (TV K ml pa ta ia fa))(hn:x≠ "__name__":=by decide) (hdb:(x==("__debug__":Str))=false:=by decide)
  (he:Ak (a::[]) X.env=(false,eval a X.env)::Ak [] X.env:=by rfl):PE X (.Call (.Name x p') [a] [] pos) (TV K ml pa true ia (f1 o fa)):=
 (XM hc hg hm hv (cK ha aP he) hn hdb he).imp fun _ _ _ h=>EM ho h
theorem CA{o:dP->Option dP}(hc:a8 X (.type T) r)(ho:CalN K r o)(hg:Gl X x)(hm:X.mg x=none)(hv:Bj x=some (.type T))(ha:PE X a (TV K ml pa ta true fa))(hn:x≠ "__name__":=by decide) (hdb:(x==("__debug__":Str))=false:=by decide)
  (he:Ak (a::[]) X.env=(false,eval a X.env)::Ak [] X.env:=by rfl):PE X (.Call (.Name x p') [a] [] pos) (TN K ml pa (f1 o fa)):=
 (XM hc hg hm hv (cK ha aP he) hn hdb he).imp fun _ _ _ h=>NP ho h
theorem B9{o:dP->Option dP}(hc:a8 X (.builtin id) r)(ho:CalN K r o)(hg:Gl X x)(hm:X.mg x=none)(hv:Bj x=some (.builtin id))(ha:PE X a (TV K ml pa ta true fa))(hn:x≠ "__name__":=by decide) (hdb:(x==("__debug__":Str))=false:=by decide)
  (he:Ak (a::[]) X.env=(false,eval a X.env)::Ak [] X.env:=by rfl):PE X (.Call (.Name x p') [a] [] pos) (TN K ml pa (f1 o fa)):=
 (SW hc hg hm hv (cK ha aP he) hn hdb he).imp fun _ _ _ h=>NP ho h
end
noncomputable def aR:dP->Option dP
 | .tup ds=>some (.int ds.length)
 | .lst ds=>some (.int ds.length)
 | .str z=>if z.length<=16777216 then some (.int z.length) else none
 |_=>none
def rLen(K:As):RC:=fun xs H Q=>(∃p ys,xs=[.ref p]/\(X1 K H p ys∨W4 K H p ys)/\Q (.int ys.length) H)∨ ∃z,xs=[.str z]/\z.length<=sizeLine/\Q (.int z.length) H
theorem zJ6(h:X.K=K):a8 X (.builtin "len") (rLen K):=by subst h;exact LK.or LL
theorem zI0:CZ K (rLen K) aR:=by
  intro H N M x d c Q hx h k;cases d<;>first
    | (rename_i ds
       obtain⟨a,xs,rfl,sq,r⟩:=hx.seq rfl;cases h;refine .inl ⟨a,xs,rfl,sq,?_⟩;rw[r.length];exact k _ fun _ _ _=> .int _)
    | (cases hx
       simp only[aR] at h;split at h
       · cases h
         exact .inr ⟨_,rfl,by rw[Dc];assumption,k _ fun _ _ _=> .int _⟩
       · cases h)
    |cases h
def NA(d:dP):Option dP:=(YS d).map dP.lst
def XF(d:dP):Option dP:=(YS d).map dP.tup
def A3(K:As):RC:=fun xs H Q=> ∃p ys,xs=[.ref p]/\(X1 K H p ys∨W4 K H p ys)/\ ∀l,H l=none->Q (.ref l) (bP H l (.lst ys))
def F4(K:As):RC:=fun xs H Q=> ∃p ys,xs=[.ref p]/\((X1 K H p ys/\ ∀l,H l=none->Q (.ref l) (bP H l (.tup ys)))∨(W4 K H p ys/\Q (.ref p) H))
theorem HG(h:X.K=K):a8 X (.type "list") (A3 K):=zJ5 h
theorem UP(h:X.K=K):a8 X (.type "tuple") (F4 K):=zGO h
theorem KO{d:dP}{g:List dP->dP}{c:dP}(h:(YS d).map g=some c): ∃ds,YS d=some ds/\c=g ds:=by
 cases h1:YS d with
 |none=>rw[h1] at h;cases h
 |some ds=>rw[h1] at h;cases h;exact⟨ds,rfl,rfl⟩
theorem U9:CalN K (A3 K) NA:=by
 intro H N M x d c Q hx h k;obtain⟨ds,h1,rfl⟩:=KO h;obtain⟨a,xs,rfl,sq,r⟩:=hx.seq h1;exact⟨a,xs,rfl,sq,fun l hl=>k l xs ds hl r rfl⟩
theorem UK:CalC K (F4 K) XF:=by
 intro H N M x d c Q hx h k;obtain⟨ds,h1,rfl⟩:=KO h;obtain⟨a,xs,rfl,sq,r⟩:=hx.seq h1;rcases sq with sq|sq
 ·exact⟨a,xs,rfl,.inl ⟨sq,fun l hl=>k _ _ (dJ hl) fun M hM=> .tup (W4.of c0) (r.same (dJ hl))⟩⟩
 ·exact⟨a,xs,rfl,.inr ⟨sq,k _ _ (bR.refl _) fun M hM=> .tup sq r⟩⟩
noncomputable def o2I(g:Int->Int->Int):dP->dP->Option dP
 | .int i,.int j=>some (.int (g i j))
 |_,_=>none
theorem BD{g:Int->Int->Int}:MK K (fun xs H Q=> ∃i j,xs=[.int i,.int j]/\Q (.int (g i j)) H) (o2I g):=by
 intro H N N' M M' x y d e c Q hx hy h k;unfold o2I at h;split at h
 ·cases h
  cases hx;cases hy;exact⟨_,_,rfl,k _ fun _ _ _=> .int _⟩
 ·cases h
abbrev oMax:=o2I fun i j=>if j>i then j else i
abbrev oMin:=o2I fun i j=>if j<i then j else i
theorem zHZ:MK K (fun xs H Q=> ∃i j,xs=[.int i,.int j]/\Q (.int (if j>i then j else i)) H) oMax:=BD
theorem zHY:MK K (fun xs H Q=> ∃i j,xs=[.int i,.int j]/\Q (.int (if j<i then j else i)) H) oMin:=BD
noncomputable def tyD:dP->Option String
 | .non=>some "NoneType"
 | .bl _=>some "bool"
 | .int _=>some "int"
 | .str _=>some "str"
 | .tup _=>some "tuple"
 | .lst _=>some "list"
 |_=>none
noncomputable def QU(t n:String):Option Bool:=if((Fl t)==(Fl n))=true then some true else if W.kitMeta n=true then(PySem.fastBuiltinMro t).map (·.contains (.type n)) else none
theorem zCX{t n:String}{k:Bool}(h:QU t n=some k):W.kitOne K (.type t) (.type n)=some k:=h
noncomputable def T5:dP->dP->Option dP
 |d,.ty n=>(tyD d).bind fun t=>(QU t n).map dP.bl
 |_,_=>none
def rIsi(K:As):RC:=fun xs H Q=> ∃x n d N M t k,xs=[x,.ty n]/\b6 K N H M x d/\tyD d=some t/\QU t n=some k/\Q (.bl k) H
theorem C9:a8 X (.builtin "isinstance") (rIsi X.K):=by
 intro aa s σ H xs us Q I r h;obtain⟨x,n,d,N,M,t,k,rfl,hx,ht,hk,q⟩:=h;obtain⟨u,c,rfl,rx,rc⟩:=GK r;cases (show c=Fl n from rc);have e:=zCX (K:=X.K) hk;have fin: ∀tk,EP X aa σ Q (.bool k) {s with toks:=tk}:=fun tk=>⟨.bl k,H,I.tok tk,rfl,q⟩;cases hx with
 |non=>cases ht;exact UO I rx (.non) e fin
 |bl y=>cases ht;exact UO I rx (.bl y) e fin
 |int i=>cases ht;exact UO I rx (.int i) e fin
 |str y=>cases ht;exact UO I rx (.str y) e fin
 |ty n=>cases ht
 |fn _=>cases ht
 |dct _ _ _=>cases ht
 |ktb _ _=>cases ht
 |exn _ _ _=>cases ht
 |exr _ _ _ _ _=>cases ht
 |tup q _=>
  cases ht;cases rx;obtain⟨its,_,⟨o,h1,h2,_⟩,_⟩:=I.tuple q;exact Fo W.kitx_tuple I.kIn ⟨o,h1,h2⟩ e (fun z=>nomatch z) fin
 |lst q _ _=>
  cases ht;cases rx;obtain⟨its,_,⟨o,n,h1,h2,_⟩,_⟩:=I.list (X1.of q);exact Fo Mi I.kIn ⟨o,h1,h2⟩ e (fun z=>nomatch z) fin
 |fzl q _=>
  cases ht;cases rx;obtain⟨its,_,⟨o,n,h1,h2,_⟩,_⟩:=I.list q.sq;exact Fo Mi I.kIn ⟨o,h1,h2⟩ e (fun z=>nomatch z) fin
theorem kIsi(h:X.K=K):a8 X (.builtin "isinstance") (rIsi K):=by subst h;exact C9
theorem zI1:MK K (rIsi K) T5:=by
  intro H N N' M M' x y d e c Q hx hy h k;cases hy<;>first
    | (simp only [T5] at h
       cases h1:tyD d with
       |none=>rw[h1] at h;cases h
       |some t=>
         rw[h1] at h;rename_i n;have h:(QU t n).map dP.bl=some c:=h;obtain⟨kk,h2,h⟩:=Aq.mp h;cases h;exact⟨x,n,d,N,M,t,kk,rfl,hx,h1,h2,k _ fun _ _ _=> .bl _⟩)
    |cases h
def PD:dP->Option dP
 | .int i=>some (.int (-i))
 |_=>none
theorem T9(ha:PE X a (TV K ml pa ta ia fa)):PE X (.UnaryOp .USub a pos) (TV K ml pa true true (f1 PD fa)):=(zIG zE2 ha).imp fun σ H Q hq0=>by
 obtain⟨B,O,δ,d,δ',S,q,k⟩:=hq0;obtain⟨x,h1,h2⟩:=RJ q;refine⟨B,O,δ,x,δ',S,h1,fun v1 H1 R1=> ?_⟩;cases x with
 |int i=>
  cases h2;have e1:v1= .int i:=by cases R1.rep;rfl
  exact⟨i,e1,k _ H1 ⟨R1.sta,R1.frm,R1.pur,.int _⟩⟩
 |_=>cases h2
abbrev VP:=Ev->Option (Option Int×Ev)
def TPO(K:As)(ml:List Nat)(pu:Bool)(f:VP):TO:=fun σ H Q=> ∃B O δ k δ',bB K ml B O H σ δ/\f δ=some (k,δ')/\ ∀H',C4 K ml B O H σ pu H' δ'->Q k H'
def CU:VP:=fun δ=>some (none,δ)
noncomputable def FX(f:VF):VP:=fun δ=>(f δ).bind fun p=>match p.1 with
 | .int i=>some (some i,p.2)
 |_=>none
theorem PO.imp{e:Option Expr}{t u:TO}(h:PO X e t)(k: ∀σ H Q,u σ H Q->t σ H Q):PO X e u:=fun aa s σ H Q I w=>h aa s σ H Q I (k σ H Q w)
theorem TD:PO X none (TPO K ml true CU):=zC4.imp fun σ H Q hq0=>by
 obtain⟨B,O,δ,d,δ',S,q,k⟩:=hq0;cases q;exact k H (C4.refl S)
theorem TF(h:PE X a (TV K ml pa ta ia fa)):PO X (some a) (TPO K ml pa (FX fa)):=(zC3 h).imp fun σ H Q hq0=>by
 obtain⟨B,O,δ,d,δ',S,q,k⟩:=hq0;unfold FX at q;obtain⟨⟨x,δ1⟩,h1,q⟩:=Aa.mp q;refine⟨B,O,δ,x,δ1,S,h1,fun v1 H1 R1=> ?_⟩;cases x with
 |int i=>
  have e1:v1= .int i:=by cases R1.rep;rfl
  cases q;exact⟨i,e1,k H1 ⟨R1.sta,R1.frm,R1.pur⟩⟩
 |_=>cases q
def XE(ds:List dP)(lo hi:Option Int):List dP:=(ds.drop (HT.sIx ds.length 0 lo)).take (HT.sIx ds.length ds.length hi - HT.sIx ds.length 0 lo)
theorem QC{N:Addr->Prop}{xs:List V}{ds:List dP}(r:cY K N H xs ds)(lo hi:Option Int):cY K N H (JH xs lo hi) (XE ds lo hi):=by
 unfold JH XE;rw[r.length];exact(r.drop _).take _
noncomputable def oSl(d:dP)(lo hi:Option Int):Option dP:=match d with
 | .lst ds=>some (.lst (XE ds lo hi))
 | .tup ds=>some (.tup (XE ds lo hi))
 |_=>none
noncomputable def E9(fa:VF)(fl fh:VP):VF:=fun δ=>(fa δ).bind fun p=>(fl p.2).bind fun l=>(fh l.2).bind fun u=>(oSl p.1 l.1 u.1).map fun c=>(c,u.2)
theorem EJ{prog:Bq}{w:World}{A:Cy}{E:Value->Af->Prop}{s:Af}{t sl:Addr}{items:Array Value}{vl vu:Value}{lo hi:Option Int}{Q:Value->Af->Prop}(ht:IsTup s.heap t items)(hs:s.heap.IsSliceOf sl vl vu .none)(pl:IsPart vl lo)
  (pu:IsPart vu hi) (h1:HT.sIx items.size 0 lo=0) (h2:HT.sIx items.size items.size hi=items.size) (h:Q (.ref t) s):wpAny (model prog w) A (Km (.ref t) (.ref sl)) Q E s:=by
 obtain⟨os,hos,hcs,hds⟩:=id hs;have hT:s.TypeIs (.ref sl) "slice":=⟨os,hos,hcs⟩;unfold Km;try with_reducible refine Ce ?_
 first|refine Ac (Aj ?_)|skip
 refine Ac (Jz ht.typeIs (by decide) ?_);refine Ac (Dh (name:=Aw "__getitem__") ht.typeIs Ed
  (Ec Ed ht.typeIs PyProof.Rows.entry_tuple_getitem ?_ (PyProof.Rows.args_tuple_getitem _ _)))
 show wpAny _ _ (Jq (.ref t)>>=_) _ _ s;refine Ac (PyProof.Rows.tupleItemsOf_ ht ?_);refine Ac (Ig hT ?_);rw[if_pos (by decide)];refine Ac (HT.WU hs pl pu ?_);rw[h1,h2];show wpAny _ _ (if((((0:Nat):Int)==0 && (1:Int)==1 && (items.size - 0)==items.size)=true) then _ else _) _ _ s;rw[if_pos (by simp)];refine Ac (m:=Qm _) (Ac (Ig ht.typeIs (Aj ?_)));rw[if_pos (by decide)];exact Ac (Gp (Aj ⟨_,rfl,Aj h⟩))
def rSlW(K:As):V->Option Int->Option Int->Hp->VK->Prop:=fun x lo hi H Q=> ∃a xs,x= .ref a/\W4 K H a xs/\(HT.sIx xs.length 0 lo=0/\HT.sIx xs.length xs.length hi=xs.length)/\Q (.ref a) H
theorem zBO:SlR X (rSlW X.K):=by
 intro aa s σ H x v vl vu lo hi sl Q I rx hs pl pu h;obtain⟨a,xs,rfl,hx,hw,q⟩:=h;cases rx;obtain⟨its,r,ht,hz⟩:=I.tuple hx;have ag:its.toArray.size=xs.length:=by rw[Av];exact r.length.symm
 refine⟨"tuple",_,PyProof.Rows.slot_tuple_getitem.lookup,ht.typeIs,?_⟩;exact EJ ht hs pl pu (by rw[ag];exact hw.1) (by rw[ag];exact hw.2) ⟨.ref a,H,I,rfl,q⟩
def rSl(K:As):V->Option Int->Option Int->Hp->VK->Prop:=fun x lo hi H Q=>(rSlT K x lo hi H Q∨rSlL K x lo hi H Q)∨rSlW K x lo hi H Q
theorem kSl(h:X.K=K):SlR X (rSl K):=by subst h;exact(zEC.or zBP).or zBO
theorem zD0{fl fh:VP}(h:E9 fa fl fh δ=some (d,δ')): ∃x δ1 l δ2 u,fa δ=some (x,δ1)/\fl δ1=some (l,δ2)/\fh δ2=some (u,δ')/\oSl x l u=some d:=by
 unfold E9 at h;cases h1:fa δ with
 |none=>rw[h1] at h;cases h
 |some p=>
  rw[h1] at h;cases h2:fl p.2 with
  |none=>simp[h2] at h
  |some q=>
   simp only[At,h2] at h;cases h3:fh q.2 with
   |none=>simp[h3] at h
   |some s=>
    simp only[At,h3] at h;obtain⟨c,h4,h⟩:=Aq.mp h;cases h;exact⟨p.1,p.2,q.1,q.2,s.1,rfl,h2,h3,h4⟩
theorem TC{lo hi:Option Expr}{p2:Pos}{fl fh:VP}(hK:X.K=K)(ha:PE X a (TV K ml pa ta ia fa))(hl:PO X lo (TPO K ml pb fl))(hh:PO X hi (TPO K ml pc fh))(hs:(pb && pc || (ta && ia))=true:=by rfl):
  PE X (.Subscript a (.Slice lo hi none p2) pos) (TV K ml (pa && pb && pc) true ia (E9 fa fl fh)):=(AM (kSl hK) ha hl hh).imp fun σ H Q hq0=>by
 obtain⟨B,O,δ,d,δ3,S,q,k⟩:=hq0;obtain⟨x,δ1,l,δ2,u,h1,h2,h3,h4⟩:=zD0 q;refine⟨B,O,δ,x,δ1,S,h1,fun v1 H1 R1=>⟨B,O,δ1,l,δ2,R1.sta,h2,fun H2 R2=>⟨B,O,δ2,u,δ3,R2.sta,h3,fun H3 R3=> ?_⟩⟩⟩;have hx:b6 K (av B O ia) H3 (at_ B O ta) v1 x:=by
  rcases(Er _ _).mp hs with z|z
  ·obtain⟨z1,z2⟩:=(Ae _ _).mp z
   exact(R1.rep.same (R2.pur z1)).same (R3.pur z2)
  ·obtain⟨z1,z2⟩:=(Ae _ _).mp z
   subst z1 z2;exact(R1.rep.fr R2.frm (fun a z=> .inr z) fun a z=> .inr z).fr R3.frm (fun a z=> .inr z) fun a z=> .inr z
 have ga:(pa && pb && pc)=true->bR H H3:=fun z=>by
  simp only[Ae] at z;exact((R1.pur z.1.1).trans (R2.pur z.1.2)).trans (R3.pur z.2)
 have hfr:=(R1.frm.trans R2.frm).trans R3.frm;cases x with
 |lst ds=>
  cases h4;obtain⟨a,xs,rfl,sq,r⟩:=hx.seq rfl;rcases sq with sq|sq
  ·exact .inl (.inr ⟨a,xs,rfl,sq,fun p hp=>k _ _ ⟨R3.sta.same (dJ hp),hfr.trans (dJ hp).fr,fun z=>(ga z).trans (dJ hp),.lst c0 (R3.sta.new hp) ((QC r l u).same (dJ hp))⟩⟩)
  ·cases hx with
   |lst q n r'=>exact .inl (.inr ⟨a,_,rfl,X1.of q,fun p hp=>k _ _ ⟨R3.sta.same (dJ hp),hfr.trans (dJ hp).fr,fun z=>(ga z).trans (dJ hp),.lst c0 (R3.sta.new hp) ((QC r' l u).same (dJ hp))⟩⟩)
   |fzl q r'=>exact .inl (.inr ⟨a,_,rfl,q.sq,fun p hp=>k _ _ ⟨R3.sta.same (dJ hp),hfr.trans (dJ hp).fr,fun z=>(ga z).trans (dJ hp),.lst c0 (R3.sta.new hp) ((QC r' l u).same (dJ hp))⟩⟩)
 |tup ds=>
  cases h4;cases hx with
  |tup q r'=>
   by_cases hw:HT.sIx ds.length 0 l=0/\HT.sIx ds.length ds.length u=ds.length
   ·refine .inr ⟨_,_,rfl,q,by rw [r'.length];exact hw,k _ _ ⟨R3.sta,hfr,ga,?_⟩⟩
    have e:XE ds l u=ds:=by
     unfold XE;rw[hw.1,hw.2];simp
    rw[e];exact .tup q r'
   ·exact .inl (.inl ⟨_,_,rfl,q,by rw[r'.length];exact hw,fun p hp=>k _ _ ⟨R3.sta.same (dJ hp),hfr.trans (dJ hp).fr,fun z=>(ga z).trans (dJ hp),.tup (W4.of c0) ((QC r' l u).same (dJ hp))⟩⟩)
 |_=>cases h4
end
inductive Ou where
 |nx (δ:Ev)|rt (d:dP) (δ:Ev)|bk (δ:Ev)|ct (δ:Ev)
abbrev VS:=Ev->Option Ou
def Post(K:As)(ml:List Nat)(B:Bs)(D:GU):Ou->Prop
 | .nx δ'=> ∀σ' H' O',bB K ml B O' H' σ' δ'->D.nx σ' H'
 | .rt d δ'=> ∀v σ' H' O',bB K ml B O' H' σ' δ'->b6 K (rz B) H' (rz B) v d->D.rt v H'
 | .bk δ'=> ∀σ' H' O',bB K ml B O' H' σ' δ'->D.bk σ' H'
 | .ct δ'=> ∀σ' H' O',bB K ml B O' H' σ' δ'->D.ct σ' H'
def UE(K:As)(ml:List Nat)(g:VS):TS:=fun D σ H=> ∃B O δ o,bB K ml B O H σ δ/\g δ=some o/\Post K ml B D o
section
variable{X:Cx}{K:As}{ml:List Nat}{e a b c:Expr}{es:List Expr}{pa ta ia pb tb ib pc tc ic pu bt bi ps bs:Bool}{fa fb fc f:VF}{B B':Bs}{O:Nat->Option Addr}{H H1 H':Hp}{σ:St}{δ δ':Ev}{v:V}{d:dP}{p:Addr}{pos:Pos}{st:Stmt}{rest:List Stmt}{g g':VS}
def aS:VS:=fun δ=>some (.nx δ)
def cU(g g':VS):VS:=fun δ=>(g δ).bind fun o=>match o with
 | .nx δ'=>g' δ'
 |o=>some o
theorem cX:QN X [] (UE K ml aS):=F1.imp fun D σ H hq0=>by
 obtain⟨B,O,δ,o,S,q,k⟩:=hq0;cases q;exact k σ H O S
theorem dM(h1:PS X st (UE K ml g))(h2:QN X rest (UE K ml g')):QN X (st::rest) (UE K ml (cU g g')):=(KD h1 h2).imp fun D σ H hq0=>by
 obtain⟨B,O,δ,o,S,q,k⟩:=hq0;unfold cU at q;obtain⟨z,h1,q⟩:=Aa.mp q;refine⟨B,O,δ,z,S,h1,?_⟩;cases z with
 |nx δ1=>exact fun σ' H' O' S'=>⟨B,O',δ1,o,S',q,k⟩
 |rt d δ1=>cases q;exact k
 |bk δ1=>cases q;exact k
 |ct δ1=>cases q;exact k
theorem dI(h1:PS X st (UE K ml g)):QN X [st] (UE K ml g):=(KD h1 F1).imp fun D σ H ⟨B,O,δ,o,S,q,k⟩=>⟨B,O,δ,o,S,q,by cases o<;>exact k⟩
noncomputable def cD(f:VF):VS:=fun δ=>(f δ).map fun p=> .rt p.1 p.2
theorem c9(h:PE X e (TV K ml pu bt bi f))(ht:bt=true:=by rfl):PS X (.Return (some e) pos) (UE K ml (cD f)):=(AR h).imp fun D σ H hq0=>by
 obtain⟨B,O,δ,o,S,q,k⟩:=hq0;unfold cD at q;obtain⟨p,h1,q⟩:=Aq.mp q;cases q;subst ht;exact⟨B,O,δ,p.1,p.2,S,h1,fun v H' R=>k v σ H' O R.sta (R.rep.mono R.sta.rza R.sta.rzn)⟩
theorem zBF{i:Nat}(h:PE X e (MD i))(hm:i∉ml:=by decide):PS X (.Return (some e) pos) (UE K ml (cD (fO i))):=(AR h).imp fun D σ H hq0=>by
 obtain⟨B,O,δ,o,S,q,k⟩:=hq0;unfold cD at q;obtain⟨⟨x,δ1⟩,h1,q⟩:=Aq.mp q;cases q;obtain⟨rfl,v,e1,r⟩:=S.lone hm h1;exact⟨v,e1,k v σ H O S (r.mono S.rza S.rza)⟩
def NI(f:VF):VS:=fun δ=>(f δ).map fun p=> .nx p.2
theorem MH(h:PE X e (TV K ml pu bt bi f))(hs:Gf e none pos.line X.env=pure false:=by rfl):PS X (.Expr e pos) (UE K ml (NI f)):=(F0 h hs).imp fun D σ H hq0=>by
 obtain⟨B,O,δ,o,S,q,k⟩:=hq0;unfold NI at q;obtain⟨p,h1,q⟩:=Aq.mp q;cases q;exact⟨B,O,δ,p.1,p.2,S,h1,fun v H' R=>k σ H' O R.sta⟩
def XA(t:VB)(g g':VS):VS:=fun δ=>(t δ).bind fun p=>if p.1=true then g p.2 else g' p.2
theorem bY{x y:List Stmt}{t:VB}(ht:PT X c (TB K ml pc t))(ha:QN X x (UE K ml g))(hb:QN X y (UE K ml g')):PS X (.If c x y pos) (UE K ml (XA t g g')):=(zIF ht ha hb).imp fun D σ H hq0=>by
 obtain⟨B,O,δ,o,S,q,k⟩:=hq0;unfold XA at q;obtain⟨⟨kk,δ1⟩,h1,q⟩:=Aa.mp q;refine⟨B,O,δ,kk,δ1,S,h1,fun H1 R1=> ?_⟩;cases kk with
 |true=>exact QW ⟨B,O,δ1,o,R1.sta,q,k⟩
 |false=>exact QV ⟨B,O,δ1,o,R1.sta,q,k⟩
abbrev VX:=Ev->Option (Sl×Ev)
inductive St1(K:As)(B:Bs)(O:Nat->Option Addr)(H:Hp):Bs->V->Sl->Prop
 |va {v:V} {d:dP}:St1 K B O H {B with kp:=[(v,d)]++B.kp} v (.va d)
 |ol {p:Addr} {xs:List V} {ds:List dP}:H p=some (.lst xs)->xs.length=ds.length-> ¬Nn B O p->B.H0 p=none->St1 K B O H {B.add p with kp:=xs.zip ds++B.kp} (.ref p) (.ow (.lst ds))
 |od {p:Addr} {kvs:List (b9×V)} {ds:List dP}:H p=some (.dK kvs)->kvs.length=ds.length-> ¬Nn B O p->B.H0 p=none->St1 K B O H {B.add p with kp:=(kvs.map Du).zip ds++B.kp} (.ref p) (.ow (.dct (kvs.map Ct) ds))
theorem St1.fr{s:Sl}(h:St1 K B O H B' v s)(f:Fr (OA O) H H'):St1 K B O H' B' v s:=by
 cases h with
 |va=>exact .va
 |ol q l n z=>exact .ol (f _ _ q fun w=>absurd (.inr w) n) l n z
 |od q l n z=>exact .od (f _ _ q fun w=>absurd (.inr w) n) l n z
def TX(K:As)(ml:List Nat)(f:VX):TE:=fun σ H Q=> ∃B O δ s δ',bB K ml B O H σ δ/\f δ=some (s,δ')/\ ∀v H' B',bB K ml B' O H' σ δ'->St1 K B O H' B' v s->Fr (OA O) H H'->Q v H'
noncomputable def xV(f:VF):VX:=fun δ=>(f δ).map fun p=>(.va p.1,p.2)
noncomputable def xO(f:VF):VX:=fun δ=>(f δ).map fun p=>(.ow p.1,p.2)
theorem aF(h:PE X e (TV K ml pu true true f)):PE X e (TX K ml (xV f)):=h.imp fun σ H Q hq0=>by
 obtain⟨B,O,δ,o,δ',S,q,k⟩:=hq0;unfold xV at q;obtain⟨p,h1,q⟩:=Aq.mp q;cases q;exact⟨B,O,δ,p.1,p.2,S,h1,fun v H' R=>k v H' _ (R.sta.keepV (ps:=[(v,p.1)]) fun z hz=>by
  rw[Ax.mp hz];exact R.rep) .va R.frm⟩
theorem UU{N:Addr->Prop}: ∀{xs:List V} {ds:List dP},cY K N H xs ds-> ∀z∈xs.zip ds,b6 K N H N z.1 z.2
 |_,_,.nil,z,hz=>nomatch hz
 |_,_,.cons h t,z,hz=>by
  rcases Al.mp hz with e|e
  ·rw[e];exact h
  ·exact UU t z e
theorem WK{N:Addr->Prop}: ∀{xs:List V} {ds:List dP},xs.length=ds.length->(∀z∈xs.zip ds,b6 K N H N z.1 z.2)->cY K N H xs ds
 |[],[],_,_=> .nil
 |x::xs,d::ds,hl,h=> .cons (h (x,d) (Ai ..)) (WK (by simpa using hl) fun z hz=>h z (Ah _ hz))
theorem VO(h:PE X e (TN K ml pu f)):PE X e (TX K ml (xO f)):=h.imp fun σ H Q hq0=>by
 obtain⟨B,O,δ,o,δ',S,q,k⟩:=hq0;unfold xO at q;cases h1:f δ with
 |none=>rw[h1] at q;cases q
 |some p=>
  obtain⟨d,δ1⟩:=p;rw[h1] at q;cases q;refine⟨B,O,δ,d,δ1,S,h1,fun p H' R=> ?_⟩;have w:=R.own;cases w with
  |lst q r=>exact k _ H' _ (R.sta.keepV (UU r)) (.ol q r.length R.nz R.h0) R.frm
  |dct q r=>exact k _ H' _ (R.sta.keepV (UU r)) (.od q (by simpa using r.length) R.nz R.h0) R.frm
theorem St1.bind{O':Nat->Option Addr}{s:Sl}{i:Nat}(h:St1 K B O H' B' v s)(S:bB K ml B' O' H' σ δ)(hm:i∉ml)(hl:i<δ.length): ∃O'',bB K ml B O'' H' (σ.set i (some v)) (δ.set i s):=by
 cases h with
 |va=>
  refine⟨_,bB.unkeep (ps:=_) (S.setVa hm (S.kep _ (Bo _ (Ax.mpr rfl))))⟩
 |ol q l n z=>
  refine⟨_,bB.setOw (bB.unkeep (B:=B.add _) S) hm hl (fun w=>n (.inl w)) z (.lst q (WK l fun z hz=>S.kep z (Bo _ hz)))⟩
 |od q l n z=>
  refine⟨_,bB.setOw (bB.unkeep (B:=B.add _) S) hm hl (fun w=>n (.inl w)) z (.dct q (WK (by simpa using l) fun z hz=>S.kep z (Bo _ hz)))⟩
noncomputable def aV(i:Nat)(x:VX):VS:=fun δ=>(x δ).bind fun p=>if i<p.2.length then some (.nx (p.2.set i p.1)) else none
theorem bL{i:Nat}{y:Str}{x:VX}{bm:Pos}(hN:X.N.Nodup)(he:PE X e (TX K ml x))(hi:X.N[i]? =some y:=by rfl)(hx:GV X.env.scope y:=by first|exact .inl rfl|exact .inr rfl)(hm:i∉ml:=by decide)(hs:Gf e (some (.Name y bm)) pos.line X.env=pure false:=by rfl)
  (hf:X.fn y=true∨X.env.scope.names.lookup y=some .local:=by first|exact .inl rfl|exact .inr rfl|assumption):PS X (.Assign [.Name y bm] e pos) (UE K ml (aV i x)):=(zEZ hN hi hx he hs hf).imp fun D σ H hq0=>by
 obtain⟨B,O,δ,o,S,q,k⟩:=hq0;unfold aV at q;obtain⟨⟨s,δ1⟩,h1,q⟩:=Aa.mp q;have q:(if i<δ1.length then some (Ou.nx (δ1.set i s)) else none)=some o:=q;split at q
 ·rename_i hl
  cases q;refine⟨B,O,δ,s,δ1,S,h1,fun v H' B' S' h' f'=> ?_⟩;obtain⟨O'',S''⟩:=h'.bind S' hm hl;exact k _ _ _ S''
 ·cases q
noncomputable def Q8(i j:Nat)(x y:VX):VS:=fun δ=>(x δ).bind fun p=>(y p.2).bind fun q=>if i<q.2.length/\j<q.2.length then some (.nx ((q.2.set j q.1).set i p.1)) else none
theorem zBH{i j:Nat}{y z:Str}{fx fy:VX}{px py pt:Pos}{kt k2 pt2}(hc:X.calm=true)(hN:X.N.Nodup)(hi:X.N[i]? =some y)(hj:X.N[j]? =some z)(hij:i≠j)
  (hx:X.env.scope.names.lookup y=some .local) (hy:X.env.scope.names.lookup z=some .local) (ha:PE X a (TX K ml fx)) (hb:PE X b (TX K ml fy))
  (hw:Fd [.Tuple [.Name y px,.Name z py] kt pt] (.Tuple [a,b] k2 pt2) X.env=pure (some [y,z])) (hmi:i∉ml:=by decide) (hmj:j∉ml:=by decide)
  (hs:Fc [.Tuple [.Name y px,.Name z py] kt pt] (.Tuple [a,b] k2 pt2) pos.line X.env=pure false:=by rfl)
  (he:Ak (a::[b]) X.env=(false,eval a X.env)::Ak [b] X.env:=by rfl) (he2:Ak (b::[]) X.env=(false,eval b X.env)::Ak [] X.env:=by rfl):
  PS X (.Assign [.Tuple [.Name y px,.Name z py] kt pt] (.Tuple [a,b] k2 pt2) pos) (UE K ml (Q8 i j fx fy)):=(zF0 hc hN hi hj hij hx hy (cK ha (cK hb aP he2) he) hw hs).imp fun D σ H hq0=>by
 obtain⟨B,O,δ,o,S,q,k⟩:=hq0;unfold Q8 at q;obtain⟨⟨s,δ1⟩,h1,q⟩:=Aa.mp q;cases h2:fy δ1 with
 |none=>simp[h2] at q
 |some p2=>
  obtain⟨s2,δ2⟩:=p2;simp only[At,h2] at q;split at q
  ·rename_i hl
   cases q;refine⟨B,O,δ,s,δ1,S,h1,fun v H1 B1 S1 w1 f1=>⟨B1,O,δ1,s2,δ2,S1,h2,fun v2 H2 B2 S2 w2 f2=>⟨v,v2,rfl,?_⟩⟩⟩;obtain⟨O3,S3⟩:=w2.bind S2 hmj hl.2;obtain⟨O4,S4⟩:=(w1.fr f2).bind S3 hmi (by rw[Cd];exact hl.1);rw[Dx _ _ (Dg hij)] at S4;exact k _ _ _ S4
  ·cases q
abbrev VG:=dP->Ev->Option Ev
def EV(K:As)(ml:List Nat)(h:VG):TG:=fun v σ H Q=> ∃B O δ d δ',bB K ml B O H σ δ/\b6 K (Nn B O) H (Nn B O) v d/\h d δ=some δ'/\ ∀σ' O',bB K ml B O' H σ' δ'->(∀i∈ml,σ'[i]? =σ[i]?)->Q σ' H
theorem PG.imp{t u:TG}(h:PG X e t)(k: ∀v σ H Q,u v σ H Q->t v σ H Q):PG X e u:=fun aa s σ H v w Q I r z=>h aa s σ H v w Q I r (k v σ H Q z)
theorem EU.imp{t u:C6}(h:EU X es t)(k: ∀v σ H Q,u v σ H Q->t v σ H Q):EU X es u:=fun aa s σ H v w Q I r z=>h aa s σ H v w Q I r (k v σ H Q z)
theorem PG.or{t u:TG}(h:PG X e t)(h':PG X e u):PG X e (fun v σ H Q=>t v σ H Q∨u v σ H Q):=fun aa s σ H v w Q I r z=>by
 rcases z with z|z
 ·exact h aa s σ H v w Q I r z
 ·exact h' aa s σ H v w Q I r z
def gN(i:Nat):VG:=fun d δ=>some (δ.set i (.va d))
theorem c7{i:Nat}{x:Str}(hN:X.N.Nodup)(hi:X.N[i]? =some x:=by rfl)(hx:GV X.env.scope x:=by first|exact .inl rfl|exact .inr rfl)(hm:i∉ml:=by decide)(hf:X.fn x=true∨X.env.scope.names.lookup x=some .local:=by first|exact .inl rfl|exact .inr rfl|assumption):PG X (.Name x pos) (EV K ml (gN i)):=
 (UR hN hi hx hf).imp fun v σ H Q hq0 => by
  obtain⟨B,O,δ,d,δ',S,r,q,k⟩:=hq0;cases q;exact k _ _ (S.setVa hm r) fun j hj=>Bw fun(z:i=j)=>hm (z▸hj)
abbrev CO:=List dP->Ev->Option Ev
def TGVs(K:As)(ml:List Nat)(h:CO):C6:=fun vs σ H Q=> ∃B O δ ds δ',bB K ml B O H σ δ/\cY K (Nn B O) H vs ds/\h ds δ=some δ'/\ ∀σ' O',bB K ml B O' H σ' δ'->(∀i∈ml,σ'[i]? =σ[i]?)->Q σ' H
def W7:CO:=fun ds δ=>match ds with
 |[]=>some δ
 |_=>none
def bI(g:VG)(gs:CO):CO:=fun ds δ=>match ds with
 |d::r=>(g d δ).bind fun δ1=>gs r δ1
 |[]=>none
theorem XZ:EU X [] (TGVs K ml W7):=L4.imp fun vs σ H Q hq0=>by
 obtain⟨B,O,δ,ds,δ',S,r,q,k⟩:=hq0;cases r with
 |nil=>cases q;exact⟨rfl,k _ _ S fun _ _=>rfl⟩
 |cons _ _=>cases q
theorem bU{g:VG}{gs:CO}(h1:PG X e (EV K ml g))(h2:EU X es (TGVs K ml gs))(hs:(assignEach (e::es) X.env).map (·.2)=Ex e X.env::(assignEach es X.env).map (·.2):=by rfl):EU X (e::es) (TGVs K ml (bI g gs)):=
 (WS h1 h2 hs).imp fun vs σ H Q hq0 => by
  obtain⟨B,O,δ,ds,δ',S,r,q,k⟩:=hq0;cases r with
  |nil=>cases q
  | @cons v vs d ds h t=>
   have q:((g d δ).bind fun δ1=>gs ds δ1)=some δ':=q;obtain⟨δ1,h1,q⟩:=Aa.mp q;have S0:=S.keepV (UU t);exact⟨v,vs,rfl,_,O,δ,d,δ1,S0,h,h1,fun σ1 O1 S1 m1=>⟨B,O1,δ1,ds,δ',S1.unkeep,WK t.length fun z hz=>S1.kep z (Bo _ hz),q,fun σ2 O2 S2 m2=>k σ2 O2 S2 fun i hi=>(m2 i hi).trans (m1 i hi)⟩⟩
def IV(n:Nat)(gs:CO):VG:=fun d δ=>(YS d).bind fun ds=>if ds.length=n then gs ds δ else none
theorem WO{gs:CO}{k n:Nat}(hK:X.K=K)(hc:X.calm=true)(h:EU X es (TGVs K ml gs))(hn:(assignEach es X.env).length=n:=by rfl)(hst:(assignEach es X.env).findIdx? (·.1)=none:=by rfl):PG X (.Tuple es k pos) (EV K ml (IV n gs)):=
 ((zAK (K := K) hK hc h hn hst).or (zJ4 (K := K) hK hc h hn hst)).imp fun v σ H Q hq0 => by
  obtain⟨B,O,δ,d,δ',S,r,q,k⟩:=hq0;unfold IV at q;obtain⟨ds,h1,q⟩:=Aa.mp q;have q:(if ds.length=n then gs ds δ else none)=some δ':=q;split at q
  ·rename_i hl
   obtain⟨a,xs,rfl,sq,ra⟩:=r.seq h1;have fin:TGVs K ml gs xs σ H Q:=⟨B,O,δ,ds,δ',S,ra,q,k⟩;rcases sq with sq|sq
   ·exact .inr ⟨a,xs,rfl,sq,ra.length.trans hl,fin⟩
   ·exact .inl ⟨a,xs,rfl,sq,ra.length.trans hl,fin⟩
  ·cases q
noncomputable def BE(f:VF)(g:VG):VS:=fun δ=>(f δ).bind fun p=>(g p.1 p.2).map Ou.nx
theorem CD{tg:Expr}{gg:VG}(he:PE X e (TV K ml pu true true f))(hg:PG X tg (EV K ml gg))(hs:Fc [tg] e pos.line X.env=pure false:=by rfl)(hw:Fd [tg] e X.env=pure none:=by rfl)
  (h1:(assignEach [tg] X.env).map (·.2)=[Ex tg X.env]:=by rfl):PS X (.Assign [tg] e pos) (UE K ml (BE f gg)):=(L5 he hg hs hw h1).imp fun D σ H hq0=>by
 obtain⟨B,O,δ,o,S,q,k⟩:=hq0;unfold BE at q;obtain⟨⟨d,δ1⟩,h1,q⟩:=Aa.mp q;have q:(gg d δ1).map Ou.nx=some o:=q;obtain⟨δ2,h2,q⟩:=Aq.mp q;cases q;exact⟨B,O,δ,d,δ1,S,h1,fun v H' R=>⟨B,O,δ1,d,δ2,R.sta,R.rep,h2,fun σ' O' S' _=>k σ' H' O' S'⟩⟩
def MuV(K:As)(r:V->List V->Hp->VK->Prop)(m:List dP->List dP->Option (List dP)):Prop:= ∀(H:Hp) (N:Addr->Prop) (l:Addr) (xs vs:List V) (ds es ds':List dP) (Q:VK),
 H l=some (.lst xs)->N l->cY K N H xs ds->cY K N H vs es->m ds es=some ds'->(∀v xs',cY K N H xs' ds'->Q v (bP H l (.lst xs')))->r (.ref l) vs H Q
noncomputable def QX(δ:Ev)(i:Nat):Option (List dP):=match δ[i]? with
 |some (.ow (.lst ds))=>some ds
 |_=>none
noncomputable def VE(i:Nat)(m:List dP->List dP->Option (List dP))(fs:N8):VS:=fun δ=>(QX δ i).bind fun _=>(fs δ).bind fun p=>(QX p.2 i).bind fun ds=>(m ds p.1).map fun ds'=> .nx (p.2.set i (.ow (.lst ds')))
theorem NE{i:Nat}{ds:List dP}(h:QX δ i=some ds):δ[i]? =some (.ow (.lst ds)):=by
 unfold QX at h;split at h
 ·cases h;assumption
 ·cases h
theorem KJ{N:Addr->Prop}{l:Addr}{o:HO}{xs:List V}{ds ys:List dP}{zs:List V}(ho:H l=some (.lst zs))(hN:N l)(h:cY K N H xs ds):cY K N (bP H l o) xs ds:=
 h.fr (P:=fun b=>b=l) (fun b u q n=>by
  by_cases hb:b=l
  ·subst hb
   rw[ho] at q;cases q;exact absurd (n rfl) fun z=>z
  ·rw[cE hb]
   exact q) fun a z=>z▸hN
theorem Y3{i:Nat}{x:Str}{name:Str}{am af f8:Pos}{id:String}{r:V->List V->Hp->VK->Prop}{m:List dP->List dP->Option (List dP)}{fs:N8}(hK:X.K=K)(slot:Slot "list" name id) (hty:typeOf (.builtin id)=pure (.type "method_descriptor")) (hm:MtR X id r) (hmu:MuV K r m)
  (ho:PE X (.Name x f8) (MD i)) (ha:PA X (e::es) (TAV K ml pu true fs))
  (cp:Hi (.Name x f8) name X.env (eval (.Name x f8) X.env)=eval (.Name x f8) X.env:=by rfl)
  (eg : ((Fw af (Ak (e :: es) X.env)).all (fun x => !x.1) && (Mw af (Ja [] X.env)).all (fun x => x.1.isSome)
   && decide ((e::es).length+([]:List Jb).length+(if([]:List Jb).isEmpty then 0 else 1)<30))=true:=by rfl)
  (cg:(am.endLine==af.line)=true:=by rfl) (hs:Ak (e::es) X.env=(false,eval e X.env)::Ak es X.env:=by rfl) (bn:(Fw af (Ak es X.env)).any (·.1)=false:=by rfl)
  (hsw:Gf (.Call (.Attribute (.Name x f8) name am) (e::es) [] af) none pos.line X.env=pure false:=by rfl):
  PS X (.Expr (.Call (.Attribute (.Name x f8) name am) (e::es) [] af) pos) (UE K ml (VE i m fs)):=
 (F0 (kBm (K := K) hK Kp slot hty hm ho ha cp eg cg hs bn) hsw).imp fun D σ H hq0 => by
  obtain⟨B,O,δ,o,S,q,k⟩:=hq0;unfold VE at q;obtain⟨ds0,h0,q⟩:=Aa.mp q;have q:((fs δ).bind fun p=>(QX p.2 i).bind fun ds=>(m ds p.1).map fun ds'=>Ou.nx (p.2.set i (.ow (.lst ds'))))=some o:=q;obtain⟨⟨es',δ1⟩,h1,q⟩:=Aa.mp q;have q:((QX δ1 i).bind fun ds=>(m ds es').map fun ds'=>Ou.nx (δ1.set i (.ow (.lst ds'))))=some o:=q;obtain⟨ds,h2,q⟩:=Aa.mp q;have q:((m ds es').map fun ds'=>Ou.nx (δ1.set i (.ow (.lst ds'))))=some o:=q;cases h3:m ds es' with
  |none=>rw[h3] at q;cases q
  |some ds'=>
   rw[h3] at q;cases q;obtain⟨l,e1,e2,w⟩:=S.ow i _ (NE h0);cases w with
   |lst hl0 _=>
    refine⟨.ref l,e2,.inl ⟨rfl,_,X1.of hl0⟩,B,O,δ,es',δ1,S,h1,fun vs H1 R=> ?_⟩;obtain⟨l',e3,_,w1⟩:=R.sta.ow i _ (NE h2);rw[e1] at e3;cases e3;cases w1 with
    |lst hl1 r1=>
     refine hmu H1 (Nn B O) l _ vs ds es' ds' _ hl1 (.inr ⟨i,e1⟩) r1 R.rep h3 fun v xs' r2=> ?_;exact k σ _ O (R.sta.wrote e1 (fun z=>z) (.lst c0 (KJ (ys:=[]) hl1 (.inr ⟨i,e1⟩) r2)))
noncomputable def UG:List dP->List dP->Option (List dP)
 |ds,[d]=>if ds.length<16777216 then some (ds++[d]) else none
 |_,_=>none
theorem YK:MuV K F2 UG:=by
 intro H N l xs vs ds es ds' Q hl hN rx re h k;cases re with
 |nil=>cases h
 | @cons v vs d es hd t=>
  cases t with
  |cons _ _=>cases h
  |nil=>
   simp only[UG] at h;split at h
   ·rename_i hz
    cases h;exact⟨l,xs,v,rfl,rfl,hl,by rw[rx.length,Dc];exact hz,k _ _ (rx.snoc hd)⟩
   ·cases h
end
section
variable{X:Cx}{K:As}{ml:List Nat}{e a b c:Expr}{es:List Expr}{pa ta ia pb tb ib pc tc ic pu bt bi ps bs:Bool}{fa fb fc f:VF}{B B':Bs}{O:Nat->Option Addr}{H H1 H':Hp}{σ:St}{δ δ':Ev}{v:V}{d:dP}{p:Addr}{pos:Pos}{st:Stmt}{rest:List Stmt}{g g':VS}
def again(nxt:VS):Ou->Option Ou
 | .nx δ=>nxt δ
 | .ct δ=>nxt δ
 | .bk δ=>some (.nx δ)
 | .rt d δ=>some (.rt d δ)
noncomputable def bM(t:VB)(g:VS):Nat->VS
 |0=>fun _=>none
 |n+1=>fun δ=>(t δ).bind fun p=>if p.1=true then(g p.2).bind (again (bM t g n)) else some (.nx p.2)
theorem VQ{t:VB}: ∀{n:Nat} {δ:Ev} {o:Ou},bM t g n δ=some o->bM t g (n+1) δ=some o
 |0,_,_,h=>by cases h
 | n + 1,δ,o,h => by
  dsimp only[bM] at h;show((t δ).bind fun p=>if p.1=true then(g p.2).bind (again (bM t g (n+1))) else some (.nx p.2))=some o;cases h1:t δ with
  |none=>rw[h1] at h;cases h
  |some p=>
   rw[h1] at h;obtain⟨kk,δ1⟩:=p;cases kk with
   |false=>exact h
   |true=>
    have h:(g δ1).bind (again (bM t g n))=some o:=h;show(g δ1).bind (again (bM t g (n+1)))=some o;cases h2:g δ1 with
    |none=>rw[h2] at h;cases h
    |some z=>
     rw[h2] at h;cases z with
     |nx δ2=>exact VQ (n:=n) h
     |ct δ2=>exact VQ (n:=n) h
     |bk δ2=>exact h
     |rt d δ2=>exact h
theorem UB{t:VB}{n:Nat}{o:Ou}(h:bM t g n δ=some o): ∀k,bM t g (n+k) δ=some o
 |0=>h
 |k+1=>VQ (UB h k)
theorem IT{t:VB}{n m:Nat}{o o':Ou}(h:bM t g n δ=some o)(h':bM t g m δ=some o'):o=o':=by
 have e1:=UB h m;have e2:=UB h' n;rw[Nat.add_comm] at e2;rw[e1] at e2;exact Cb e2
open Classical in
noncomputable def T8(t:VB)(g:VS):VS:=fun δ=>if h: ∃o n,bM t g n δ=some o then some (Classical.choose h) else none
theorem NL{t:VB}{n:Nat}{o:Ou}(h:bM t g n δ=some o):T8 t g δ=some o:=by
 have hx: ∃o n,bM t g n δ=some o:=⟨o,n,h⟩;unfold T8;rw[dif_pos hx];obtain⟨m,hm⟩:=Lr hx;rw[IT hm h]
theorem IC{t:VB}{o:Ou}(h:T8 t g δ=some o): ∃n,bM t g n δ=some o:=by
 unfold T8 at h;split at h
 ·rename_i hx
  cases h;exact Lr hx
 ·cases h
theorem K3{body:List Stmt}{t:VB}(hp:Pn (model X.prog X.w) X.A X.env X.xe)(hc:PT X c (TB K ml pc t))(hb:QN X body (UE K ml g)):PS X (.While c body [] pos) (UE K ml (T8 t g)):=(AT hp hc hb).imp fun D σ H hq0=>by
 obtain⟨B,O,δ,o,S,q,k⟩:=hq0;obtain⟨n,hn⟩:=IC q;refine⟨fun m σ H=> ∃O δ,bB K ml B O H σ δ/\bM t g m δ=some o,⟨n,O,δ,S,hn⟩,?_⟩;rintro m σ H ⟨O,δ,S,hm⟩;cases m with
 |zero=>cases hm
 |succ m=>
  dsimp only[bM] at hm;obtain⟨⟨kk,δ1⟩,h1,hm⟩:=Aa.mp hm;refine⟨B,O,δ,kk,δ1,S,h1,fun H1 R1=> ?_⟩;cases kk with
  |false=>
   have hm:some (Ou.nx δ1)=some o:=hm;cases hm;exact QV (k σ H1 O R1.sta)
  |true=>
   have hm:(g δ1).bind (again (bM t g m))=some o:=hm;obtain⟨z,h2,hm⟩:=Aa.mp hm;refine QW ⟨fun σ' H'=> ∃O δ,bB K ml B O H' σ' δ/\bM t g m δ=some o,fun σ' H' w=>⟨m,Ow _,w⟩,B,O,δ1,z,R1.sta,h2,?_⟩;cases z with
   |nx δ2=>exact fun σ' H' O' S'=>⟨O',δ2,S',hm⟩
   |ct δ2=>exact fun σ' H' O' S'=>⟨O',δ2,S',hm⟩
   |bk δ2=>cases hm;exact fun σ' H' O' S'=>k σ' H' O' S'
   |rt d δ2=>cases hm;exact fun v σ' H' O' S' r=>k v σ' H' O' S' r
def Walk(K:As)(J:It)(kps:List (V×dP))(ds:List dP):Prop:= ∀(N:Addr->Prop) (H:Hp),(∀p∈kps,b6 K N H N p.1 p.2)→
 (∀(i:Nat) (d:dP),ds[i]? =some d->J.go i H/\ ∀x H',J.yld i H x H'->bR H H'/\b6 K N H' N x d)/\J.stop ds.length H
abbrev VI:=Ev->Option (List dP×Ev)
def GX(K:As)(ml:List Nat)(pu:Bool)(f:VI):TI:=fun σ H R=> ∃B O δ ds δ',bB K ml B O H σ δ/\f δ=some (ds,δ')∧
 ∀J kps H',bB K ml {B with kp:=kps++B.kp} O H' σ δ'->Fr (OA O) H H'->(pu=true->bR H H')->Walk K J kps ds->R J H'
theorem PI.imp{tg:Expr}{t u:TI}(h:PI X tg e t)(k: ∀σ H R,u σ H R->t σ H R):PI X tg e u:=fun aa s σ H R I w=>h aa s σ H R I (k σ H R w)
theorem PI.or{tg:Expr}{t u:TI}(h:PI X tg e t)(h':PI X tg e u):PI X tg e (fun σ H R=>t σ H R∨u σ H R):=fun aa s σ H R I z=>by
 rcases z with z|z
 ·exact h aa s σ H R I z
 ·exact h' aa s σ H R I z
noncomputable def ZZ(f:VF):VI:=fun δ=>(f δ).bind fun p=>(YS p.1).map fun ds=>(ds,p.2)
theorem CI{a:Addr}{ds:List dP}:Walk K (Itl K a) [(.ref a,.lst ds)] ds:=by
 intro N H h;have r:=h _ (Ax.mpr rfl);have fin: ∀xs,X1 K H a xs->cY K N H xs ds->(∀(i:Nat) (d:dP),ds[i]? =some d->(Itl K a).go i H/\ ∀x H',(Itl K a).yld i H x H'->bR H H'/\b6 K N H' N x d)/\(Itl K a).stop ds.length H:=fun xs sq r=>by
  refine⟨fun i d e=> ?_,xs,sq,by rw[r.length];exact Ao _⟩;obtain⟨x,e1,r1⟩:=r.get e;refine⟨⟨xs,x,sq,e1⟩,fun y H' hy=> ?_⟩;obtain⟨e2,e3⟩:=hy;subst e2;have:=e3 xs sq;rw[e1] at this;cases this;exact⟨bR.refl _,r1⟩
 cases r with
 |lst q n r=>exact fin _ (X1.of q) r
 |fzl q r=>exact fin _ q.sq r
theorem CK{a:Addr}{ds:List dP}:Walk K (Itt K a) [(.ref a,.tup ds)] ds:=by
 intro N H h;have r:=h _ (Ax.mpr rfl);cases r with
 |tup sq r=>
  refine⟨fun i d e=> ?_,_,sq,by rw[r.length];exact Ao _⟩;obtain⟨x,e1,r1⟩:=r.get e;refine⟨⟨_,x,sq,e1⟩,fun y H' hy=> ?_⟩;obtain⟨e2,e3⟩:=hy;subst e2;have:=e3 _ sq;rw[e1] at this;cases this;exact⟨bR.refl _,r1⟩
theorem aB{tg:Expr}(hK:X.K=K)(h:PE X e (TV K ml pu true true f)):PI X tg e (GX K ml pu (ZZ f)):=((zAJ (K:=K) hK h).or (zDP (K:=K) hK h)).imp fun σ H R hq0=>by
 obtain⟨B,O,δ,ds,δ',S,q,k⟩:=hq0;unfold ZZ at q;obtain⟨⟨x,δ1⟩,h1,q⟩:=Aa.mp q;cases x with
 |lst ds'=>
  cases q;refine .inl ⟨B,O,δ,_,δ1,S,h1,fun v H1 R1=> ?_⟩;obtain⟨a,xs,rfl,sq,r⟩:=R1.rep.seq rfl;refine⟨a,rfl,?_,k _ [(.ref a,.lst ds)] H1 (R1.sta.keepV fun p hp=>by rw[Ax.mp hp];exact R1.rep) R1.frm R1.pur CI⟩;have r:=R1.rep;cases r with
  |lst q _ _=>exact⟨_,X1.of q⟩
  |fzl q _=>exact⟨_,q.sq⟩
 |tup ds'=>
  cases q;refine .inr ⟨B,O,δ,_,δ1,S,h1,fun v H1 R1=> ?_⟩;obtain⟨a,xs,rfl,sq,r⟩:=R1.rep.seq rfl;refine⟨a,rfl,?_,k _ [(.ref a,.tup ds)] H1 (R1.sta.keepV fun p hp=>by rw[Ax.mp hp];exact R1.rep) R1.frm R1.pur CK⟩;have r:=R1.rep;cases r with
  |tup q _=>exact⟨_,q⟩
 |_=>cases q
def bZ(lo:Int)(n:Nat):List dP:=(Am n).map fun k:Nat=> .int (lo+k)
noncomputable def HD(f:VF):VI:=fun δ=>(f δ).bind fun p=>match p.1 with
 | .int j=>if -4611686018427387904<=j/\j<4611686018427387904 then some (bZ 0 j.toNat,p.2) else none
 |_=>none
noncomputable def CP(f g:VF):VI:=fun δ=>(f δ).bind fun p=>(g p.2).bind fun q=>match p.1,q.1 with
 | .int i,.int j=>if(-4611686018427387904<=i/\i<4611686018427387904)/\ -4611686018427387904<=j/\j<4611686018427387904 then some (bZ i (j - i).toNat,q.2) else none
 |_,_=>none
theorem A9{lo:Int}{n i:Nat}{d:dP}(h:(bZ lo n)[i]? =some d):i<n/\d= .int (lo+i):=by
 unfold bZ at h;rw[Cv] at h;obtain⟨k,h1,h⟩:=Aq.mp h;cases h;have:=Ag.mp h1;obtain⟨hl,e⟩:=this;rw[Eo] at hl;rw[List.getElem_range] at e;subst e;exact⟨hl,rfl⟩
theorem K4{lo:Int}{n:Nat}:Walk K (Itr lo n) [] (bZ lo n):=by
 intro N H _;refine⟨fun i d e=> ?_,by simp[Itr,bZ]⟩;obtain⟨hl,rfl⟩:=A9 e;refine⟨hl,fun x H' hy=> ?_⟩;obtain⟨rfl,rfl⟩:=hy;exact⟨bR.refl _,.int _⟩
theorem YM{tg:Expr}{p':Pos}(hg:Gl X "range") (hm:X.mg "range"=none) (h:PE X a (TV K ml pa ta ia fa)) (hs:Ak [a] X.env=[(false,eval a X.env)]:=by rfl) (hs1:Ak (a::[]) X.env=(false,eval a X.env)::Ak [] X.env:=by rfl):
  PI X tg (.Call (.Name "range" p') [a] [] pos) (GX K ml pa (HD fa)):=(D7 hg hm (cK h aP hs1) hs).imp fun σ H R hq0=>by
 obtain⟨B,O,δ,ds,δ',S,q,k⟩:=hq0;unfold HD at q;obtain⟨⟨x,δ1⟩,h1,q⟩:=Aa.mp q;cases x with
 |int j=>
  have q:(if -4611686018427387904<=j/\j<4611686018427387904 then some (bZ 0 j.toNat,δ1) else none)=some (ds,δ'):=q;split at q
  ·rename_i hj
   cases q;have p62:(2:Int) ^ 62=4611686018427387904:=by decide
   refine⟨B,O,δ,_,_,S,h1,fun v H1 R1=>⟨j,?_,by rw[p62];exact hj.1,by rw[p62];exact hj.2,k _ [] H1 (R1.sta.keepV fun _ z=>nomatch z) R1.frm R1.pur K4⟩⟩;have r:=R1.rep;cases r;rfl
  ·cases q
 |_=>cases q
theorem SE{tg:Expr}{p':Pos}(hg:Gl X "range") (hm:X.mg "range"=none) (h:PE X a (TV K ml pa ta ia fa)) (h':PE X b (TV K ml pb tb ib fb)) (hs:Ak [a,b] X.env=[(false,eval a X.env),(false,eval b X.env)]:=by rfl) (hs2:Ak [b] X.env=[(false,eval b X.env)]:=by rfl)
  (he:Ak (a::[b]) X.env=(false,eval a X.env)::Ak [b] X.env:=by rfl) (he2:Ak (b::[]) X.env=(false,eval b X.env)::Ak [] X.env:=by rfl):
  PI X tg (.Call (.Name "range" p') [a,b] [] pos) (GX K ml (pa && pb) (CP fa fb)):=(D8 hg hm (cK h (cK h' aP he2) he) hs hs2).imp fun σ H R hq0=>by
 obtain⟨B,O,δ,ds,δ',S,q,k⟩:=hq0;unfold CP at q;obtain⟨⟨x,δ1⟩,h1,q⟩:=Aa.mp q;cases h2:fb δ1 with
 |none=>simp[h2] at q
 |some p2=>
  obtain⟨y,δ2⟩:=p2;simp only[At,h2] at q;cases x with
  |int i=>
   cases y with
   |int j=>
    have q:(if(-4611686018427387904<=i/\i<4611686018427387904)/\ -4611686018427387904<=j/\j<4611686018427387904 then some (bZ i (j - i).toNat,δ2) else none)=some (ds,δ'):=q;split at q
    ·rename_i hj
     cases q;have p62:(2:Int) ^ 62=4611686018427387904:=by decide
     refine⟨B,O,δ,_,_,S,h1,fun v H1 R1=>⟨B,O,δ1,_,_,R1.sta,h2,fun v2 H2 R2=>⟨i,j,?_,by rw[p62];exact⟨hj.1.1,hj.1.2,hj.2.1,hj.2.2⟩,k _ [] H2 (R2.sta.keepV fun _ z=>nomatch z) (R1.frm.trans R2.frm) (fun z=>by
      obtain⟨z1,z2⟩:=(Ae _ _).mp z;exact(R1.pur z1).trans (R2.pur z2)) K4⟩⟩⟩
     have r1:=R1.rep;have r2:=R2.rep;cases r1;cases r2;rfl
    ·cases q
   |_=>cases q
  |_=>cases q
noncomputable def XW(gg:VG)(s:VS):List dP->VS
 |[]=>fun δ=>some (.nx δ)
 |d::r=>fun δ=>(gg d δ).bind fun δ1=>(s δ1).bind (again (XW gg s r))
def RV(fi:VI)(gg:VG)(s:VS):VS:=fun δ=>(fi δ).bind fun p=>XW gg s p.1 p.2
theorem VN{tg iter:Expr}{body:List Stmt}{fi:VI}{gg:VG}(hp:Pn (model X.prog X.w) X.A X.env X.xe)(hc:X.calm=true)(hi:PI X tg iter (GX K ml pu fi))(hg:PG X tg (EV K ml gg))(hb:QN X body (UE K ml g))
  (hs: ∀x,foldedSetIterable iter X.env x=pure x:=by intro _;rfl):PS X (.For tg iter body [] pos) (UE K ml (RV fi gg g)):=(zF1 hp hc hi hg hb hs).imp fun D σ H hq0=>by
 obtain⟨B,O,δ,o,S,q,k⟩:=hq0;unfold RV at q;obtain⟨⟨ds,δ1⟩,h1,q⟩:=Aa.mp q;have q:XW gg g ds δ1=some o:=q;refine⟨B,O,δ,ds,δ1,S,h1,fun J kps H1 S1 _ _ wk=> ?_⟩;refine⟨fun i m σ H=>m=ds.length - i/\i<=ds.length/\ ∃O δ,bB K ml {B with kp:=kps++B.kp} O H σ δ/\XW gg g (ds.drop i) δ=some o,⟨ds.length,rfl,Dd _,O,δ1,S1,q⟩,?_⟩;rintro i m σ H ⟨rfl,hi,O,δ,S,hf⟩;have w:=wk (Nn B O) H fun p hp=>S.kep p (Bo _ hp);by_cases hlt:i<ds.length
 ·obtain ⟨go,yl⟩ := w.1 i ds[i] (by simp [hlt])
  rw[Cw hlt] at hf;refine .inr ⟨go,fun σ' H'=> ∃O δ,bB K ml {B with kp:=kps++B.kp} O H' σ' δ/\XW gg g (ds.drop (i+1)) δ=some o,fun σ' H' w'=>⟨ds.length - (i+1),by lia,rfl,hlt,w'⟩,fun x H' hy=> ?_⟩;obtain⟨sm,rx⟩:=yl x H' hy;have hf:((gg ds[i] δ).bind fun δ1=>(g δ1).bind (again (XW gg g (ds.drop (i+1)))))=some o:=hf;obtain⟨δ2,h2,hf⟩:=Aa.mp hf;have hf:(g δ2).bind (again (XW gg g (ds.drop (i+1))))=some o:=hf;refine⟨_,O,δ,ds[i],δ2,S.same sm,rx,h2,fun σ2 O2 S2 _=> ?_⟩;obtain⟨z,h3,hf⟩:=Aa.mp hf;refine⟨_,O2,δ2,z,S2,h3,?_⟩;cases z with
  |nx δ3=>exact fun σ' H' O' S'=>⟨O',δ3,S',hf⟩
  |ct δ3=>exact fun σ' H' O' S'=>⟨O',δ3,S',hf⟩
  |bk δ3=>cases hf;exact fun σ' H' O' S'=>k σ' H' O' S'.unkeep
  |rt d δ3=>cases hf;exact fun v σ' H' O' S' r=>k v σ' H' O' S'.unkeep r
 ·have e : i = ds.length := by lia
  subst e;rw[Fx] at hf;cases hf;exact .inl ⟨w.2,k σ H O S.unkeep⟩
end
section
variable{X:Cx}{K:As}{ml:List Nat}{e a b c:Expr}{es:List Expr}{pa ta ia pb tb ib pc tc ic pu bt bi ps bs:Bool}{fa fb fc f:VF}{B B':Bs}{O:Nat->Option Addr}{H H1 H':Hp}{σ:St}{δ δ':Ev}{v:V}{d:dP}{p:Addr}{pos:Pos}{st:Stmt}{rest:List Stmt}{g g':VS}
theorem bB.call{P:Addr->Prop}(S:bB K ml B O H σ δ)(hl:δ'.length=δ.length)(h: ∀i:Nat,(δ'[i]? =δ[i]? /\ ∀a,O i=some a-> ¬P a)∨ ∃a d',O i=some a/\δ'[i]? =some (Sl.ow d')/\P7 K (Nn B O) H' a d')
  (f:Fr P H H') (hP: ∀a,P a->OA O a):bB K ml B O H' σ δ' where
 len:=by rw[hl,S.len]
 va:=fun i d e=>by
  rcases h i with⟨e1,_⟩|⟨a,d',_,e1,_⟩
  ·rw[e1] at e
   obtain⟨v,e2,r⟩:=S.va i d e;exact⟨v,e2,r.fr f (fun a z=> .inr (hP a z)) fun a z=> .inr (hP a z)⟩
  ·rw[e1] at e
   cases e
 ow:=fun i d e=>by
  rcases h i with⟨e1,n⟩|⟨a,d',e2,e1,w⟩
  ·rw[e1] at e
   obtain⟨a,e2,e3,w⟩:=S.ow i d e;exact⟨a,e2,e3,w.fr f (fun a z=> .inr (hP a z)) (n a e2)⟩
  ·rw[e1] at e
   cases e;obtain⟨d0,q0⟩:=S.dom i a e2;obtain⟨a',e3,e4,_⟩:=S.ow i d0 q0;rw[e2] at e3;cases e3;exact⟨a,e2,e4,w⟩
 dom:=fun i a e=>by
  rcases h i with⟨e1,n⟩|⟨a,d',e2,e1,w⟩
  ·obtain⟨d0,q0⟩:=S.dom i a e
   exact⟨d0,e1.trans q0⟩
  ·exact⟨d',e1⟩
 inj:=S.inj
 old:=S.old
 zin:=fun a h'=>by
  obtain⟨o,q⟩:=S.zin a h';exact⟨o,f a o q fun z=>by
   obtain⟨i,e⟩:=hP a z;exact absurd h' (S.old i a e).1⟩
 frm:=fun b o q n=>by
  have h1:=S.frm b o q n;refine f b o h1 fun z=> ?_;obtain⟨i,e⟩:=hP b z;rcases(S.old i b e).2 with w|w
  ·exact n w
  ·rw[q] at w;cases w
 par:=S.par
 pin:=fun a h'=>by
  obtain⟨o,q⟩:=S.pin a h';by_cases z:P a
  ·obtain⟨i,e⟩:=hP a z
   rcases h i with⟨_,n⟩|⟨a',d',e2,e1,w⟩
   ·exact absurd z (n a e)
   ·rw[e] at e2
    cases e2;obtain⟨o,q,_⟩:=w.soft;exact⟨o,q⟩
  ·exact⟨o,f a o q fun y=>absurd y z⟩
 kep:=fun p hp=>(S.kep p hp).fr f (fun a z=> .inr (hP a z)) fun a z=> .inr (hP a z)
abbrev bN:=List dP->Option (dP×List dP)
def NX(ml:List Nat)(vs:List V):Addr->Prop:=fun a=> ∃i∈ml,vs[i]? =some (.ref a)
def Zp(Z:Addr->Prop)(ml:List Nat)(vs:List V):Addr->Prop:=fun a=>Z a∨NX ml vs a
structure zDX(K:As)(ml:List Nat)(Z:Addr->Prop)(H:Hp)(vs:List V)(ds:List dP):Prop where
 len:vs.length=ds.length
 mem: ∀i∈ml,i<ds.length
 va: ∀(i:Nat) (d:dP),i∉ml->ds[i]? =some d-> ∃v,vs[i]? =some v/\b6 K (Zp Z ml vs) H (Zp Z ml vs) v d
 ow: ∀(i:Nat) (d:dP),i∈ml->ds[i]? =some d-> ∃a,vs[i]? =some (.ref a)/\P7 K (Zp Z ml vs) H a d/\¬Z a
 inj: ∀(i j:Nat) (a:Addr),i∈ml->j∈ml->vs[i]? =some (.ref a)->vs[j]? =some (.ref a)->i=j
 zin: ∀a,Z a-> ∃o,H a=some o
def spV(K:As)(ml:List Nat)(n:Nat)(F:bN):Sp:=fun vs H Q _=> ∃(Z:Addr->Prop) (ds:List dP) (r:dP) (os:List dP),ds.length=n/\zDX K ml Z H vs ds/\F ds=some (r,os)∧
 ∀v H',Fr (NX ml vs) H H'->(∀(k i:Nat) (a:Addr) (o:dP),ml[k]? =some i->vs[i]? =some (.ref a)->os[k]? =some o->P7 K (Zp Z ml vs) H' a o)->b6 K (Zp Z ml vs) H' (Zp Z ml vs) v r->Q v H'
def cI(ml:List Nat)(n:Nat)(ds:List dP):Ev:=ds.mapIdx (fun i d=>if i∈ml then Sl.ow d else Sl.va d)++Bi (n - ds.length) Sl.no
noncomputable def VD(ml:List Nat)(δ:Ev):Option (List dP):=ml.mapM fun(i:Nat)=>match(δ[i]? :Option Sl) with
 |some (Sl.ow d)=>some d
 |_=>none
noncomputable def aI(n:Nat)(ml:List Nat)(g:VS):bN:=fun ds=>(g (cI ml n ds)).bind fun o=>match o with
 | .rt d δ=>(VD ml δ).map fun os=>(d,os)
 | .nx δ=>(VD ml δ).map fun os=>(.non,os)
 |_=>none
theorem J6: ∀{ml:List Nat} {δ:Ev} {os:List dP},VD ml δ=some os-> ∀(k i:Nat) (o:dP),ml[k]? =some i->os[k]? =some o->δ[i]? =some (.ow o)
 |[],_,_,h,k,i,o,e1,e2=>by simp at e1
 | j :: ml,δ,os,h,k,i,o,e1,e2 => by
  unfold VD at h;rw[Qo] at h;split at h
  ·rename_i d hd
   cases h2:(ml.mapM fun(i:Nat)=>match(δ[i]? :Option Sl) with
    |some (Sl.ow d)=>some d
    |_=>none:Option (List dP)) with
   |none=>rw[h2] at h;cases h
   |some os2=>
    rw[h2] at h;cases h;cases k with
    |zero=>
     cases e1;cases e2;exact hd
    |succ k=>exact J6 (ml:=ml) h2 k i o (by simpa using e1) (by simpa using e2)
  ·cases h
theorem EH{N:List Str}{Z:Addr->Prop}{vs:List V}{ds:List dP}(A:zDX K ml Z H vs ds)(hn:ds.length<=N.length):
  ∃mu:Nat->Option Addr,(∀i a,mu i=some a↔i∈ml/\vs[i]? =some (.ref a))/\bB K ml ⟨Z,NX ml vs,H,mu,[]⟩ mu H (start N vs) (cI ml N.length ds):=by
 classical
 let mu:Nat->Option Addr:=fun i=>if i∈ml then(match vs[i]? with
  |some (.ref a)=>some a
  |_=>none) else none
 have hmu: ∀i a,mu i=some a↔i∈ml/\vs[i]? =some (.ref a):=fun i a=>by
  show(if i∈ml then(match vs[i]? with
   |some (.ref a)=>some a
   |_=>none) else none)=some a↔_
  by_cases hi:i∈ml
  ·rw[if_pos hi]
   constructor
   ·intro h
    split at h
    ·rename_i b hb
     cases h;exact⟨hi,hb⟩
    ·cases h
   ·rintro ⟨_,h⟩
    rw[h]
  ·rw[if_neg hi]
   exact⟨(fun h=>nomatch h),fun h=>absurd h.1 hi⟩
 have hN: ∀a,Nn ⟨Z,NX ml vs,H,mu,[]⟩ mu a->Zp Z ml vs a:=fun a h=>by
  rcases h with h|⟨i,h⟩
  ·exact .inl h
  ·exact .inr ⟨i,(hmu i a).mp h⟩
 have lv: ∀(i:Nat) (s:Sl),(cI ml N.length ds)[i]? =some s->(∃d,ds[i]? =some d/\s=if i∈ml then .ow d else .va d)∨s= .no:=fun i s h=>by
  unfold cI at h;by_cases hi:i<ds.length
  ·rw [Ap (by simpa using hi),Lz] at h
   cases q:ds[i]? with
   |none=>rw[q] at h;cases h
   |some d=>rw[q] at h;cases h;exact .inl ⟨d,rfl,rfl⟩
  ·rw [Ci (by simpa using hi),Cp] at h
   split at h
   ·cases h;exact .inr rfl
   ·cases h
 have hst: ∀(i:Nat) (v:V),vs[i]? =some v->(start N vs)[i]? =some (some v):=fun i v h=>by
  unfold start;have hi:i<vs.length:=(Ag.mp h).1;rw[Ap (by simpa using hi),Cv,h];rfl
 refine⟨mu,hmu,?_,fun i d q=> ?_,fun i d q=> ?_,fun i a q=> ?_,fun i j a q1 q2=> ?_,fun i a q=> ?_,A.zin,Fr.refl _ _,⟨fun i a q=>((hmu i a).mp q).1,fun i _=>rfl⟩,fun a q=> ?_,fun p hp=>nomatch hp⟩
 ·unfold start cI
  have:=A.len;simp;lia
 ·rcases lv i _ q with⟨e,h1,h2⟩|h
  ·by_cases hi:i∈ml
   ·rw[if_pos hi] at h2;cases h2
   ·rw[if_neg hi] at h2
    cases h2;obtain⟨v,e1,r⟩:=A.va i d hi h1;exact⟨v,hst i v e1,r.mono hN hN⟩
  ·cases h
 ·rcases lv i _ q with⟨e,h1,h2⟩|h
  ·by_cases hi:i∈ml
   ·rw[if_pos hi] at h2
    cases h2;obtain⟨a,e1,w,_⟩:=A.ow i d hi h1;exact⟨a,(hmu i a).mpr ⟨hi,e1⟩,hst i _ e1,w.mono hN⟩
   ·rw[if_neg hi] at h2;cases h2
  ·cases h
 ·obtain⟨hi,e1⟩:=(hmu i a).mp q
  have hl:=A.mem i hi;refine⟨ds[i],?_⟩;unfold cI;rw[Ap (by simpa using hl),Lz];simp[hl,hi]
 ·exact A.inj i j a ((hmu i a).mp q1).1 ((hmu j a).mp q2).1 ((hmu i a).mp q1).2 ((hmu j a).mp q2).2
 ·obtain⟨hi,e1⟩:=(hmu i a).mp q
  refine⟨fun z=> ?_,.inl ⟨i,hi,e1⟩⟩;obtain⟨a',e2,_,n⟩:=A.ow i (ds[i]'(A.mem i hi)) hi (by simp[A.mem i hi]);rw[e1] at e2;cases e2;exact n z
 ·obtain⟨i,hi,e1⟩:=q
  obtain⟨a',e2,w,n⟩:=A.ow i (ds[i]'(A.mem i hi)) hi (by simp[A.mem i hi]);rw[e1] at e2;cases e2;obtain⟨o,q,_⟩:=w.soft;exact⟨o,q⟩
theorem zJP{N ps:List Str}{vs:List V}{Q:VK}{E:XK}(hps:ps.length<=N.length)(h:spV K ml ps.length (aI N.length ml g) vs H Q E):UE K ml g {nx:=fun _ H'=>Q .non H',rt:=Q} (start N vs) H:=by
 obtain⟨Z,ds,r,os,hn,AV,hF,k⟩:=h;obtain⟨mu,hmu,S0⟩:=EH (N:=N) AV (by rw[hn];exact hps);unfold aI at hF;obtain⟨o,h1,hF⟩:=Aa.mp hF;refine⟨_,mu,_,o,S0,h1,?_⟩;have fin: ∀(δ':Ev) (v:V) (σ':St) (H':Hp) (O':Nat->Option Addr),VD ml δ'=some os->bB K ml ⟨Z,NX ml vs,H,mu,[]⟩ O' H' σ' δ'->b6 K (rz ⟨Z,NX ml vs,H,mu,[]⟩) H' (rz ⟨Z,NX ml vs,H,mu,[]⟩) v r->Q v H':=fun δ' v σ' H' O' ho S' hr'=>by
  have hz: ∀a,Zp Z ml vs a->rz ⟨Z,NX ml vs,H,mu,[]⟩ a:=fun a h=>by
   rcases h with h|⟨i,hi,e⟩
   ·exact .inl h
   ·exact .inr ⟨i,(hmu i a).mpr ⟨hi,e⟩⟩
  refine k v H' S'.frm (fun kk i a o e1 e2 e3=> ?_) (hr'.mono hz hz);have hd:=J6 ho kk i o e1 e3;obtain⟨a',e4,_,w⟩:=S'.ow i o hd;have hi:i∈ml:=Ej e1;have:=(S'.par.2 i hi).trans ((hmu i a).mpr ⟨hi,e2⟩);rw[this] at e4;cases e4;refine w.mono fun b hb=> ?_;rcases hb with hb|⟨j,hj,e5⟩
  ·exact .inl hb
  ·exact .inr ⟨j,(S'.par.2 j hj).trans ((hmu j b).mpr ⟨hj,e5⟩)⟩
 cases o with
 |rt d δ'=>
  have hF:(VD ml δ').map (fun os=>(d,os))=some (r,os):=hF;cases h2:VD ml δ' with
  |none=>rw[h2] at hF;cases hF
  |some os'=>
   rw[h2] at hF;cases hF;exact fun v σ' H' O' S' hr'=>fin δ' v σ' H' O' h2 S' hr'
 |nx δ'=>
  have hF:(VD ml δ').map (fun os=>(dP.non,os))=some (r,os):=hF;cases h2:VD ml δ' with
  |none=>rw[h2] at hF;cases hF
  |some os'=>
   rw[h2] at hF;cases hF;exact fun σ' H' O' S'=>fin δ' .non σ' H' O' h2 S' .non
 |bk δ'=>cases hF
 |ct δ'=>cases hF
theorem W9.okV{P:Bq}{w:World}{mg:Str->Option Value}{base:Heap}{x qual:Str}{st:Stmt}{f:Addr}{fd:Gd}{N ps:List Str}{k:Nat}(F:W9 K x qual st f fd)(S:cW N ps (dF st))(hps:ps.length<=N.length)
  (cn: ∀(cdv:Value) (A:Cy) (outer:List Env) (s:Af) (H:Hp) (E:XK),XQ k (A.deeper (Kx qual (dF st) s.heap.objs.size f cdv))→
   QN (JI CX0 P w K mg base N qual (dF st) f cdv A outer s H E).nox (ZK st) (UE K ml g)):aW P w K mg base CX0 (k+1) f fd ps (spV K ml ps.length (aI N.length ml g)):=by
 refine F.ok S (fun vs H Q E h=> ?_) (fun cdv A outer s H vs Q E hr h=>⟨_,cn cdv A outer s H E hr,zJP hps h⟩);obtain⟨Z,ds,r,os,hn,AV,_⟩:=h;rw[AV.len,hn]
inductive AV where
 |d (d:dP)|o (j:Nat)
inductive VT(K:As)(N:Addr->Prop)(H:Hp)(σ:St):List V->List AV->Prop
 |nil:VT K N H σ [] []
 |d {v:V} {vs:List V} {d:dP} {as:List AV}:b6 K N H N v d->VT K N H σ vs as->VT K N H σ (v::vs) (.d d::as)
 |o {v:V} {vs:List V} {j:Nat} {as:List AV}:σ[j]? =some (some v)->VT K N H σ vs as->VT K N H σ (v::vs) (.o j::as)
abbrev GY:=Ev->Option (List AV×Ev)
structure ResG(K:As)(ml:List Nat)(B:Bs)(O:Nat->Option Addr)(H:Hp)(σ:St)(pu:Bool)(H':Hp)(δ':Ev)(vs:List V)(as:List AV):Prop where
 sta:bB K ml B O H' σ δ'
 frm:Fr (OA O) H H'
 pur:pu=true->bR H H'
 rep:VT K (Nn B O) H' σ vs as
def TAG(K:As)(ml:List Nat)(pu:Bool)(f:GY):TA:=fun σ H Q=> ∃B O δ as δ',bB K ml B O H σ δ/\f δ=some (as,δ')/\ ∀vs H',ResG K ml B O H σ pu H' δ' vs as->Q vs H'
def cN:GY:=fun δ=>some ([],δ)
noncomputable def aE(f:VF)(fs:GY):GY:=fun δ=>(f δ).bind fun p=>(fs p.2).map fun q=>(.d p.1::q.1,q.2)
noncomputable def slot(δ:Ev)(j:Nat):Option dP:=match δ[j]? with
 |some (.va d)=>some d
 |some (.ow d)=>some d
 |_=>none
noncomputable def aO(j:Nat)(fs:GY):GY:=fun δ=>(slot δ j).bind fun _=>(fs δ).map fun q=>(.o j::q.1,q.2)
theorem dE:PA X [] (TAG K ml true cN):=aP.imp fun σ H Q hq0=>by
 obtain⟨B,O,δ,d,δ',S,q,k⟩:=hq0;cases q;exact k [] H ⟨S,Fr.refl _ _,fun _=>bR.refl _,.nil⟩
theorem dH{fs:GY}(ha:PE X a (TV K ml pa true true fa))(hr:PA X es (TAG K ml ps fs))(hs:Ak (a::es) X.env=(false,eval a X.env)::Ak es X.env:=by rfl):PA X (a::es) (TAG K ml (pa && ps) (aE fa fs)):=(cK ha hr hs).imp fun σ H Q hq0=>by
 obtain⟨B,O,δ,as,δ2,S,q,k⟩:=hq0;unfold aE at q;obtain⟨⟨x,δ1⟩,h1,q⟩:=Aa.mp q;have q:((fs δ1).map fun q=>(AV.d x::q.1,q.2))=some (as,δ2):=q;obtain⟨p2,h2,q⟩:=Aq.mp q;cases q;refine⟨B,O,δ,x,δ1,S,h1,fun v1 H1 R1=>⟨B,O,δ1,_,_,R1.sta,h2,fun vs H2 R2=>k _ H2 ⟨R2.sta,R1.frm.trans R2.frm,fun z=> ?_,.d (R1.rep.fr R2.frm (fun a z=> .inr z) fun a z=> .inr z) R2.rep⟩⟩⟩;obtain⟨z1,z2⟩:=(Ae _ _).mp z;exact(R1.pur z1).trans (R2.pur z2)
theorem NM{j:Nat}{d:dP}(h:slot δ j=some d):δ[j]? =some (.va d)∨δ[j]? =some (.ow d):=by
 unfold slot at h;split at h
 ·cases h;exact .inl (by assumption)
 ·cases h;exact .inr (by assumption)
 ·cases h
theorem bB.slot(S:bB K ml B O H σ δ){j:Nat}{d:dP}(h:slot δ j=some d): ∃v,σ[j]? =some (some v):=by
 rcases NM h with h|h
 ·obtain⟨v,e,_⟩:=S.va j d h
  exact⟨v,e⟩
 ·obtain⟨a,_,e,_⟩:=S.ow j d h
  exact⟨_,e⟩
theorem bT{fs:GY}{j:Nat}(ha:PE X a (MD j))(hr:PA X es (TAG K ml ps fs))(hs:Ak (a::es) X.env=(false,eval a X.env)::Ak es X.env:=by rfl):PA X (a::es) (TAG K ml ps (aO j fs)):=(cK ha hr hs).imp fun σ H Q hq0=>by
 obtain⟨B,O,δ,as,δ2,S,q,k⟩:=hq0;unfold aO at q;obtain⟨d,h1,q⟩:=Aa.mp q;have q:((fs δ).map fun q=>(AV.o j::q.1,q.2))=some (as,δ2):=q;obtain⟨p2,h2,q⟩:=Aq.mp q;cases q;obtain⟨v,e⟩:=S.slot h1;exact⟨v,e,B,O,δ,_,_,S,h2,fun vs H2 R2=>k _ H2 ⟨R2.sta,R2.frm,R2.pur,.o e R2.rep⟩⟩
theorem VT.length: ∀{N:Addr->Prop} {vs:List V} {as:List AV},VT K N H σ vs as->vs.length=as.length
 |_,_,_,.nil=>rfl
 |_,_,_,.d _ t=>congrArg (· +1) (VT.length t)
 |_,_,_,.o _ t=>congrArg (· +1) (VT.length t)
theorem VT.getD: ∀{N:Addr->Prop} {vs:List V} {as:List AV} {i:Nat} {d:dP},VT K N H σ vs as->as[i]? =some (.d d)-> ∃v,vs[i]? =some v/\b6 K N H N v d
 |_,_,_,_,_,.nil,e=>by simp at e
 |_,_,_,0,_,.d h _,e=>by simp at e;subst e;exact⟨_,rfl,h⟩
 |_,_,_,0,_,.o h _,e=>by simp at e
 |_,_,_,i+1,_,.d _ t,e=>by
  obtain⟨u,h1,h2⟩:=VT.getD (i:=i) t (by simpa using e);exact⟨u,by simpa using h1,h2⟩
 |_,_,_,i+1,_,.o _ t,e=>by
  obtain⟨u,h1,h2⟩:=VT.getD (i:=i) t (by simpa using e);exact⟨u,by simpa using h1,h2⟩
theorem VT.getO: ∀{N:Addr->Prop} {vs:List V} {as:List AV} {i j:Nat},VT K N H σ vs as->as[i]? =some (.o j)-> ∃v,vs[i]? =some v/\σ[j]? =some (some v)
 |_,_,_,_,_,.nil,e=>by simp at e
 |_,_,_,0,_,.d h _,e=>by simp at e
 |_,_,_,0,_,.o h _,e=>by simp at e;subst e;exact⟨_,rfl,h⟩
 |_,_,_,i+1,_,.d _ t,e=>by
  obtain⟨u,h1,h2⟩:=VT.getO (i:=i) t (by simpa using e);exact⟨u,by simpa using h1,h2⟩
 |_,_,_,i+1,_,.o _ t,e=>by
  obtain⟨u,h1,h2⟩:=VT.getO (i:=i) t (by simpa using e);exact⟨u,by simpa using h1,h2⟩
def argD(δ:Ev):AV->Option dP
 | .d d=>some d
 | .o j=>slot δ j
noncomputable def W5(δ:Ev):List AV->Option (List dP)
 |[]=>some []
 |a::as=>(argD δ a).bind fun d=>(W5 δ as).map fun ds=>d::ds
theorem MO: ∀{as:List AV} {ds:List dP},W5 δ as=some ds->as.length=ds.length/\ ∀(i:Nat) (d:dP),ds[i]? =some d-> ∃a,as[i]? =some a/\argD δ a=some d
 |[],ds,h=>by cases h;exact⟨rfl,fun i d e=>by simp at e⟩
 | a :: as,ds,h => by
  unfold W5 at h;obtain⟨d,h1,h⟩:=Aa.mp h;cases h2:W5 δ as with
  |none=>simp[h2] at h
  |some ds'=>
   simp only[At,h2] at h;cases h;obtain⟨l,g⟩:=MO h2;refine⟨by simp[l],fun i e he=> ?_⟩;cases i with
   |zero=>cases he;exact⟨a,rfl,h1⟩
   |succ i=>
    obtain⟨b,e1,e2⟩:=g i e (by simpa using he);exact⟨b,by simpa using e1,e2⟩
noncomputable def VU:List AV->List Nat
 |[]=>[]
 | .d _::as=>VU as
 | .o j::as=>j::VU as
theorem RP: ∀{as:List AV} {i j:Nat},as[i]? =some (.o j)->j∈VU as
 |[],_,_,e=>by simp at e
 | .d _::as,0,j,e=>by simp at e
 | .o k::as,0,j,e=>by simp at e;subst e;exact Ai
 | .d _::as,i+1,j,e=>RP (as:=as) (i:=i) (by simpa using e)
 | .o k::as,i+1,j,e=>Ah _ (RP (as:=as) (i:=i) (by simpa using e))
theorem FE: ∀{as:List AV} {j:Nat},j∈VU as-> ∃i:Nat,as[i]? =some (AV.o j)
 |[],_,h=>nomatch h
 | .d _::as,j,h=>by
  obtain⟨i,e⟩:=FE (as:=as) h;exact⟨i+1,by simpa using e⟩
 | .o k :: as,j,h => by
  rcases Al.mp h with e|e
  ·exact⟨0,by rw[e];rfl⟩
  ·obtain⟨i,e⟩:=FE (as:=as) e
   exact⟨i+1,by simpa using e⟩
theorem LX: ∀{as:List AV} {i k j:Nat},(VU as).Nodup->as[i]? =some (.o j)->as[k]? =some (.o j)->i=k
 |[],_,_,_,_,e,_=>by simp at e
 | .d _::as,0,_,j,_,e,_=>by simp at e
 | .d _::as,_+1,0,j,_,_,e=>by simp at e
 | .d _::as,i+1,k+1,j,n,e1,e2=>congrArg (· +1) (LX (as:=as) n (by simpa using e1) (by simpa using e2))
 | .o x::as,0,0,j,_,_,_=>rfl
 | .o x::as,0,k+1,j,n,e1,e2=>by
  simp at e1;subst e1;have h:as[k]? =some (.o x):=by simpa using e2
  exact absurd (RP h) (Cq.mp n).1
 | .o x::as,i+1,0,j,n,e1,e2=>by
  simp at e2;subst e2;have h:as[i]? =some (.o x):=by simpa using e1
  exact absurd (RP h) (Cq.mp n).1
 | .o x::as,i+1,k+1,j,n,e1,e2=>congrArg (· +1) (LX (as:=as) (Cq.mp n).2 (by simpa using e1) (by simpa using e2))
noncomputable def FO(δ:Ev)(as:List AV)(i:Nat):Bool:=match as[i]? with
 |some (.o j)=>match δ[j]? with
  |some (.ow _)=>true
  |_=>false
 |_=>false
noncomputable def XB(mF:List Nat):List AV->Nat->Bool
 |[],_=>true
 | .d _::as,i=>XB mF as (i+1)
 | .o _::as,i=>decide (i∈mF) && XB mF as (i+1)
theorem UI{mF:List Nat}: ∀{as:List AV} {k i j:Nat},XB mF as k=true->as[i]? =some (.o j)->k+i∈mF
 |[],_,_,_,_,e=>by simp at e
 | .d _::as,k,0,j,h,e=>by simp at e
 | .o _::as,k,0,j,h,e=>by
  simp only[XB,Ae,decide_eq_true_eq] at h;exact h.1
 | .d _::as,k,i+1,j,h,e=>by
  have:=UI (as:=as) (k:=k+1) (i:=i) (j:=j) h (by simpa using e);rwa[show k+(i+1)=k+1+i by lia]
 | .o _::as,k,i+1,j,h,e=>by
  simp only[XB,Ae] at h;have:=UI (as:=as) (k:=k+1) (i:=i) (j:=j) h.2 (by simpa using e);rwa[show k+(i+1)=k+1+i by lia]
def U8:dP->Bool
 | .lst ds=>U7 ds
 | .dct _ ds=>U7 ds
 |_=>false
theorem P7.kids{N N':Addr->Prop}{a:Addr}(w:P7 K N H a d)(h:U8 d=true):P7 K N' H a d:=by
 cases w with
 |lst q r=>exact .lst q (r.hard h)
 |dct q r=>exact .dct q (r.hard h)
noncomputable def WT(as:List AV):List Nat->List dP->Ev->Ev
 |i::is,o::os,δ=>match as[i]? with
  |some (.o j)=>WT as is os (δ.set j (.ow o))
  |_=>WT as is os δ
 |_,_,δ=>δ
theorem SY{as:List AV}: ∀{is:List Nat} {os:List dP} {δ:Ev},(WT as is os δ).length=δ.length
 |[],_,_=>rfl
 |_::_,[],_=>rfl
 |i::is,o::os,δ=>by
  unfold WT;split
  ·rw[SY,Cd]
  ·rw[SY]
theorem PN{as:List AV}: ∀{is:List Nat} {os:List dP} {δ:Ev} (j:Nat),is.length=os.length->j<δ.length→
  (∃(k i:Nat) (o:dP),is[k]? =some i/\os[k]? =some o/\as[i]? =some (AV.o j)/\(WT as is os δ)[j]? =some (Sl.ow o))∨((∀i∈is,as[i]? ≠some (AV.o j))/\(WT as is os δ)[j]? =δ[j]?)
 |[],[],δ,j,_,_=> .inr ⟨(fun i h=>nomatch h),rfl⟩
 | i :: is,o :: os,δ,j,hl,hj => by
  unfold WT;split
  ·rename_i j0 e0
   rcases PN (is:=is) (os:=os) (δ:=δ.set j0 (.ow o)) j (by simpa using hl) (by rw[Cd];exact hj) with⟨k,i',o',h1,h2,h3,h4⟩|⟨h1,h2⟩
   ·exact .inl ⟨k+1,i',o',by simpa using h1,by simpa using h2,h3,h4⟩
   ·by_cases hjj:j=j0
    ·subst hjj
     rw[Db hj] at h2;exact .inl ⟨0,i,o,rfl,rfl,e0,h2⟩
    ·rw[Bw (Dg hjj)] at h2
     refine .inr ⟨fun i' hi'=> ?_,h2⟩;rcases Al.mp hi' with z|z
     ·rw[z,e0]
      intro w;cases w;exact hjj rfl
     ·exact h1 i' z
  ·rename_i hn
   rcases PN (is:=is) (os:=os) (δ:=δ) j (by simpa using hl) hj with⟨k,i',o',h1,h2,h3,h4⟩|⟨h1,h2⟩
   ·exact .inl ⟨k+1,i',o',by simpa using h1,by simpa using h2,h3,h4⟩
   ·refine .inr ⟨fun i' hi' => ?_,h2⟩
    rcases Al.mp hi' with z|z
    ·rw[z]
     exact fun w=>hn j w
    ·exact h1 i' z
def V3(mF:List Nat)(as:List AV)(δ:Ev):Bool:=mF.all (FO δ as) && decide (VU as).Nodup
noncomputable def WZ(mF:List Nat)(as:List AV)(r:dP)(os:List dP):Bool:=(XB mF as 0 || r.hard) && (XB mF as 0 || os.all U8) && decide (mF.length=os.length)
noncomputable def dC(n:Nat)(mF:List Nat)(F:bN)(fs:GY):VF:=fun δ=>(fs δ).bind fun p=>(W5 p.2 p.1).bind fun ds=>if ds.length=n/\V3 mF p.1 p.2=true then(F ds).bind fun q=>if WZ mF p.1 q.1 q.2=true then some (q.1,WT p.1 mF q.2 p.2) else none else none
theorem zBK{n:Nat}{mF:List Nat}{F:bN}{fs:GY}{Q:VK}(h:TV K ml (ps && mF.isEmpty) true true (dC n mF F fs) σ H Q):BW (spV K mF n F) [] E0 (TAG K ml ps fs) σ H Q:=by
 obtain⟨B,O,δ,d,δ2,S,q,k⟩:=h;unfold dC at q;obtain⟨⟨as,δ1⟩,h1,q⟩:=Aa.mp q;have q:((W5 δ1 as).bind fun ds=>if ds.length=n/\V3 mF as δ1=true then(F ds).bind fun q=>if WZ mF as q.1 q.2=true then some (q.1,WT as mF q.2 δ1) else none else none)=some (d,δ2):=q;obtain⟨ds,h2,q⟩:=Aa.mp q;have q:(if ds.length=n/\V3 mF as δ1=true then(F ds).bind fun q=>if WZ mF as q.1 q.2=true then some (q.1,WT as mF q.2 δ1) else none else none)=some (d,δ2):=q;split at q
 ·rename_i hc
  obtain⟨⟨r,os⟩,h3,q⟩:=Aa.mp q;have q:(if WZ mF as r os=true then some (r,WT as mF os δ1) else none)=some (d,δ2):=q;split at q
  ·rename_i hb
   cases q;obtain⟨hn,hc⟩:=hc;simp only[V3,Ae,decide_eq_true_eq,Ei] at hc;simp only[WZ,Ae,decide_eq_true_eq] at hb;obtain⟨hmu,hnd⟩:=hc;obtain⟨⟨nr,o8⟩,ag⟩:=hb;refine⟨B,O,δ,as,δ1,S,h1,fun vs H1 R=> ?_⟩;show spV K mF n F (vs++[]) H1 Q E0;rw[Ef];obtain⟨hal,hag⟩:=MO h2;have hm: ∀i∈mF,∃j a x,as[i]? =some (.o j)/\δ1[j]? =some (.ow x)/\O j=some a/\vs[i]? =some (.ref a)/\P7 K (Nn B O) H1 a x:=fun i hi=>by
    have:=hmu i hi;unfold FO at this;split at this
    ·rename_i j ej
     split at this
     ·rename_i x ex
      obtain⟨a,e1,e2,w⟩:=R.sta.ow j x ex;obtain⟨v,e3,e4⟩:=R.rep.getO ej;rw[e2] at e4;cases e4;exact⟨j,a,x,ej,ex,e1,e3,w⟩
     ·cases this
    ·cases this
   have hP: ∀a,NX mF vs a-> ∃i j,i∈mF/\as[i]? =some (.o j)/\O j=some a:=fun a q0=>by
    obtain⟨i,hi,e⟩:=q0;obtain⟨j,a',x,e1,_,e2,e3,_⟩:=hm i hi;rw[e] at e3;cases e3;exact⟨i,j,hi,e1,e2⟩
   have hPO: ∀a,NX mF vs a->OA O a:=fun a h=>by
    obtain⟨i,j,_,_,e⟩:=hP a h;exact⟨j,e⟩
   have hZp: ∀a,Zp (fun a=>Nn B O a/\ ∀j∈VU as,O j≠some a) mF vs a->Nn B O a:=fun a h=>by
    rcases h with h|h
    ·exact h.1
    ·exact .inr (hPO a h)
   refine⟨fun a=>Nn B O a/\ ∀j∈VU as,O j≠some a,ds,_,os,hn,⟨by rw[<- hal,R.rep.length],fun i hi=> ?_,fun i x hi e=> ?_,fun i x hi e=> ?_,fun i j a hi hj e1 e2=> ?_,fun a h=>R.sta.nin h.1⟩,h3,fun v H2 f2 w2 r2=> ?_⟩
   ·obtain⟨j,a,x,e1,_⟩:=hm i hi
    rw[<- hal];exact(Ag.mp e1).1
   ·obtain⟨a,e1,e2⟩:=hag i x e
    cases a with
    |d y=>
     cases e2;obtain⟨v,e3,r⟩:=R.rep.getD e1;exact⟨v,e3,r.mono hZp hZp⟩
    |o j=>
     obtain⟨v,e3,e4⟩:=R.rep.getO e1;refine⟨v,e3,?_⟩;rcases NM e2 with e5|e5
     ·obtain⟨v',e6,r⟩:=R.sta.va j x e5
      rw[e4] at e6;cases e6;exact r.mono hZp hZp
     ·obtain⟨a,e7,e6,w⟩:=R.sta.ow j x e5
      rw[e4] at e6;cases e6;refine(w.mono hZp).rep fun z=> ?_;rcases z with z|z
      ·exact z.2 j (RP e1) e7
      ·obtain⟨i',j',hi',e8,e9⟩:=hP a z
       have:j=j':=R.sta.inj j j' a e7 e9;subst this;have:=LX hnd e1 e8;subst this;exact hi hi'
   ·obtain⟨a,e1,e2⟩:=hag i x e
    obtain⟨j,b,y,e3,e4,e5,e6,w⟩:=hm i hi;rw[e3] at e1;cases e1;have e7:slot δ1 j=some y:=by unfold slot;rw[e4]
    have e2:slot δ1 j=some x:=e2;rw[e7] at e2;cases e2;exact⟨b,e6,w.mono hZp,fun z=>z.2 j (RP e3) e5⟩
   ·obtain⟨j1,b1,_,e3,_,e4,e5,_⟩:=hm i hi
    obtain⟨j2,b2,_,e6,_,e7,e8,_⟩:=hm j hj;rw[e1] at e5;cases e5;rw[e2] at e8;cases e8;have:j1=j2:=R.sta.inj j1 j2 a e4 e7;subst this;exact LX hnd e3 e6
   ·have S2:bB K ml B O H2 σ (WT as mF os δ1):=by
     refine R.sta.call SY (fun j=> ?_) f2 hPO;by_cases hj:j<δ1.length
     ·rcases PN (as:=as) (is:=mF) (os:=os) (δ:=δ1) j ag hj with⟨kk,i,o,e1,e2,e3,e4⟩|⟨e1,e2⟩
      ·obtain⟨j',a,x,e5,_,e6,e7,_⟩:=hm i (Ej e1)
       rw[e3] at e5;cases e5;have w:=w2 kk i a o e1 e7 e2;refine .inr ⟨a,o,e6,e4,?_⟩;rcases(Er _ _).mp o8 with z|z
       ·refine w.mono fun b hb => ?_
        by_cases hjs: ∃j'∈VU as,O j'=some b
        ·obtain⟨j',hj',e8⟩:=hjs
         obtain⟨i',e9⟩:=FE hj';have hi':=UI z e9;rw[Hc] at hi';obtain⟨j'',a'',_,e10,_,e11,e12,_⟩:=hm i' hi';rw[e9] at e10;cases e10;rw[e8] at e11;cases e11;exact .inr ⟨i',hi',e12⟩
        ·exact .inl ⟨hb,fun j' hj' e=>hjs ⟨j',hj',e⟩⟩
       ·exact w.kids (Ei.mp z o (Ej e2))
      ·refine .inl ⟨e2,fun a ea hPa => ?_⟩
       obtain⟨i,j',hi,e3,e4⟩:=hP a hPa;have:j=j':=R.sta.inj j j' a ea e4;subst this;exact e1 i hi e3
     ·refine .inl ⟨?_,fun a ea => ?_⟩
      ·rw[Bu (by rw[SY];lia),Bu (by lia)]
      ·obtain⟨x,ex⟩:=R.sta.dom j a ea
       exact absurd (Ag.mp ex).1 hj
    refine k v H2 ⟨S2,R.frm.trans (f2.mono hPO),fun z=> ?_,?_⟩
    ·obtain⟨z1,z2⟩:=(Ae _ _).mp z
     refine(R.pur z1).trans fun b o e=>f2 b o e fun w=> ?_;obtain⟨i,hi,_⟩:=w;rw[Ox.mp z2] at hi;cases hi
    ·rcases(Er _ _).mp nr with z|z
     ·have hN : ∀ a,Nn B O a -> Zp (fun a => Nn B O a /\ ∀ j ∈ VU as,O j ≠ some a) mF vs a := fun b hb => by
       by_cases hjs: ∃j'∈VU as,O j'=some b
       ·obtain⟨j',hj',e8⟩:=hjs
        obtain⟨i',e9⟩:=FE hj';have hi':=UI z e9;rw[Hc] at hi';obtain⟨j'',a'',_,e10,_,e11,e12,_⟩:=hm i' hi';rw[e9] at e10;cases e10;rw[e8] at e11;cases e11;exact .inr ⟨i',hi',e12⟩
       ·exact .inl ⟨hb,fun j' hj' e=>hjs ⟨j',hj',e⟩⟩
      exact r2.mono hN hN
     ·exact r2.hard z
  ·cases q
 ·cases q
theorem zBJ{x:Str}{kk j n:Nat}{qs:List Str}{mF:List Nat}{F:bN}{ff:Addr}{p':Pos}{fs:GY}(hK:X.K=K)(D:Def X.prog X.w K X.mg X.base x kk qs (spV K mF n F) ff)(hr:XQ j X.A)(hk:kk<=j)(hg:Gl X x)(ha:PA X (e::es) (TAG K ml ps fs))(hdb:(x==("__debug__":Str))=false:=by decide)
  (he:Ak (e::es) X.env=(false,eval e X.env)::Ak es X.env:=by rfl) (hpl:(Fw pos (Ak es X.env)).any (·.1)=false:=by rfl):
  PE X (.Call (.Name x p') (e::es) [] pos) (TV K ml (ps && mF.isEmpty) true true (dC n mF F fs)):=by
 subst hK;exact(AF D hr hk hg ha hdb he hpl).imp fun _ _ _ h=>zBK h
end
section
variable{X:Cx}{K:As}{ml:List Nat}{e a b c:Expr}{es:List Expr}{pi pt pe pu bt bi ps bs:Bool}{f:VF}{B B':Bs}{O:Nat->Option Addr}{H H0 H1 H':Hp}{σ:St}{δ δ':Ev}{v:V}{d:dP}{p:Addr}{pos:Pos}{ix:List Nat}{nl:Nat}
def cF(ix:List Nat)(δ:Ev):Ev:=ix.map fun i=>(δ[i]?).getD .no
def PC(nl:Nat):Ev:=Bi nl Sl.no
noncomputable def aU(n nl:Nat)(gg:VG)(tb:VB)(fe:VF):List dP->List dP->Ev->Option (List dP×Ev)
 |[],acc,δ=>some (acc,δ)
 |d::r,acc,δ=>(gg d (δ++PC nl)).bind fun δ1=>(tb δ1).bind fun p=>if p.1=true then(fe p.2).bind fun q=>if acc.length<16777216 then aU n nl gg tb fe r (acc++[q.1]) (q.2.take n) else none else aU n nl gg tb fe r acc (p.2.take n)
noncomputable def Z3:List Nat->Ev->Ev->Ev
 |i::is,s::ss,δ=>match s with
  | .ow d=>Z3 is ss (δ.set i (.ow d))
  |_=>Z3 is ss δ
 |_,_,δ=>δ
noncomputable def bW(ix:List Nat)(nl:Nat)(fi:VI)(gg:VG)(tb:VB)(fe:VF):VF:=fun δ=>(fi δ).bind fun p=>(aU ix.length nl gg tb fe p.1 [] (cF ix p.2)).map fun q=>(.lst q.1,Z3 ix q.2 p.2)
def ZX:VB:=fun δ=>some (true,δ)
theorem YH: ∀{ix:List Nat} {ss δ:Ev},(Z3 ix ss δ).length=δ.length
 |[],_,_=>rfl
 |_::_,[],_=>rfl
 |i::is,s::ss,δ=>by
  cases s<;>simp only[Z3]<;>rw[YH]<;>try rw[Cd]
theorem XJ: ∀{ix:List Nat} {ss δ:Ev} (i:Nat),i<δ.length->ix.length=ss.length→
  (∃(j:Nat) (d:dP),ix[j]? =some i/\ss[j]? =some (Sl.ow d)/\(Z3 ix ss δ)[i]? =some (Sl.ow d))∨((∀(j:Nat) (d:dP),ix[j]? =some i->ss[j]? ≠some (Sl.ow d))/\(Z3 ix ss δ)[i]? =δ[i]?)
 |[],ss,δ,i,hi,hl=> .inr ⟨(fun j d h=>by simp at h),rfl⟩
 |k::is,[],δ,i,hi,hl=>by cases hl
 | k :: is,s :: ss,δ,i,hi,hl => by
  have hl2:is.length=ss.length:=by simpa using hl
  cases s with
  |ow d=>
   simp only[Z3];rcases XJ (ix:=is) (ss:=ss) (δ:=δ.set k (.ow d)) i (by rw[Cd];exact hi) hl2 with⟨j,d',h1,h2,h3⟩|⟨h1,h2⟩
   ·exact .inl ⟨j+1,d',by simpa using h1,by simpa using h2,h3⟩
   ·by_cases hk:i=k
    ·subst hk
     rw[Db hi] at h2;exact .inl ⟨0,d,rfl,rfl,h2⟩
    ·rw[Bw (Dg hk)] at h2
     refine .inr ⟨fun j d' e=> ?_,h2⟩;cases j with
     |zero=>cases e;exact absurd rfl hk
     |succ j=>simpa using h1 j d' (by simpa using e)
  |va d=>
   simp only[Z3];rcases XJ (ix:=is) (ss:=ss) (δ:=δ) i hi hl2 with⟨j,d',h1,h2,h3⟩|⟨h1,h2⟩
   ·exact .inl ⟨j+1,d',by simpa using h1,by simpa using h2,h3⟩
   ·refine .inr ⟨fun j d' e => ?_,h2⟩
    cases j with
    |zero=>simp
    |succ j=>simpa using h1 j d' (by simpa using e)
  |no=>
   simp only[Z3];rcases XJ (ix:=is) (ss:=ss) (δ:=δ) i hi hl2 with⟨j,d',h1,h2,h3⟩|⟨h1,h2⟩
   ·exact .inl ⟨j+1,d',by simpa using h1,by simpa using h2,h3⟩
   ·refine .inr ⟨fun j d' e => ?_,h2⟩
    cases j with
    |zero=>simp
    |succ j=>simpa using h1 j d' (by simpa using e)
def Oc(ix:List Nat)(O:Nat->Option Addr):Nat->Option Addr:=fun j=>(ix[j]?).bind O
def Bc(ix:List Nat)(B:Bs)(O:Nat->Option Addr)(H0:Hp)(D:Addr)(kp:List (V×dP)):Bs:=
 ⟨fun a=>(B.Z a∨a=D)∨ ∃i,O i=some a/\i∉ix,OA (Oc ix O),H0,Oc ix O,kp⟩
theorem PB{D:Addr}{kp:List (V×dP)}: ∀a,Nn (Bc ix B O H0 D kp) (Oc ix O) a->Nn B O a∨a=D:=fun a h=>by
 rcases h with((h|h)|⟨i,h,_⟩)|⟨j,h⟩
 ·exact .inl (.inl h)
 ·exact .inr h
 ·exact .inl (.inr ⟨i,h⟩)
 ·unfold Oc at h
  cases q:ix[j]? with
  |none=>rw[q] at h;cases h
  |some i=>rw[q] at h;exact .inl (.inr ⟨i,h⟩)
theorem WD{D:Addr}{kp:List (V×dP)}: ∀a,Nn (B.add D) O a->Nn (Bc ix B O H0 D kp) (Oc ix O) a:=fun a h=>by
 rcases h with h|⟨i,h⟩
 ·exact .inl (.inl h)
 ·by_cases hi:i∈ix
  ·obtain⟨j,hj⟩:=Ij.mp hi
   exact .inr ⟨j,by unfold Oc;rw[hj];exact h⟩
  ·exact .inl (.inr ⟨i,h,hi⟩)
theorem bB.withKp{kp:List (V×dP)}(S:bB K ml B O H σ δ)(h: ∀p∈kp,b6 K (Nn B O) H (Nn B O) p.1 p.2):bB K ml {B with kp:=kp} O H σ δ:=
 ⟨S.len,S.va,S.ow,S.dom,S.inj,S.old,S.zin,S.frm,S.par,S.pin,h⟩
theorem bB.writeZ{D:Addr}{o:HO}{acc:List V}(S:bB K ml B O H σ δ)(hD:B.Z D)(hl:H D=some (.lst acc))(h0:B.H0 D=none):bB K ml B O (bP H D o) σ δ:=by
 have hf:Fr (fun b=>b=D) H (bP H D o):=fun b u q n=>by
  by_cases hb:b=D
  ·subst hb
   rw[hl] at q;cases q;exact absurd (n rfl) fun z=>z
  ·rw[cE hb]
   exact q
 have hN: ∀b,b=D->Nn B O b:=fun b z=> .inl (z▸hD);have hin: ∀b,(∃u,H b=some u)-> ∃u,bP H D o b=some u:=fun b q0=>by
  obtain⟨u,q⟩:=q0;by_cases hb:b=D
  ·exact⟨o,by rw[hb];exact c0⟩
  ·exact⟨u,by rw[cE hb];exact q⟩
 refine⟨S.len,fun i d q=> ?_,fun i d q=> ?_,S.dom,S.inj,S.old,fun b h=>hin b (S.zin b h),fun b u q n=> ?_,S.par,fun b h=>hin b (S.pin b h),fun p hp=>(S.kep p hp).fr hf hN hN⟩
 ·obtain⟨v,e,r⟩:=S.va i d q
  exact⟨v,e,r.fr hf hN hN⟩
 ·obtain⟨a,e,e2,w⟩:=S.ow i d q
  exact⟨a,e,e2,w.fr hf hN fun z=>(S.old i a e).1 (z▸hD)⟩
 ·have hb : b ≠ D := fun z => by rw [z,h0] at q;cases q
  rw[cE hb];exact S.frm b u q n
theorem MT{j:Nat}{s:Sl}(h:(cF ix δ++PC nl)[j]? =some s):(∃i,ix[j]? =some i/\s=(δ[i]?).getD .no)∨s= .no:=by
 unfold cF PC at h;by_cases hj:j<ix.length
 ·rw [Ap (by simpa using hj),Cv] at h
  cases q:ix[j]? with
  |none=>rw[q] at h;cases h
  |some i=>rw[q] at h;cases h;exact .inl ⟨i,rfl,rfl⟩
 ·rw [Ci (by simpa using hj),Cp] at h
  split at h
  ·cases h;exact .inr rfl
  ·cases h
theorem JF{i j:Nat}{v:V}(hi:ix[j]? =some i)(h:σ[i]? =some (some v)):(bO ix σ++Bi nl none)[j]? =some (some v):=by
 have hj:j<ix.length:=(Ag.mp hi).1;unfold bO;rw[Ap (by simpa using hj),Cv,hi];show some ((σ[i]?).join)=_;rw[h];rfl
theorem bB.inner{D:Addr}(S:bB K ml B O H0 σ δ)(hD:H0 D=none)(hnd:ix.Nodup){kps:List (V×dP)}(hk: ∀p∈kps,b6 K (Nn B O) H0 (Nn B O) p.1 p.2):
  bB K (Am ix.length) (Bc ix B O H0 D kps) (Oc ix O) (bP H0 D (.lst [])) (bO ix σ++Bi nl none) (cF ix δ++PC nl) where
 len:=by simp[bO,cF,PC]
 va := fun j d e => by
  rcases MT e with⟨i,hi,q⟩|q
  ·have q:δ[i]? =some (.va d):=by
    cases w:δ[i]? with
    |none=>rw[w] at q;cases q
    |some s=>rw[w] at q;rw[show s= .va d from q.symm]
   obtain⟨v,e1,r⟩:=S.va i d q;exact⟨v,JF hi e1,(r.away hD _ _ PB PB).same (dJ hD)⟩
  ·cases q
 ow := fun j d e => by
  rcases MT e with⟨i,hi,q⟩|q
  ·have q:δ[i]? =some (.ow d):=by
    cases w:δ[i]? with
    |none=>rw[w] at q;cases q
    |some s=>rw[w] at q;rw[show s= .ow d from q.symm]
   obtain⟨a,e1,e2,w⟩:=S.ow i d q;refine⟨a,by unfold Oc;rw[hi];exact e1,JF hi e2,?_⟩;cases w with
   |lst q' r=>exact .lst (dJ hD _ _ q') ((r.away hD _ _ PB).same (dJ hD))
   |dct q' r=>exact .dct (dJ hD _ _ q') ((r.away hD _ _ PB).same (dJ hD))
  ·cases q
 dom:=fun j a e=>by
  unfold Oc at e;obtain⟨i,hi,e⟩:=Aa.mp e;obtain⟨d,q⟩:=S.dom i a e;refine⟨d,?_⟩;have hj:j<ix.length:=(Ag.mp hi).1;unfold cF;rw[Ap (by simpa using hj),Cv,hi];show some ((δ[i]?).getD .no)=_;rw[q];rfl
 inj:=fun j k a e1 e2=>by
  unfold Oc at e1 e2;cases hi:ix[j]? with
  |none=>rw[hi] at e1;cases e1
  |some i=>
   cases hk:ix[k]? with
   |none=>rw[hk] at e2;cases e2
   |some i'=>
    rw[hi] at e1;rw[hk] at e2;have:i=i':=S.inj i i' a e1 e2;subst this;obtain⟨l1,q1⟩:=Ag.mp hi;obtain⟨l2,q2⟩:=Ag.mp hk;exact(Op hnd).mp (q1.trans q2.symm)
 old:=fun j a e=>by
  have e':=e;unfold Oc at e';cases hi:ix[j]? with
  |none=>rw[hi] at e';cases e'
  |some i=>
   rw[hi] at e';refine⟨fun z=> ?_,.inl ⟨j,e⟩⟩;rcases z with(z|z)|⟨i',z,n⟩
   ·exact(S.old i a e').1 z
   ·obtain⟨o,q⟩:=S.nin (.inr ⟨i,e'⟩)
    rw[z,hD] at q;cases q
   ·have:i=i':=S.inj i i' a e' z
    subst this;exact n (Ej hi)
 zin:=fun a h=>by
  rcases h with(h|h)|⟨i,h,_⟩
  ·obtain⟨o,q⟩:=S.zin a h
   exact⟨o,dJ hD _ _ q⟩
  ·exact⟨_,by rw[h];exact c0⟩
  ·obtain⟨o,q⟩:=S.nin (.inr ⟨i,h⟩)
   exact⟨o,dJ hD _ _ q⟩
 frm:=(dJ hD).fr
 par:=⟨fun j a e=>by
  have e:(ix[j]?).bind O=some a:=e;cases hi:ix[j]? with
  |none=>rw[hi] at e;cases e
  |some i=>exact Bk.mpr (Ag.mp hi).1,fun j _=>rfl⟩
 pin:=fun a q0=>by
  obtain⟨j,e⟩:=q0;unfold Oc at e;obtain⟨i,hi,e⟩:=Aa.mp e;obtain⟨o,q⟩:=S.nin (.inr ⟨i,e⟩);exact⟨o,dJ hD _ _ q⟩
 kep:=fun p hp=>((hk p hp).away hD _ _ PB PB).same (dJ hD)
theorem bB.turn{O':Nat->Option Addr}{σ':St}{n:Nat}{m:St}(S:bB K (Am n) B O' H σ' δ)(hmu: ∀j,n<=j->B.mu j=none)(hm:m.length=n)(hσ:σ'.take n=m)(hn:n<=δ.length):bB K (Am n) B B.mu H (m++Bi nl none) (δ.take n++PC nl):=by
 have hO: ∀j,j<n->O' j=B.mu j:=fun j hj=>S.par.2 j (Bk.mpr hj);have hle: ∀j a,B.mu j=some a->O' j=some a:=fun j a e=>by rw[hO j (Bk.mp (S.par.1 j a e))];exact e
 have hN: ∀a,Nn B B.mu a->Nn B O' a:=fun a h=>by
  rcases h with h|⟨j,h⟩
  ·exact .inl h
  ·exact .inr ⟨j,hle j a h⟩
 have hg: ∀(j:Nat) (s:Sl),(δ.take n++PC nl)[j]? =some s->(j<n/\δ[j]? =some s)∨s= .no:=fun j s h=>by
  have hl:(δ.take n).length=n:=by rw[Cg];lia
  by_cases hj:j<n
  ·rw [Ap (by rw [hl];exact hj),Ch hj] at h
   exact .inl ⟨hj,h⟩
  ·unfold PC at h
   rw[Ci (by rw[hl];lia),Cp] at h;split at h
   ·cases h;exact .inr rfl
   ·cases h
 have hs: ∀(j:Nat) (v:V),j<n->σ'[j]? =some (some v)->(m++Bi nl none)[j]? =some (some v):=fun j v hj e=>by
  rw[Ap (by rw[hm];exact hj),<- hσ,Ch hj];exact e
 refine⟨?_,fun j d e=> ?_,fun j d e=> ?_,fun j a e=> ?_,fun j k a e1 e2=>S.inj j k a (hle j a e1) (hle k a e2),fun j a e=>S.old j a (hle j a e),S.zin,S.frm,⟨S.par.1,fun j _=>rfl⟩,S.pin,fun p hp=>(S.kep p hp).mono hN hN⟩
 ·simp[hm,PC,Cg]
  lia
 ·rcases hg j _ e with⟨hj,e⟩|e
  ·obtain⟨v,e1,r⟩:=S.va j d e
   exact⟨v,hs j v hj e1,r.mono hN hN⟩
  ·cases e
 ·rcases hg j _ e with⟨hj,e⟩|e
  ·obtain⟨a,e1,e2,w⟩:=S.ow j d e
   exact⟨a,(hO j hj)▸e1,hs j _ hj e2,w.mono hN⟩
  ·cases e
 ·have hj:=Bk.mp (S.par.1 j a e)
  obtain⟨d,q⟩:=S.dom j a (hle j a e);refine⟨d,?_⟩;rw[Ap (by rw[Cg];lia),Ch hj];exact q
theorem ZC(ix:List Nat)(σ:St):(bO ix σ).length=ix.length:=by simp[bO]
theorem SA{σ':St}(hl:ix.length<=σ'.length)(h: ∀i∈Am ix.length,σ'[i]? =(bO ix σ++Bi nl none)[i]?):σ'.take ix.length=bO ix σ:=by
 refine Kb fun j=> ?_;by_cases hj:j<ix.length
 ·rw[Ch hj,h j (Bk.mpr hj),Ap (by rw[ZC];exact hj)]
 ·rw[Bu (by rw[Cg];lia),Bu (by rw[ZC];lia)]
theorem LN{σ3:St}(m3: ∀i∈Am ix.length,σ3[i]? =(bO ix σ++Bi nl none)[i]?):ix.length<=σ3.length:=by
 by_cases hz:ix.length=0
 ·lia
 ·have hj : ix.length - 1 < ix.length := by lia
  have:=m3 (ix.length - 1) (Bk.mpr hj);have hs:(bO ix σ++Bi nl none)[ix.length - 1]? ≠none:=by
   rw[Ap (by rw[ZC];exact hj)];simp[bO,hj]
  rw[<- this] at hs;have pf:ix.length - 1<σ3.length:=Nat.lt_of_not_le fun z=>hs (List.getElem?_eq_none_iff.mpr z);lia
theorem GH{fi:VI}{gg:VG}{tb:VB}{fe:VF}(hnd:ix.Nodup){Q:VK}(h:TN K ml (pi && pt && pe) (bW ix nl fi gg tb fe) σ H Q):
  GD ix nl (GX K ml pi fi) (EV K (Am ix.length) gg) (TB K (Am ix.length) pt tb) (TV K (Am ix.length) pe true true fe) σ H Q:=by
 obtain⟨B,O,δ,d,δ2,S,q,k⟩:=h;unfold bW at q;obtain⟨⟨ds,δ1⟩,h1,q⟩:=Aa.mp q;have q:((aU ix.length nl gg tb fe ds [] (cF ix δ1)).map fun q=>(dP.lst q.1,Z3 ix q.2 δ1))=some (d,δ2):=q;obtain⟨⟨res,δf⟩,h2,q⟩:=Aq.mp q;cases q;refine⟨B,O,δ,ds,δ1,S,h1,fun J kps H0 S0 f0 p0 wk D hD=> ?_⟩;have hDO: ∀j,Oc ix O j≠some D:=fun j e=>by
  unfold Oc at e;obtain⟨i,hi,e⟩:=Aa.mp e;obtain⟨o,q⟩:=S0.nin (.inr ⟨i,e⟩);rw[hD] at q;cases q
 have dh: ∀kp j,ix.length<=j->(Bc ix B O H0 D kp).mu j=none:=fun kp j hj=>by
  show(ix[j]?).bind O=none;rw[Bu hj];rfl
 refine⟨fun i m acc H1=>m=ds.length - i/\i<=ds.length/\ ∃(ai:List dP) (δc:Ev),δc.length=ix.length/\acc.length=ai.length∧
   bB K (Am ix.length) (Bc ix B O H0 D (kps++acc.zip ai)) (Oc ix O) H1 (bO ix σ++Bi nl none) (δc++PC nl)/\H1 D=some (.lst acc)/\((pt && pe)=true->bR H0 H1)∧
   aU ix.length nl gg tb fe (ds.drop i) ai δc=some (res,δf),
  ⟨ds.length,rfl,Dd _,[],cF ix δ1,by simp [cF],rfl,by
   rw[Kc,Ef];exact S0.unkeep.inner hD hnd fun p hp=>S0.kep p (Bo _ hp),c0,fun _=>dJ hD,h2⟩,?_⟩
 rintro i m acc H1 ⟨rfl,hi,ai,δc,hlc,aq,S1,hD1,ca,hc⟩;have w:=wk (Nn (Bc ix B O H0 D (kps++acc.zip ai)) (Oc ix O)) H1 fun p hp=>S1.kep p (Bo _ hp);by_cases hlt:i<ds.length
 ·obtain ⟨go,yl⟩ := w.1 i ds[i] (by simp [hlt])
  rw[Cw hlt] at hc;simp only[aU] at hc;obtain⟨δ3,g1,hc⟩:=Aa.mp hc;obtain⟨⟨kk,δ4⟩,g2,hc⟩:=Aa.mp hc;refine .inr ⟨go,fun ae H'=> ∃(ai:List dP) (δc:Ev),δc.length=ix.length/\ae.length=ai.length∧
   bB K (Am ix.length) (Bc ix B O H0 D (kps++ae.zip ai)) (Oc ix O) H' (bO ix σ++Bi nl none) (δc++PC nl)/\H' D=some (.lst ae)/\((pt && pe)=true->bR H0 H')∧
   aU ix.length nl gg tb fe (ds.drop (i+1)) ai δc=some (res,δf),fun ae H' w'=>⟨ds.length - (i+1),by lia,rfl,hlt,w'⟩,fun x H2 hy=> ?_⟩
  obtain⟨sm,rx⟩:=yl x H2 hy;refine⟨_,_,_,ds[i],δ3,S1.same sm,rx,g1,fun σ3 O3 S3 m3=> ?_⟩;have ln3:=LN m3;have hσ3:=SA ln3 m3;refine⟨hσ3,_,_,δ3,kk,δ4,S3,g2,fun H4 R4=> ?_⟩;have hD4:H4 D=some (.lst acc):=R4.frm _ _ (sm _ _ hD1) fun z=>by
   obtain⟨j,e⟩:=z;have:=(R4.sta.old j D e).1;exact absurd (.inl (.inr rfl)) this
  have ln4:ix.length<=δ4.length:=by rw[<- R4.sta.len];exact ln3
  cases kk with
  |false=>
   rw[if_neg De] at hc;refine QV ⟨ai,δ4.take ix.length,by rw[Cg];lia,aq,R4.sta.turn (dh _) (ZC ix σ) hσ3 ln4,hD4,fun z=> ?_,hc⟩;exact((ca z).trans sm).trans (R4.pur ((Ae _ _).mp z).1)
  |true=>
   rw[if_pos rfl] at hc;obtain⟨⟨dv,δ5⟩,g3,hc⟩:=Aa.mp hc;split at hc
   ·rename_i hz
    refine QW ⟨_,_,δ4,dv,δ5,R4.sta,g3,fun v H5 R5=> ?_⟩;have hD5:H5 D=some (.lst acc):=R5.frm _ _ hD4 fun z=>by
     obtain⟨j,e⟩:=z;have:=(R5.sta.old j D e).1;exact absurd (.inl (.inr rfl)) this
    have ln5:ix.length<=δ5.length:=by rw[<- R5.sta.len];exact ln3
    have S6:=R5.sta.turn (nl:=nl) (dh _) (ZC ix σ) hσ3 ln5;have hv:b6 K (Nn (Bc ix B O H0 D (kps++acc.zip ai)) (Oc ix O)) H5 (Nn (Bc ix B O H0 D (kps++acc.zip ai)) (Oc ix O)) v dv:=by
     have hN: ∀a,Nn (Bc ix B O H0 D (kps++acc.zip ai)) (Oc ix O) a->av (Bc ix B O H0 D (kps++acc.zip ai)) O3 true a:=fun a h=>by
      rcases h with h|⟨j,h⟩
      ·exact .inl h
      ·refine .inr ⟨j,?_⟩
       have hj:j∈Am ix.length:=R5.sta.par.1 j a h;rw[R5.sta.par.2 j hj];exact h
     exact R5.rep.mono hN hN
    have S7:=S6.withKp (kp:=kps++(acc++[v]).zip (ai++[dv])) fun p hp=>by
     rw[Ls aq,<- Cn] at hp;rcases Cc.mp hp with z|z
     ·exact S6.kep p z
     ·rw[Ax.mp (show p∈[(v,dv)] from z)]
      exact hv
    refine⟨hD5,by rw[aq,Dc];exact hz,ai++[dv],δ5.take ix.length,by rw[Cg];lia,by simp[aq],?_,c0,fun z=> ?_,hc⟩
    ·exact S7.writeZ (.inl (.inr rfl)) hD5 hD
    ·intro b o e
     have hb:b≠D:=fun z=>by rw[z,hD] at e;cases e
     rw[cE hb];obtain⟨z1,z2⟩:=(Ae _ _).mp z;exact(((ca z).trans sm).trans ((R4.pur z1).trans (R5.pur z2))) b o e
   ·cases hc
 ·have e : i = ds.length := by lia
  subst e;rw[Fx] at hc;cases hc;refine .inl ⟨w.2,k D H1 ?_⟩;have fP:Fr (OA (Oc ix O)) H0 H1:=S1.frm;have hPO: ∀a,OA (Oc ix O) a->OA O a:=fun a q0=>by
   obtain⟨j,e⟩:=q0;unfold Oc at e;cases hi:ix[j]? with
   |none=>rw[hi] at e;cases e
   |some i=>rw[hi] at e;exact⟨i,e⟩
  have SL:=S0.unkeep.laid (o:= .lst acc) hD;have fL:Fr (OA (Oc ix O)) (bP H0 D (.lst acc)) H1:=fun b o e n=>by
   by_cases hb:b=D
   ·subst hb
    rw[c0] at e;cases e;exact hD1
   ·rw[cE hb] at e
    exact fP b o e n
  refine⟨SL.call (YH) (fun i=> ?_) fL hPO,f0.trans (fP.mono hPO),fun z=> ?_,.lst hD1 (WK aq fun p hp=>(S1.kep p (Ay _ hp)).mono WD WD),S0.unkeep.new hD,S0.fresh hD⟩
  ·by_cases dj:i<δ1.length
   ·rcases XJ (ix:=ix) (ss:=δf) (δ:=δ1) i dj hlc.symm with⟨j,x,e1,e2,e3⟩|⟨e1,e2⟩
    ·have e4:(δf++PC nl)[j]? =some (.ow x):=by
      rw[Ap (Ag.mp e2).1];exact e2
     obtain⟨a,e5,_,w⟩:=S1.ow j x e4;refine .inr ⟨a,x,?_,e3,w.mono WD⟩;unfold Oc at e5;rw[e1] at e5;exact e5
    ·refine .inl ⟨e2,fun a ea ⟨j,ej⟩ => ?_⟩
     obtain⟨x,ex⟩:=S1.dom j a ej;unfold Oc at ej;cases hi:ix[j]? with
     |none=>rw[hi] at ej;cases ej
     |some i'=>
      rw[hi] at ej;have:i=i':=S0.inj i i' a ea ej;subst this;have hj:j<δf.length:=by rw[hlc];exact(Ag.mp hi).1
      rw[Ap hj] at ex;exact e1 j x hi ex
   ·refine .inl ⟨?_,fun a ea => ?_⟩
    ·rw[Bu (by rw[YH];lia),Bu (by lia)]
    ·obtain⟨x,ex⟩:=S0.dom i a ea
     exact absurd (Ag.mp ex).1 dj
  ·simp only[Ae] at z
   exact(p0 z.1.1).trans (ca (by simp[z.1.2,z.2]))
theorem zE7{Q:Bool->Hp->Prop}(h:TB K ml true ZX σ H Q):tYes σ H Q:=by
 obtain⟨B,O,δ,k,δ',S,q,w⟩:=h;cases q;exact w H (C4.refl S)
theorem WM{Y:Cx}{t:VB}(h:PT Y c (TB K ml pt t)):PTs Y [c] (TB K ml pt t):=zBY h
theorem aJ{Y:Cx}:PTs Y [] (TB K ml true ZX):=fun aa s σ H Q I hw=>zBZ aa s σ H Q I (zE7 hw)
theorem B0{Q:VK}{o:Bool}(h:TX K ml (if o then xO f else xV f) σ H Q):TN K ml pu f σ H Q:=by
 obtain⟨B,O,δ,s,δ',S,q,k⟩:=h;have e: ∃d,f δ=some (d,δ')/\s=if o then .ow d else .va d:=by
  cases o with
  |true=>
   have q:(f δ).map (fun p=>(Sl.ow p.1,p.2))=some (s,δ'):=q;cases h1:f δ with
   |none=>rw[h1] at q;cases q
   |some p=>rw[h1] at q;cases q;exact⟨p.1,rfl,rfl⟩
  |false=>
   have q:(f δ).map (fun p=>(Sl.va p.1,p.2))=some (s,δ'):=q;cases h1:f δ with
   |none=>rw[h1] at q;cases q
   |some p=>rw[h1] at q;cases q;exact⟨p.1,rfl,rfl⟩
 obtain⟨d,h1,hs⟩:=e;refine⟨B,O,δ,d,δ',S,h1,fun p H' R=> ?_⟩;cases o with
 |true=>
  cases hs;have w:=R.own;cases w with
  |lst q1 r=>exact k _ H' _ (R.sta.keepV (UU r)) (.ol q1 r.length R.nz R.h0) R.frm
  |dct q1 r=>exact k _ H' _ (R.sta.keepV (UU r)) (.od q1 (by simpa using r.length) R.nz R.h0) R.frm
 |false=>
  cases hs;exact k _ H' _ (R.sta.unadd.keepV (ps:=[(.ref p,d)]) fun z hz=>by
   rw[Ax.mp hz];exact(R.own.mono T4).rep R.nz) .va R.frm
theorem IL{i:Nat}{x:VX}{te:TE}(hte: ∀σ H Q,TX K ml x σ H Q->te σ H Q)(hm:i∉ml){D:GU}(h:UE K ml (aV i x) D σ H):BV te (JM i) D σ H:=by
 obtain⟨B,O,δ,o,S,q,k⟩:=h;unfold aV at q;obtain⟨⟨s,δ1⟩,h1,q⟩:=Aa.mp q;have q:(if i<δ1.length then some (Ou.nx (δ1.set i s)) else none)=some o:=q;split at q
 ·rename_i hl
  cases q;refine hte _ _ _ ⟨B,O,δ,s,δ1,S,h1,fun v H' B' S' h' f'=> ?_⟩;obtain⟨O'',S''⟩:=h'.bind S' hm hl;exact k _ _ _ S''
 ·cases q
end
abbrev cM(P:Bq)(w:World)(K:As)(mg:Str->Option Value)(base:Heap)(x:Str)(k:Nat)(ps:List Str)(mF:List Nat)(F:bN)(f:Addr):Prop:=Def P w K mg base x k ps (spV K mF ps.length F) f
section
variable{X:Cx}{K:As}{ml:List Nat}{e a b c:Expr}{es:List Expr}{pa ta ia pb tb ib pc tc ic pu bt bi ps bs:Bool}{fa fb fc f:VF}{B B':Bs}{O:Nat->Option Addr}{H H0 H1 H':Hp}{σ:St}{δ δ':Ev}{v:V}{d:dP}{p:Addr}{pos:Pos}
theorem aK{x:Str}(hg:Gl X x)(h: ∃u v,X.mg x=some u/\cL v u/\ ∀N H M,b6 K N H M v d)(hd:(x==("__debug__":Str))=false:=by decide):PE X (.Name x pos) (TV K ml true true true (fC d)):=by
 obtain⟨u,v,h1,h2,h3⟩:=h;exact EQ (zC8 hg h1 h2 hd) h3
def zDG(K:As):R2:=fun x y H Q=> ∃a b xs ys,x= .ref a/\y= .ref b/\W4 K H a xs/\W4 K H b ys/\xs.length+ys.length<=sizeLine∧
 (xs=[]->Q (.ref b) H)/\(xs≠[]->ys=[]->Q (.ref a) H)/\(xs≠[]->ys≠[]-> ∀p,H p=none->Q (.ref p) (bP H p (.tup (xs++ys))))
theorem zCF:XO X (Fe .Add) (zDG X.K):=by
 intro aa s σ H x y v u Q I rx ry h;obtain⟨a,b,xs,ys,rfl,rfl,ha,hb,hz,q0,q1,q2⟩:=h;cases rx;cases ry;obtain⟨its,r1,p1,_⟩:=I.tuple ha;obtain⟨g7,r2,p2,_⟩:=I.tuple hb;by_cases hx:xs=[]
 ·subst hx
  have e0:its=[]:=r1.nil_iff.mpr rfl;subst e0;obtain⟨⟨cls,dd,data,sl⟩,ho,hc,n,hd⟩:=id p1;obtain⟨⟨m6,dd2,data2,sl2⟩,ho2,hc2,n2,hd2⟩:=id p2;simp only at hc hd hc2 hd2;subst hc hd hc2 hd2;exact Ln ⟨_,ho,rfl⟩ ⟨_,ho2,rfl⟩ Ky Mv Ht Hh (Ha _ _)
   (tuple_addW0 a b _ g7.toArray n n2 dd dd2 sl sl2 (by simp)) ⟨ho,ho2,⟨.ref b,H,I,rfl,q0 rfl⟩⟩
 ·refine HT.zD2 p1 p2 (fun z => hx (r1.nil_iff.mp z)) (fun z => ⟨.ref a,H,I,rfl,q1 hx (r2.nil_iff.mp z)⟩) (fun z => ?_) (by rw [<- r1.length,<- r2.length];exact hz)
  refine⟨.ref s.heap.objs.size,_,I.laid (t':=s.toks) (o:= .tup (xs++ys)) (fun b ob q=>Ad _ q) (Ao _) ?_,rfl,q2 hx (fun w=>z (r2.nil_iff.mpr w)) _ (I.hok.fresh (Ao _))⟩;exact⟨by rw[Bv];exact hz,_,r1.append r2,Jy _ _⟩
def zDF(K:As):R2:=fun x y H Q=> ∃l b xs zs,x= .ref l/\y= .ref b/\X1 K H l xs/\X1 K H b zs/\xs.length+zs.length<=sizeLine/\ ∀p,H p=none->Q (.ref p) (bP H p (.lst (xs++zs)))
theorem zCE:XO X (Fe .Add) (zDF X.K):=by
 intro aa s σ H x y v u Q I rx ry h;obtain⟨l,b,xs,zs,rfl,rfl,hH,hB,hz,q⟩:=h;cases rx;cases ry;obtain⟨its,r,p1,_⟩:=I.list hH;obtain⟨g7,r2,p2,_⟩:=I.list hB;obtain⟨⟨cls,dd,data,sl⟩,n,ho,hc,_,hd⟩:=id p1;obtain⟨⟨m6,dd2,data2,sl2⟩,n2,ho2,hc2,_,hd2⟩:=id p2;simp only at hc hd hc2 hd2;subst hc hd hc2 hd2;have ea:its.toArray++g7.toArray=(its++g7).toArray:=by simp
 have hl:=r.length;have hl2:=r2.length;refine Ln ⟨_,ho,rfl⟩ ⟨_,ho2,rfl⟩ noFill_list_add seq_list_add PySem.F.slot_list_add PySem.F.entry_list_add (PySem.F.args_list_add_2 _ _) (list_addW l b its.toArray g7.toArray n n2 dd dd2 sl sl2 (by rw[Av,Av,<- hl,<- hl2];exact hz)) ⟨ho,ho2,?_⟩;rw[ea];exact⟨.ref _,_,I.lnew (t':=s.toks) (r.append r2) (by rw[Bv];lia),rfl,q _ I.fresh⟩
def zDE(K:As):R2:=fun x y H Q=>((HX (fun i j=> .int (i+j)) x y H Q∨zDG K x y H Q)∨zDF K x y H Q)∨ ∃i j,x= .str i/\y= .str j/\i.length+j.length<=sizeLine/\Q (.str (i++j)) H
theorem YQ(h:X.K=K):XO X (Fe .Add) (zDE K):=by subst h;exact((zFM.or zCF).or zCE).or HN
noncomputable def a6:dP->dP->Option dP
 | .int i,.int j=>some (.int (i+j))
 | .tup ds,.tup es=>if ds.length+es.length<=16777216 then some (.tup (ds++es)) else none
 | .lst ds,.lst es=>if ds.length+es.length<=16777216 then some (.lst (ds++es)) else none
 | .str x,.str y=>if x.length+y.length<=16777216 then some (.str (x++y)) else none
 |_,_=>none
theorem b6.tupE{N M:Addr->Prop}{ds:List dP}(h:b6 K N H M v (.tup ds)): ∃a xs,v= .ref a/\W4 K H a xs/\cY K N H xs ds:=by
 cases h with
 |tup q r=>exact⟨_,_,rfl,q,r⟩
theorem b6.lstE{N M:Addr->Prop}{ds:List dP}(h:b6 K N H M v (.lst ds)): ∃a xs,v= .ref a/\X1 K H a xs/\cY K N H xs ds:=by
 cases h with
 |lst q n r=>exact⟨_,_,rfl,X1.of q,r⟩
 |fzl q r=>exact⟨_,_,rfl,q.sq,r⟩
theorem ZY:OpC K (zDE K) a6:=by
 intro H N M M' x y d e c Q hx hy h k;cases d with
 |int i=>
  cases e with
  |int j=>
   cases h;cases hx;cases hy;exact .inl (.inl (.inl ⟨_,_,rfl,rfl,k _ _ (bR.refl _) fun _ _=> .int _⟩))
  |_=>cases h
 |str i=>
  cases e with
  |str j=>
   simp only[a6] at h;split at h
   ·cases h
    cases hx;cases hy;exact .inr ⟨_,_,rfl,rfl,by rw[Dc];assumption,k _ _ (bR.refl _) fun _ _=> .str _⟩
   ·cases h
  |_=>cases h
 |tup ds=>
  cases e with
  |tup es=>
   simp only[a6] at h;split at h
   ·rename_i hz
    cases h;obtain⟨a,xs,rfl,q1,r1⟩:=hx.tupE;obtain⟨b,ys,rfl,q2,r2⟩:=hy.tupE;refine .inl (.inl (.inr ⟨a,b,xs,ys,rfl,rfl,q1,q2,by rw[r1.length,r2.length,Dc];exact hz,fun z=> ?_,fun z1 z2=> ?_,fun z1 z2 p hp=> ?_⟩))
    ·subst z
     have:ds=[]:=Fv.mp r1.length.symm;subst this;exact k _ _ (bR.refl _) fun M hM=> .tup q2 r2
    ·subst z2
     have:es=[]:=Fv.mp r2.length.symm;subst this;rw[Ef] at k;exact k _ _ (bR.refl _) fun M hM=> .tup q1 r1
    ·exact k _ _ (dJ hp) fun M hM=> .tup (W4.of c0) ((r1.append r2).same (dJ hp))
   ·cases h
  |_=>cases h
 |lst ds=>
  cases e with
  |lst es=>
   simp only[a6] at h;split at h
   ·rename_i hz
    cases h;obtain⟨a,xs,rfl,q1,r1⟩:=hx.lstE;obtain⟨b,ys,rfl,q2,r2⟩:=hy.lstE;exact .inl (.inr ⟨a,b,xs,ys,rfl,rfl,q1,q2,by rw[r1.length,r2.length,Dc];exact hz,fun p hp=>k _ _ (dJ hp) fun M hM=> .lst c0 (fun z=>by
     obtain⟨o,q⟩:=hM _ z;rw[hp] at q;cases q) ((r1.append r2).same (dJ hp))⟩)
   ·cases h
  |_=>cases h
 |_=>cases h
def A6:As->R2:=fun _=>rI CW fun i j=> .int (i*j)
theorem LY(h:X.K=K):XO X (Fe .Mult) (A6 K):=zFK
abbrev PH:=oMul
theorem QA:OpC K (A6 K) PH:=by
 intro H N M M' x y d e c Q hx hy h k;exact zHX H N N M M' x y d e c Q hx hy h fun v hv=>k v H (bR.refl _) fun M _=>hv _ _ _
noncomputable def XX:dP->Option b9
 | .int i=>some (.inl i)
 | .str x=>some (.inr x)
 |_=>none
theorem b6.key{N M:Addr->Prop}{k:b9}(h:b6 K N H M v d)(e:XX d=some k):v=kV k:=by
 cases h<;>first
  |(cases e;rfl)
  |cases e
noncomputable def bX(ks:List b9)(ds:List dP)(k:b9):Option dP:=match ks,ds with
 |k'::ks,d::ds=>if k'=k then some d else bX ks ds k
 |_,_=>none
theorem SU{N:Addr->Prop}{k:b9}: ∀{kvs:List (b9×V)} {ds:List dP},cY K N H (kvs.map Du) ds→
  (∃v d,UH kvs k=some v/\bX (kvs.map Ct) ds k=some d/\b6 K N H N v d)∨(UH kvs k=none/\bX (kvs.map Ct) ds k=none)
 |[],_,.nil=> .inr ⟨rfl,rfl⟩
 | (k',v) :: kvs,_,.cons h t => by
  by_cases hk:k'=k
  ·refine .inl ⟨v,_,S9 (p:=(k',v)) hk,?_,h⟩
   simp[bX,hk]
  ·rcases SU (k:=k) t with⟨v',d',h1,h2,h3⟩|⟨h1,h2⟩
   ·exact .inl ⟨v',d',(VL (p:=(k',v)) hk).trans h1,by simpa[bX,hk] using h2,h3⟩
   ·exact .inr ⟨(VL (p:=(k',v)) hk).trans h1,by simpa[bX,hk] using h2⟩
theorem zJ7(hu:X.A.units+1<cLine):C0 X (fun x y H Q=> ∃a v,x= .ref a/\RA H a y (some v)/\Q v H):=by
 intro value slice aa s σ H x y v u Q I rx ry h hs;obtain⟨a,w,rfl,g,q⟩:=h;cases rx;exact Ra (JJ I g) PySem.F.slot_dict_getitem.lookup (DG hu I g ry fun w' s3 I3 rw'=>⟨w,H,I3,rw',q⟩) hs
def rIxA(K:As):R2:=fun x y H Q=>(rIx K x y H Q∨ ∃a v,x= .ref a/\RA H a y (some v)/\Q v H)∨ ∃a k D v,x= .ref a/\y= .str k/\KTab K a D/\Fk k D=some v/\Q v H
theorem kIxA(h:X.K=K)(hu:X.A.units+1<cLine):C0 X (rIxA K):=by subst h;exact(zGT.or (zJ7 hu)).or zCV
noncomputable def cZ:dP->dP->Option dP
 | .tup ds,.int i=>V1 ds i
 | .lst ds,.int i=>V1 ds i
 | .dct ks ds,e=>(XX e).bind (bX ks ds)
 | .str z,.int i=>if z.length<=16777216 then(V1 z.cps.toList i).map fun c=> .str ⟨#[c]⟩ else none
 |_,_=>none
theorem RF{N:Addr->Prop}{k:Str}: ∀{D:List (Str×V)} {ds:List dP},cY K N H (D.map Du) ds→
  (∃v d,Fk k D=some v/\bX (D.map fun p=> .inr p.1) ds (.inr k)=some d/\b6 K N H N v d)∨(Fk k D=none/\bX (D.map fun p=> .inr p.1) ds (.inr k)=none)
 |[],_,.nil=> .inr ⟨rfl,rfl⟩
 | (k',v) :: D,_,.cons h t => by
  by_cases hk:k'=k
  ·subst hk
   exact .inl ⟨v,_,by simp[Fk],by simp[bX],h⟩
  ·have hk2 : ¬ k = k' := fun z => hk z.symm
   rcases RF (k:=k) t with⟨v',d',h1,h2,h3⟩|⟨h1,h2⟩
   ·exact .inl ⟨v',d',by simpa[Fk,hk,hk2] using h1,by simpa[bX,hk] using h2,h3⟩
   ·exact .inr ⟨by simpa[Fk,hk,hk2] using h1,by simpa[bX,hk] using h2⟩
theorem JV{i:Int}: ∀{D:List (Str×V)} {ds:List dP},bX (D.map fun p=> .inr p.1) ds (.inl i)=none
 |[],_=>by simp[bX]
 |_::_,[]=>by simp[bX]
 |p::D,d::ds=>by simpa[bX] using JV (D:=D) (ds:=ds)
theorem zJA:OpI K (rIxA K) cZ:=by
 intro H N N' M M' x y d e c Q hx hy h k;have seq: ∀ds i,YS d=some ds->e= .int i->V1 ds i=some c->rIxA K x y H Q:=fun ds i h1 h2 h3=>by
  subst h2;cases hy;obtain⟨a,xs,rfl,sq,r⟩:=hx.seq h1;obtain⟨v,hv,rv⟩:=zD8 r h3;rcases sq with sq|sq
  ·exact .inl (.inl (.inl ⟨a,xs,i,v,rfl,rfl,sq,hv,k v rv⟩))
  ·exact .inl (.inl (.inr (.inl ⟨a,xs,i,v,rfl,rfl,sq,hv,k v rv⟩)))
 cases d with
 |tup ds=>
  cases e with
  |int i=>exact seq ds i rfl rfl h
  |_=>cases h
 |lst ds=>
  cases e with
  |int i=>exact seq ds i rfl rfl h
  |_=>cases h
 |str z=>
  cases e with
  |int i=>
   simp only[cZ] at h;split at h
   ·obtain⟨ch,hc,h⟩:=Aq.mp h
    cases h;cases hx;cases hy;exact .inl (.inl (.inr (.inr ⟨z,i,ch,rfl,rfl,by rw[Dc];assumption,hc,k _ (.str _)⟩)))
   ·cases h
  |_=>cases h
 |dct ks ds=>
  simp only[cZ] at h;obtain⟨kk,hk,h⟩:=Aa.mp h;have h:bX ks ds kk=some c:=h;have ey:=hy.key hk;subst ey;cases hx with
  |dct q n r=>
   rcases SU (k:=kk) r with⟨v,d',h1,h2,h3⟩|⟨h1,h2⟩
   ·rw[h] at h2
    cases h2;exact .inl (.inr ⟨_,v,rfl,h1▸RA.k q,k v h3⟩)
   ·rw[h] at h2;cases h2
  |ktb T r=>
   cases kk with
   |inl i=>rw[JV] at h;cases h
   |inr x=>
    rcases RF (k:=x) r with⟨v,d',h1,h2,h3⟩|⟨h1,h2⟩
    ·rw[h] at h2
     cases h2;exact .inr ⟨_,x,_,v,rfl,rfl,T,h1,k v h3⟩
    ·rw[h] at h2;cases h2
 |_=>cases h
noncomputable def X2(δ:Ev)(i:Nat):Option (List b9×List dP):=match δ[i]? with
 |some (.ow (.dct ks ds))=>some (ks,ds)
 |_=>none
theorem UQ{i:Nat}{ks:List b9}{ds:List dP}(h:X2 δ i=some (ks,ds)):δ[i]? =some (.ow (.dct ks ds)):=by
 unfold X2 at h;split at h
 ·cases h;assumption
 ·cases h
noncomputable def LS(i:Nat)(fk fx:VF):VF:=fun δ=>(X2 δ i).bind fun _=>(fk δ).bind fun p=>(fx p.2).bind fun q=>(XX p.1).bind fun k=>(X2 q.2 i).map fun z=>((bX z.1 z.2 k).getD q.1,q.2)
theorem B6{i:Nat}{fk fx:VF}{am af:Pos}(hu:X.A.units+1<cLine)(ho:PE X a (MD i))(hk:PE X b (TV K ml pa ta ia fk))(hx:PE X c (TV K ml pb true true fx))(m:M2 X a "get" am b c af):
  PE X (.Call (.Attribute a "get" am) [b,c] [] af) (TV K ml (pa && pb) true true (LS i fk fx)):=(AI hu ho hk hx m).imp fun σ H Q hq0=>by
 obtain⟨B,O,δ,d,δ3,S,q,k⟩:=hq0;unfold LS at q;cases h0:X2 δ i with
 |none=>rw[h0] at q;cases q
 |some z0=>
  obtain⟨ks0,ds0⟩:=z0;rw[h0] at q;cases h1:fk δ with
  |none=>simp[h1] at q
  |some p1=>
   obtain⟨y,δ1⟩:=p1;simp only[At,h1] at q;cases h2:fx δ1 with
   |none=>simp[h2] at q
   |some p2=>
    obtain⟨z,δ2⟩:=p2;simp only[At,h2] at q;cases h3:XX y with
    |none=>simp[h3] at q
    |some kk=>
     simp only[At,h3] at q;cases h4:X2 δ2 i with
     |none=>simp[h4] at q
     |some zz=>
      obtain⟨ks,ds⟩:=zz;simp only[h4] at q;cases q;obtain⟨l,e1,e2,w⟩:=S.ow i _ (UQ h0);refine⟨.ref l,e2,l,rfl,?_,B,O,δ,y,δ1,S,h1,fun v1 H1 R1=>⟨B,O,δ1,z,_,R1.sta,h2,fun v2 H2 R2=> ?_⟩⟩
      ·generalize hw:dP.dct ks0 ds0=dd at w
       cases w with
       |lst _ _=>cases hw
       |dct q _=>exact .inl ⟨_,.inl q⟩
      ·have ey:=R1.rep.key h3
       subst ey;obtain⟨l',e3,_,w2⟩:=R2.sta.ow i _ (UQ h4);rw[e1] at e3;cases e3;have fin: ∀o,b6 K (Nn B O) H2 (Nn B O) (o:V) ((bX ks ds kk).getD z)->Q o H2:=fun o ho=>k o H2 ⟨R2.sta,R1.frm.trans R2.frm,fun z=>by
        obtain⟨z1,z2⟩:=(Ae _ _).mp z;exact(R1.pur z1).trans (R2.pur z2),ho⟩
       generalize hw:dP.dct ks ds=dd at w2;cases w2 with
       |lst _ _=>cases hw
       |dct q r=>
        cases hw;refine⟨_,RA.k q,fin _ ?_⟩;rcases SU (k:=kk) r with⟨v,d',g1,g2,g3⟩|⟨g1,g2⟩
        ·rw[g1,g2];exact g3
        ·rw[g1,g2];exact R2.rep
noncomputable def Y0:List b9->List dP->b9->dP->List b9×List dP
 |k'::ks,d::ds,k,v=>if k'=k then(k'::ks,v::ds) else let r:=Y0 ks ds k v;(k'::r.1,d::r.2)
 |_,_,k,v=>([k],[v])
noncomputable def KL(i:Nat)(fk fv:VF):VS:=fun δ=>(fv δ).bind fun p=>(X2 p.2 i).bind fun _=>(fk p.2).bind fun q=>(XX q.1).bind fun k=>(X2 q.2 i).bind fun z=>if z.1.length<16777216/\z.1.Nodup then some (.nx (q.2.set i (.ow (let r:=Y0 z.1 z.2 k p.1;.dct r.1 r.2)))) else none
theorem NG{N:Addr->Prop}{k:b9}{v:V}(h:b6 K N H N v d): ∀{kvs:List (b9×V)} {ds:List dP},(kvs.map Ct).Nodup->cY K N H (kvs.map Du) ds→
  (X3 kvs k v).map Ct=(Y0 (kvs.map Ct) ds k d).1/\cY K N H ((X3 kvs k v).map Du) (Y0 (kvs.map Ct) ds k d).2
 |[],_,_,.nil=>⟨rfl,.cons h .nil⟩
 | (k',u) :: kvs,_,nd,.cons hu t => by
  obtain⟨n1,n2⟩:=Cq.mp nd;by_cases hk:k'=k
  ·subst hk
   have e:X3 ((k',u)::kvs) k' v=(k',v)::kvs:=by
    unfold X3;rw[if_pos (by simp)];simp only[Ar,if_true];congr 1;refine(Ck fun p hp=> ?_).trans (Kr _);have:p.1≠k':=fun z=>n1 (Bd.mpr ⟨p,hp,z⟩);simp[this]
   rw[e];exact⟨by simp[Y0],by simpa[Y0] using cY.cons h t⟩
  ·obtain⟨h1,h2⟩:=NG (k:=k) h n2 t
   have e:X3 ((k',u)::kvs) k v=(k',u)::X3 kvs k v:=by
    unfold X3;simp only[Fu,hk,decide_false,Rb];split
    ·simp[hk]
    ·rfl
   rw[e];exact⟨by simpa[Y0,hk] using h1,by simpa[Y0,hk] using cY.cons hu h2⟩
theorem L6{N:Addr->Prop}{l:Addr}{o:HO}{xs:List V}{ds:List dP}{kvs:List (b9×V)}(ho:H l=some (.dK kvs))(hN:N l)(h:cY K N H xs ds):cY K N (bP H l o) xs ds:=
 h.fr (P:=fun b=>b=l) (fun b u q n=>by
  by_cases hb:b=l
  ·subst hb
   rw[ho] at q;cases q;exact absurd (n rfl) fun z=>z
  ·rw[cE hb]
   exact q) fun a z=>z▸hN
theorem GO{i:Nat}{fk fv:VF}{bm:Pos}(hu:X.A.units+1<cLine)(ho:PE X a (MD i))(hk:PE X b (TV K ml pa ta ia fk))(hv:PE X c (TV K ml pb true true fv))(hs:Gf c (some (.Subscript a b bm)) pos.line X.env=pure false):
  PS X (.Assign [.Subscript a b bm] c pos) (UE K ml (KL i fk fv)):=(zC2 hu ho hk hv hs).imp fun D σ H hq0=>by
 obtain⟨B,O,δ,o,S,q,k⟩:=hq0;unfold KL at q;obtain⟨⟨z,δ1⟩,h1,q⟩:=Aa.mp q;have q:((X2 δ1 i).bind fun _=>(fk δ1).bind fun q=>(XX q.1).bind fun k=>(X2 q.2 i).bind fun z_1=>if z_1.1.length<16777216/\z_1.1.Nodup then some (Ou.nx (q.2.set i (.ow (let r:=Y0 z_1.1 z_1.2 k z;.dct r.1 r.2)))) else none)=some o:=q;cases h0:X2 δ1 i with
 |none=>rw[h0] at q;cases q
 |some z0=>
 obtain⟨ks0,ds0⟩:=z0;rw[h0] at q;cases h2:fk δ1 with
 |none=>simp[h2] at q
 |some p2=>
  obtain⟨y,δ2⟩:=p2;simp only[At,h2] at q;cases h3:XX y with
  |none=>simp[h3] at q
  |some kk=>
   simp only[At,h3] at q;cases h4:X2 δ2 i with
   |none=>simp[h4] at q
   |some zz=>
    obtain⟨ks,ds⟩:=zz;simp only[h4,At] at q;split at q
    ·rename_i hz
     cases q;refine⟨B,O,δ,z,δ1,S,h1,fun v1 H1 R1=> ?_⟩;obtain⟨l,e1,e2,_⟩:=R1.sta.ow i _ (UQ h0);refine⟨.ref l,e2,B,O,δ1,y,δ2,R1.sta,h2,fun v2 H2 R2=> ?_⟩;have ey:=R2.rep.key h3;subst ey;obtain⟨l',e3,_,w2⟩:=R2.sta.ow i _ (UQ h4);rw[e1] at e3;cases e3;generalize hw:dP.dct ks ds=dd at w2;cases w2 with
     |lst _ _=>cases hw
     |dct qd r=>
      cases hw;have rv:=R1.rep.fr R2.frm (fun a z=> .inr z) fun a z=> .inr z;obtain⟨g1,g2⟩:=NG (k:=kk) rv hz.2 r;refine⟨l,_,rfl,DPut.k qd (by rw[Dc];simpa using hz.1),k σ _ O (R2.sta.wrote e1 (fun z=>z) ?_)⟩;have w:P7 K (Nn B O) (bP H2 l (.dK (X3 _ kk v1))) l (.dct ((X3 _ kk v1).map Ct) _):= .dct c0 (L6 qd (.inr ⟨i,e1⟩) g2);rw[g1] at w;exact w
    ·cases q
end
section
variable{X:Cx}{K:As}{ml:List Nat}{e a b c:Expr}{es:List Expr}{pa ta ia pb tb ib pc tc ic pu bt bi ps bs:Bool}{fa fb fc f:VF}{B B':Bs}{O:Nat->Option Addr}{H H0 H1 H':Hp}{σ:St}{δ δ':Ev}{v:V}{d:dP}{p:Addr}{pos:Pos}
def zHH(i j k:Nat)(ta:TA):TS:=fun D σ H=>ta σ H fun vs H1=> ∃v w u,vs=[v,w,u]/\D.nx (((σ.set i (some v)).set j (some w)).set k (some u)) H1
theorem zC1{i j k:Nat}{x y z:Str}{a b c:Expr}{ta:TA}{px py pz pt:Pos}{kt k2 pt2}(hc:X.calm=true)(hN:X.N.Nodup)(hi:X.N[i]? =some x)(hj:X.N[j]? =some y)(hk:X.N[k]? =some z)(hij:i≠j)(hik:i≠k)(hjk:j≠k)
  (hx:X.env.scope.names.lookup x=some .local) (hy:X.env.scope.names.lookup y=some .local) (hz:X.env.scope.names.lookup z=some .local) (ha:PA X [a,b,c] ta)
  (hw:Fd [.Tuple [.Name x px,.Name y py,.Name z pz] kt pt] (.Tuple [a,b,c] k2 pt2) X.env=pure (some [x,y,z]))
  (hs:Fc [.Tuple [.Name x px,.Name y py,.Name z pz] kt pt] (.Tuple [a,b,c] k2 pt2) pos.line X.env=pure false:=by rfl):
  PS X (.Assign [.Tuple [.Name x px,.Name y py,.Name z pz] kt pt] (.Tuple [a,b,c] k2 pt2) pos) (zHH i j k ta):=by
 intro aa s σ H D I h;rw[exec_Assign_arm];refine Ac (Dw ?_);rw[hs];refine Ac (Aj ?_);rw[if_neg (by decide)];refine Ac (Tuple_ (ZT (ha _ aa s σ H _ I h) fun us s1 ⟨vs,H1,I1,r1,q1⟩=> ?_));obtain⟨v,w,u,e1,q1⟩:=q1;subst e1;obtain⟨u1,u2,u3,rfl,rv,rw',ru⟩: ∃u1 u2 u3,us=[u1,u2,u3]/\cL v u1/\cL w u2/\cL u u3:=by
  cases r1 with
  |cons p q=>
   cases q with
   |cons p' q'=>
    cases q' with
    |cons p'' q''=>
     cases q'';exact⟨_,_,_,rfl,p,p',p''⟩
 refine Cu ?_ (by show 3<=sizeLine;decide);have I2:c6 X aa σ H1 {s1 with heap:=s1.heap.push {cls:= .type "tuple",data:= .seq [u1,u2,u3].toArray}}:=I1.kept (t':=s1.toks) fun b o e=>Ad _ e;rw[hw];refine Ac (Aj ?_);show wpAny (model X.prog X.w) X.A (do rule "assign.swapped-stores";let items<- Iy (.ref s1.heap.objs.size) 3 none;assignInOrder [fun v=>Ip X.env z v,fun v=>Ip X.env y v,fun v=>Ip X.env x v] items.reverse;pure Flow.next) _ _ _;refine Ac (Gp (Ac (Nt (items:= #[u1,u2,u3]) (I.ok.hd hc) (Jy s1.heap _) fun h' hx'=> ?_)));have I3:=I2.kept (h':=h') (t':=s1.toks) fun b o e=>hx' b o (Be (An e)) e;show wpAny _ _ (assignInOrder [fun v=>Ip X.env z v,fun v=>Ip X.env y v,fun v=>Ip X.env x v] [u3,u2,u1]>>=fun _=>pure Flow.next) _ _ _;refine Ac (Dv (Ib (Y1 I3 hN hk (.inl hz) ru (fun s2 I4=> ?_) (.inr hz))));refine Dv (Ib (Y1 I4 hN hj (.inl hy) rw' (fun s3 I5=> ?_) (.inr hy)));refine Dv (Ib (Y1 I5 hN hi (.inl hx) rv (fun s4 I6=>Hw (Aj ?_)) (.inr hx)));rw[Dx _ _ (Dg hij),Dx _ _ (Dg hik),Dx _ _ (Dg hjk)] at I6;exact⟨_,H1,I6,q1⟩
noncomputable def PX(i j k:Nat)(x y z:VX):VS:=fun δ=>(x δ).bind fun p=>(y p.2).bind fun q=>(z q.2).bind fun r=>if i<r.2.length/\j<r.2.length/\k<r.2.length then some (.nx (((r.2.set k r.1).set j q.1).set i p.1)) else none
theorem NJ{i j k:Nat}{x y z:VX}{o:Ou}(h:PX i j k x y z δ=some o): ∃s1 δ1 s2 δ2 s3 δ3,x δ=some (s1,δ1)/\y δ1=some (s2,δ2)/\z δ2=some (s3,δ3)/\(i<δ3.length/\j<δ3.length/\k<δ3.length)/\o= .nx (((δ3.set k s3).set j s2).set i s1):=by
 unfold PX at h;cases h1:x δ with
 |none=>rw[h1] at h;cases h
 |some p=>
  rw[h1] at h;cases h2:y p.2 with
  |none=>simp[h2] at h
  |some q=>
   simp only[At,h2] at h;cases h3:z q.2 with
   |none=>simp[h3] at h
   |some r=>
    simp only[At,h3] at h;split at h
    ·cases h
     exact⟨p.1,p.2,q.1,q.2,r.1,r.2,rfl,h2,h3,by assumption,rfl⟩
    ·cases h
theorem zBG{i j k:Nat}{x y z:Str}{fx fy fz:VX}{px py pz pt:Pos}{kt k2 pt2}(hc:X.calm=true)(hN:X.N.Nodup)(hi:X.N[i]? =some x)(hj:X.N[j]? =some y)(hk:X.N[k]? =some z)(hij:i≠j)(hik:i≠k)(hjk:j≠k)
  (hx:X.env.scope.names.lookup x=some .local) (hy:X.env.scope.names.lookup y=some .local) (hz:X.env.scope.names.lookup z=some .local) (ha:PE X a (TX K ml fx)) (hb:PE X b (TX K ml fy)) (hcc:PE X c (TX K ml fz))
  (hw:Fd [.Tuple [.Name x px,.Name y py,.Name z pz] kt pt] (.Tuple [a,b,c] k2 pt2) X.env=pure (some [x,y,z])) (hmi:i∉ml:=by decide) (hmj:j∉ml:=by decide) (hmk:k∉ml:=by decide)
  (hs:Fc [.Tuple [.Name x px,.Name y py,.Name z pz] kt pt] (.Tuple [a,b,c] k2 pt2) pos.line X.env=pure false:=by rfl)
  (he:Ak (a::[b,c]) X.env=(false,eval a X.env)::Ak [b,c] X.env:=by rfl) (he2:Ak (b::[c]) X.env=(false,eval b X.env)::Ak [c] X.env:=by rfl) (he3:Ak (c::[]) X.env=(false,eval c X.env)::Ak [] X.env:=by rfl):
  PS X (.Assign [.Tuple [.Name x px,.Name y py,.Name z pz] kt pt] (.Tuple [a,b,c] k2 pt2) pos) (UE K ml (PX i j k fx fy fz)):=(zC1 hc hN hi hj hk hij hik hjk hx hy hz (cK ha (cK hb (cK hcc aP he3) he2) he) hw hs).imp fun D σ H hq0=>by
 obtain⟨B,O,δ,o,S,q,k⟩:=hq0;obtain⟨s1,δ1,s2,δ2,s3,δ3,h1,h2,h3,hl,rfl⟩:=NJ q;refine⟨B,O,δ,s1,δ1,S,h1,fun v H1 B1 S1 w1 f1=>⟨B1,O,δ1,s2,δ2,S1,h2,fun v2 H2 B2 S2 w2 f2=>⟨B2,O,δ2,s3,δ3,S2,h3,fun v3 H3 B3 S3 w3 f3=>⟨v,v2,v3,rfl,?_⟩⟩⟩⟩;obtain⟨O4,S4⟩:=w3.bind S3 hmk hl.2.2;obtain⟨O5,S5⟩:=(w2.fr f3).bind S4 hmj (by rw[Cd];exact hl.2.1);obtain⟨O6,S6⟩:=((w1.fr f2).fr f3).bind S5 hmi (by rw[Cd,Cd];exact hl.1);rw[Dx _ _ (Dg hij),Dx _ _ (Dg hik),Dx _ _ (Dg hjk)] at S6;exact k _ _ _ S6
theorem zBD{i j k:Nat}{x y z:Str}{fx fy fz:VX}{px py pz pt:Pos}{kt k2 pt2}(hK:X.K=K)(hc:X.calm=true)(hN:X.N.Nodup)(hi:X.N[i]? =some x)(hj:X.N[j]? =some y)(hk:X.N[k]? =some z)(hij:i≠j)(hik:i≠k)(hjk:j≠k)
  (hx:GV X.env.scope x) (hy:GV X.env.scope y) (hz:GV X.env.scope z) (ha:PE X a (TX K ml fx)) (hb:PE X b (TX K ml fy)) (hcc:PE X c (TX K ml fz))
  (hmi:i∉ml:=by decide) (hmj:j∉ml:=by decide) (hmk:k∉ml:=by decide)
  (hs:Fc [.Tuple [.Name x px,.Name y py,.Name z pz] kt pt] (.Tuple [a,b,c] k2 pt2) pos.line X.env=pure false:=by rfl)
  (hw:Fd [.Tuple [.Name x px,.Name y py,.Name z pz] kt pt] (.Tuple [a,b,c] k2 pt2) X.env=pure none:=by rfl)
  (hn:(assignEach [.Name x px,.Name y py,.Name z pz] X.env).length=3:=by rfl) (hst:(assignEach [.Name x px,.Name y py,.Name z pz] X.env).findIdx? (·.1)=none:=by rfl)
  (g1:(assignEach [.Name x px,.Name y py,.Name z pz] X.env).map (·.2)=Ex (.Name x px) X.env::(assignEach [.Name y py,.Name z pz] X.env).map (·.2):=by rfl)
  (g2:(assignEach [.Name y py,.Name z pz] X.env).map (·.2)=Ex (.Name y py) X.env::(assignEach [.Name z pz] X.env).map (·.2):=by rfl)
  (g3:(assignEach [.Name z pz] X.env).map (·.2)=Ex (.Name z pz) X.env::(assignEach [] X.env).map (·.2):=by rfl)
  (fx':X.fn x=true∨X.env.scope.names.lookup x=some .local:=by first|exact .inl rfl|exact .inr rfl|assumption) (fy':X.fn y=true∨X.env.scope.names.lookup y=some .local:=by first|exact .inl rfl|exact .inr rfl|assumption) (fz':X.fn z=true∨X.env.scope.names.lookup z=some .local:=by first|exact .inl rfl|exact .inr rfl|assumption)
  (h1:(assignEach [.Tuple [.Name x px,.Name y py,.Name z pz] kt pt] X.env).map (·.2)=[Ex (.Tuple [.Name x px,.Name y py,.Name z pz] kt pt) X.env]:=by rfl)
  (he:Ak (a::[b,c]) X.env=(false,eval a X.env)::Ak [b,c] X.env:=by rfl) (he2:Ak (b::[c]) X.env=(false,eval b X.env)::Ak [c] X.env:=by rfl) (he3:Ak (c::[]) X.env=(false,eval c X.env)::Ak [] X.env:=by rfl):
  PS X (.Assign [.Tuple [.Name x px,.Name y py,.Name z pz] kt pt] (.Tuple [a,b,c] k2 pt2) pos) (UE K ml (PX i j k fx fy fz)):=
 (L5 (HQ (cK ha (cK hb (cK hcc aP he3) he2) he)) (zAK (K := K) hK hc (WS (UR hN hi hx fx') (WS (UR hN hj hy fy') (WS (UR hN hk hz fz') L4 g3) g2) g1) hn hst) hs hw h1).imp fun D σ H hq0 => by
  obtain⟨B,O,δ,o,S,q,k⟩:=hq0;obtain⟨s1,δ1,s2,δ2,s3,δ3,h1,h2,h3,hl,rfl⟩:=NJ q;refine⟨B,O,δ,s1,δ1,S,h1,fun v H1 B1 S1 w1 f1=>⟨B1,O,δ1,s2,δ2,S1,h2,fun v2 H2 B2 S2 w2 f2=>⟨B2,O,δ2,s3,δ3,S2,h3,fun v3 H3 B3 S3 w3 f3=>⟨(by show 3<=sizeLine;decide),fun p hp=>⟨p,_,rfl,W4.of c0,rfl,v,_,rfl,v2,_,rfl,v3,_,rfl,rfl,?_⟩⟩⟩⟩⟩;have f4:Fr (OA O) H3 (bP H3 p (.tup [v,v2,v3])):=(dJ hp).fr;obtain⟨O4,S4⟩:=(w3.fr f4).bind (S3.same (dJ hp)) hmk hl.2.2;obtain⟨O5,S5⟩:=((w2.fr f3).fr f4).bind S4 hmj (by rw[Cd];exact hl.2.1);obtain⟨O6,S6⟩:=(((w1.fr f2).fr f3).fr f4).bind S5 hmi (by rw[Cd,Cd];exact hl.1);rw[Dx _ _ (Dg hij),Dx _ _ (Dg hik),Dx _ _ (Dg hjk)] at S6;exact k _ _ _ S6
theorem zBE{i j:Nat}{x y:Str}{fx fy:VX}{px py pt:Pos}{kt k2 pt2}(hK:X.K=K)(hc:X.calm=true)(hN:X.N.Nodup)(hi:X.N[i]? =some x)(hj:X.N[j]? =some y)(hij:i≠j)
  (hx:GV X.env.scope x) (hy:GV X.env.scope y) (ha:PE X a (TX K ml fx)) (hb:PE X b (TX K ml fy))
  (hmi:i∉ml:=by decide) (hmj:j∉ml:=by decide)
  (hs:Fc [.Tuple [.Name x px,.Name y py] kt pt] (.Tuple [a,b] k2 pt2) pos.line X.env=pure false:=by rfl)
  (hw:Fd [.Tuple [.Name x px,.Name y py] kt pt] (.Tuple [a,b] k2 pt2) X.env=pure none:=by rfl)
  (hn:(assignEach [.Name x px,.Name y py] X.env).length=2:=by rfl) (hst:(assignEach [.Name x px,.Name y py] X.env).findIdx? (·.1)=none:=by rfl)
  (g1:(assignEach [.Name x px,.Name y py] X.env).map (·.2)=Ex (.Name x px) X.env::(assignEach [.Name y py] X.env).map (·.2):=by rfl)
  (g2:(assignEach [.Name y py] X.env).map (·.2)=Ex (.Name y py) X.env::(assignEach [] X.env).map (·.2):=by rfl)
  (fx':X.fn x=true∨X.env.scope.names.lookup x=some .local:=by first|exact .inl rfl|exact .inr rfl|assumption) (fy':X.fn y=true∨X.env.scope.names.lookup y=some .local:=by first|exact .inl rfl|exact .inr rfl|assumption)
  (h1:(assignEach [.Tuple [.Name x px,.Name y py] kt pt] X.env).map (·.2)=[Ex (.Tuple [.Name x px,.Name y py] kt pt) X.env]:=by rfl)
  (he:Ak (a::[b]) X.env=(false,eval a X.env)::Ak [b] X.env:=by rfl) (he2:Ak (b::[]) X.env=(false,eval b X.env)::Ak [] X.env:=by rfl):
  PS X (.Assign [.Tuple [.Name x px,.Name y py] kt pt] (.Tuple [a,b] k2 pt2) pos) (UE K ml (Q8 i j fx fy)):=
 (L5 (HQ (cK ha (cK hb aP he2) he)) (zAK (K := K) hK hc (WS (UR hN hi hx fx') (WS (UR hN hj hy fy') L4 g2) g1) hn hst) hs hw h1).imp fun D σ H hq0 => by
  obtain⟨B,O,δ,o,S,q,k⟩:=hq0;unfold Q8 at q;obtain⟨⟨s,δ1⟩,h1,q⟩:=Aa.mp q;cases h2:fy δ1 with
  |none=>simp[h2] at q
  |some p2=>
   obtain⟨s2,δ2⟩:=p2;simp only[At,h2] at q;split at q
   ·rename_i hl
    cases q;refine⟨B,O,δ,s,δ1,S,h1,fun v H1 B1 S1 w1 f1=>⟨B1,O,δ1,s2,δ2,S1,h2,fun v2 H2 B2 S2 w2 f2=>⟨(by show 2<=sizeLine;decide),fun p hp=>⟨p,_,rfl,W4.of c0,rfl,v,_,rfl,v2,_,rfl,rfl,?_⟩⟩⟩⟩;have f4:Fr (OA O) H2 (bP H2 p (.tup [v,v2])):=(dJ hp).fr;obtain⟨O3,S3⟩:=(w2.fr f4).bind (S2.same (dJ hp)) hmj hl.2;obtain⟨O4,S4⟩:=((w1.fr f2).fr f4).bind S3 hmi (by rw[Cd];exact hl.1);rw[Dx _ _ (Dg hij)] at S4;exact k _ _ _ S4
   ·cases q
def rIsB(neg:Bool):R2:=fun x y H Q=> ∃k,y= .bl k/\Q (.bl (if neg then !decide (x= .bl k) else decide (x= .bl k))) H
theorem zCD:XO X (Df .IsNot) (rIsB true):=by
 intro aa s σ H x y v u Q I rx ry h;obtain⟨k,rfl,q⟩:=h;cases ry;have e:(v==Nq k)=decide (x=V.bl k):=by
  cases x<;>first
   |(cases rx;first|rfl|(rename_i z;cases z<;>cases k<;>rfl))
   |(obtain⟨t,rfl⟩:=rx;rfl)
 exact wpAny_isNot_plain (by cases x<;>first|(cases rx;cases k<;>rfl)|(obtain⟨t,rfl⟩:=rx;cases k<;>rfl)) (by rw[e];exact⟨.bl _,H,I,rfl,q⟩)
noncomputable def isBl(k:Bool):dP->Bool
 | .bl x=>x==k
 |_=>false
def NC:dP->dP->Option dP
 |d,.bl k=>some (.bl (!isBl k d))
 |_,_=>none
theorem zBV{N M:Addr->Prop}{k:Bool}(h:b6 K N H M v d):decide (v=V.bl k)=isBl k d:=by
 cases h<;>simp[isBl];rename_i b;cases b<;>cases k<;>rfl
theorem zEN:SG K (rIsB true) NC:=by
  intro H N N' M M' x y d e c Q hx hy h k;cases hy<;>first
    | (cases h
       refine⟨_,rfl,?_⟩;simp only[if_true];rw[zBV hx];exact k _ fun _ _ _=> .bl _)
    |(simp[NC] at h)
end
section
variable{prog:Bq}{w:World}{A:Cy}{E:Value->Af->Prop}{s:Af}
theorem UD{it t:Addr}{i:Nat}{items:Array Value}{x:Value}{Q:Value->Af->Prop}(hit:s.heap.IsTupleIter it t i)(ht:s.heap.IsTuple t items)(hx:items[i]? =some x)
  (hQ: ∀h',h'.IsTupleIter it t (i+1)->Fb it s.heap h'->Q x {s with heap:=h'}):wpAny (model prog w) A (By (.ref it)) Q E s:=by
 obtain⟨oi,g1,c1,d1⟩:=id hit;obtain⟨ot,g2,_,nt,d2⟩:=ht;unfold By;refine Ac (Dh (name:=Aw "__next__") hit.typeIs Ey (Ec Ey hit.typeIs Jg ?_ (Iq _)));show wpAny _ _ (field (Br it) 0>>=_) _ _ s;refine Ac (Dz g1 d1 (x:= .ref t) rfl ?_);show wpAny _ _ (if(Br t== .none)=true then _ else _) _ _ s;rw[if_neg (show¬(Br t==Value.none)=true from De)];show wpAny _ _ (field (Br it) 1>>=_) _ _ s;refine Ac (Dz g1 d1 (x:= .int i 0) rfl ?_);show wpAny _ _ (seqItems? (Br t)>>=_) _ _ s;refine Ac (El g2 d2 ?_);simp only[hx,Gq];refine Ac (wpAny_setField g1 d1 (by simp) (Aj ⟨x,rfl,Aj (hQ _ ⟨_,Heap.get?_update_self _ g1 (Obj.isFreed_of_fields (Mz d1 _)),(Obj.cls_mapFields ..).trans c1,?_⟩ (Ml ..))⟩));rw[Mz d1];simp[rawInt]
theorem SV{it t:Addr}{i:Nat}{items:Array Value}{Q:Value->Af->Prop}(hh:A.handled=none)(hit:s.heap.IsTupleIter it t i)(ht:s.heap.IsTuple t items)(hx:items[i]? =none)
  (hE: ∀h' e,Jf it s.heap h'->(∃o,h'.get? e=some o/\o.cls= .type "StopIteration")->E (.ref e) {s with heap:=h'}):wpAny (model prog w) A (By (.ref it)) Q E s:=by
 obtain⟨oi,g1,c1,d1⟩:=id hit;obtain⟨ot,g2,_,nt,d2⟩:=ht;unfold By;refine Ac (Dh (name:=Aw "__next__") hit.typeIs Ey (Ec Ey hit.typeIs Jg ?_ (Iq _)));show wpAny _ _ (field (Br it) 0>>=_) _ _ s;refine Ac (Dz g1 d1 (x:= .ref t) rfl ?_);show wpAny _ _ (if(Br t== .none)=true then _ else _) _ _ s;rw[if_neg (show¬(Br t==Value.none)=true from De)];show wpAny _ _ (field (Br it) 1>>=_) _ _ s;refine Ac (Dz g1 d1 (x:= .int i 0) rfl ?_);show wpAny _ _ (seqItems? (Br t)>>=_) _ _ s;refine Ac (El g2 d2 ?_);simp only[hx,Gq];refine Ac (Gp (Ac (wpAny_setField g1 d1 (by simp) ?_)));show wpAny _ _ (newExc (Fl "StopIteration") []>>=_) _ _ _;refine Ac ?_;unfold newExc newTuple;refine Ac (Cu ?_ (by size_fits));refine Ac (m:=firstArgMember _ _) (wpAny_of_eq (a:=Value.none) (by first|rfl|(unfold firstArgMember;rfl)) (Cu ?_ (by size_fits)));unfold raiseNew;refine Ac (wpAny_handled ?_);first|rw[hh]|rw[show A.in1.handled=none from hh]
 refine Ac (Aj (wpAny_throw (hE _ _ (((Ml ..).extBut.push _).push _) ⟨_,Au _ rfl,rfl⟩)))
end
theorem DI{prog:Bq}{w:World}{A:Cy}(hh:A.handled=none)(it t:Addr)(hne:t≠it)(items:Array Value):
  Draws prog w A it [it,t] items.size (fun i v=>items[i]? =some v) (fun i h=>h.IsTupleIter it t i/\h.IsTuple t items) where
 live:=fun _ _ st=>let ⟨o,ho,_⟩:=st.1;⟨o,ho⟩
 frame:=fun _ _ _ st hk=>⟨st.1.at fun o e=>hk it (by simp) o e,by obtain⟨o,ho,r⟩:=st.2;exact⟨o,hk t (by simp) o ho,r⟩⟩
 item:=fun i s Q E hi st hQ=>UD st.1 st.2 (x:=items[i]) (by simp[hi]) fun h' a b=>hQ _ h' s.toks (by simp[hi]) ⟨a,st.2.extBut b.extBut hne⟩ b
 done:=fun s Q E st hE=>SV hh st.1 st.2 (by simp) hE
section
variable{X:Cx}{aa:List (Addr×Obj)}{σ:St}{H:Hp}{s:Af}{h':Heap}
theorem c6.turnedL{t':Nat}{fp:List Addr}(I:c6 X aa σ H s)(k: ∀b o,b∉fp->s.heap.get? b=some o->h'.get? b=some o)(there: ∀b∈fp,∃o,h'.get? b=some o)(hf: ∀b∈fp,RB X aa H b):c6 X aa σ H {s with heap:=h',toks:=t'}:=by
 have nit: ∀b u,H b=some u->b∉fp:=fun b u e z=>by rw[(hf b z).1] at e;cases e
 have hL:X.env.locals∉fp:=fun z=>(hf _ z).2.1 rfl;refine I.step (g':=s.gens) (d':=s.drawn) (ch:=fp) (fun b hb=> ?_) (fun b o _ _ hc e _=>k b o hc e) (fun b o _ _ hc e _=>⟨o.slots,k b o hc e⟩) (fun _ _ _ _ n=>n)
  (fun b o hc e=>⟨o,k b o hc e⟩) (fun _ _ e=>e) (fun _ _ _ e=>e) (fun b ps e=>⟨#[],by rw[e];simp⟩) (fun m hm=> ?_) (fun b u e=> ?_) I.bare
 ·obtain⟨_,f1,f2,f3,f4,f5⟩:=hf b hb
  exact⟨f3,f1,f4,f5⟩
 ·obtain⟨o,es,ep,ho,r⟩:=hm
  exact⟨o,es,ep,k _ o hL ho,r⟩
 ·refine (I.hok b u e).stay (fun c v hc q => k c v ?_ q) (fun _ q => q) fun _ _ q => q
  rcases hc with z|z
  ·rw[z];exact nit b u e
  ·exact nit c _ z
end
section
variable{X:Cx}{aa:List (Addr×Obj)}{σ:St}{H:Hp}{s:Af}{h':Heap}
theorem c6.turnedL'{t':Nat}{fp:List Addr}(I:c6 X aa σ H s)(k: ∀b o,b∉fp->s.heap.get? b=some o->h'.get? b=some o)(hf: ∀b∈fp,RB X aa H b):c6 X aa σ H {s with heap:=h',toks:=t'}:=by
 have nit: ∀b u,H b=some u->b∉fp:=fun b u e z=>by rw[(hf b z).1] at e;cases e
 have hL:X.env.locals∉fp:=fun z=>(hf _ z).2.1 rfl;refine I.step (g':=s.gens) (d':=s.drawn) (ch:=fp) (fun b hb=> ?_) (fun b o _ _ hc e _=>k b o hc e) (fun b o _ _ hc e _=>⟨o.slots,k b o hc e⟩) (fun _ _ _ _ n=>n)
  (fun b o hc e=>⟨o,k b o hc e⟩) (fun _ _ e=>e) (fun _ _ _ e=>e) (fun b ps e=>⟨#[],by rw[e];simp⟩) (fun m hm=> ?_) (fun b u e=> ?_) I.bare
 ·obtain⟨_,f1,f2,f3,f4,f5⟩:=hf b hb
  exact⟨f3,f1,f4,f5⟩
 ·obtain⟨o,es,ep,ho,r⟩:=hm
  exact⟨o,es,ep,k _ o hL ho,r⟩
 ·refine (I.hok b u e).stay (fun c v hc q => k c v ?_ q) (fun _ q => q) fun _ _ q => q
  rcases hc with z|z
  ·rw[z];exact nit b u e
  ·exact nit c _ z
end
def MN(K:As)(tup:Bool)(H:Hp)(a:Addr)(xs:List V):Prop:=if tup=true then W4 K H a xs else X1 K H a xs
def SH(tup:Bool)(h:Heap)(a:Addr)(items:Array Value):Prop:=if tup=true then h.IsTuple a items else h.IsList a items
def VR(tup:Bool)(h:Heap)(it a:Addr)(i:Nat):Prop:=if tup=true then h.IsTupleIter it a i else h.IsListIter it a i
theorem zB2{prog:Bq}{w:World}{A:Cy}(hh:A.handled=none)(tup:Bool)(it t:Addr)(hne:t≠it)(items:Array Value):
  Draws prog w A it [it,t] items.size (fun i v=>items[i]? =some v) (fun i h=>VR tup h it t i/\SH tup h t items):=by
 cases tup with
 |true=>exact DI hh it t hne items
 |false=>exact Draws.list hh it t hne items
theorem SH.lt{tup:Bool}{h:Heap}{a:Addr}{items:Array Value}(s:SH tup h a items):a<h.objs.size:=by
 cases tup with
 |true=>obtain⟨o,e,_⟩:=s;exact An e
 |false=>obtain⟨o,e,_⟩:=s;exact An e
theorem c6.srcA{X:Cx}{aa:List (Addr×Obj)}{σ:St}{H:Hp}{s:Af}{a:Addr}{xs:List V}{tup:Bool}(I:c6 X aa σ H s)(h:MN X.K tup H a xs): ∃its:List Value,cG xs its/\SH tup s.heap a its.toArray/\xs.length<=sizeLine:=by
 cases tup with
 |true=>
  obtain⟨its,r,p,z⟩:=I.tuple h;exact⟨its,r,p,z⟩
 |false=>
  obtain⟨its,r,p,z⟩:=I.list h;exact⟨its,r,p.isList,z⟩
theorem c6.sq_inj{X:Cx}{aa:List (Addr×Obj)}{σ:St}{H:Hp}{s:Af}{a:Addr}{xs ys:List V}{tup:Bool}(I:c6 X aa σ H s)(h:MN X.K tup H a xs)(h':MN X.K tup H a ys):xs=ys:=by
 cases tup with
 |true=>exact I.tuple_inj h h'
 |false=>exact I.list_inj h h'
theorem VR.at{tup:Bool}{h h':Heap}{it a:Addr}{i:Nat}(st:VR tup h it a i)(k: ∀o,h.get? it=some o->h'.get? it=some o):VR tup h' it a i:=by
 cases tup with
 |true=>exact Heap.IsTupleIter.at st k
 |false=>exact Heap.IsListIter.at st k
theorem VR.obj{tup:Bool}{h:Heap}{it a:Addr}{i:Nat}(st:VR tup h it a i): ∃o,h.get? it=some o/\ ∀v,o.data≠ .cell v:=by
 cases tup with
 |true=>
  obtain⟨o,e,c,d⟩:=st;exact⟨o,e,fun v z=>by rw[d] at z;cases z⟩
 |false=>
  obtain⟨o,e,c,d⟩:=st;exact⟨o,e,fun v z=>by rw[d] at z;cases z⟩
def Ite(K:As)(tup:Bool)(a:Addr):It:=
 ⟨fun i H=> ∃xs x,MN K tup H a xs/\xs[i]? =some x,fun i H v H'=> ∃p x,(∀xs,MN K tup H a xs->xs[i]? =some x)/\H p=none/\H'=bP H p (.tup [.int i,x])/\v= .ref p,fun i H=> ∃xs,MN K tup H a xs/\xs.length=i⟩
theorem EK{P:Bq}{w:World}{K:As}{es:List Expr}{k:Nat}{pos:Pos}(tup:Bool)(a e it:Addr)(hei:e≠it)(hae:a≠e)(hai:a≠it):
  IZ P w K (.Tuple es k pos) (Ite K tup a) [e,it] e (fun i h=>(∃old,IsEnum h e it i old)/\VR tup h it a i) where
 mem:=by simp
 obj:=fun i h st b hb=>by
  obtain⟨⟨old,he⟩,hi⟩:=st;rcases Al.mp hb with z|z
  ·subst z
   exact⟨_,he,fun v z=>by cases z⟩
  ·have:=Ax.mp z
   subst this;exact hi.obj
 keep:=fun i h h' st kk=>by
  obtain⟨⟨old,he⟩,hi⟩:=st;exact⟨⟨old,kk e (by simp) _ he⟩,hi.at fun o q=>kk it (by simp) o q⟩
 item:=by
  intro X hP hw hK hc i aa s σ H E I hf st hg;subst hP hw hK;obtain⟨⟨old,he⟩,hi⟩:=st;obtain⟨xs,x,hq,hx⟩:=hg;obtain⟨its,rv,src,hz⟩:=I.srcA hq;have hlt:i<its.toArray.size:=by
   have:=(Ag.mp hx).1;have:=rv.length;simp only[Av];lia
  have hh:X.A.in1.handled=none:=I.ok.hd hc;refine wpAny_pyNext_enum_itemD (zB2 hh tup it a hai its.toArray) he ⟨hi,src⟩ hlt hei (by simp[hei,Dg hae]) fun u h1 tk hu ho st1 ht hsz hk=>⟨_,rfl,?_⟩;refine wpAny_letOwnedTupleGo_enum (s:={s with heap:=h1,toks:=tk+1}) ho fun h2 he2 sb2=> ?_;have sb2:Fb e h1 h2:=sb2;obtain⟨u',hu',ru⟩:=rv.get hx;have hu:its.toArray[i]? =some u:=hu;rw[List.getElem?_toArray,hu'] at hu;have hu:=Cb hu;subst hu;have kk: ∀b o,b∉[e,it]->s.heap.get? b=some o->h2.get? b=some o:=fun b o hb q=>by
   have h1b:b≠e:=fun z=>hb (by simp[z]);have h2b:b≠it:=fun z=>hb (by simp[z]);exact(sb2.2 b h1b).trans (hk b o h1b h2b q)
  have dz:h2.get? s.heap.objs.size=some {cls:= .type "tuple",data:= .seq #[.int i tk,u']}:=(sb2.2 _ (Gg (An he))).trans ht;have az:H s.heap.objs.size=none:=I.hok.fresh (Ao _);have di: ∀b∈[e,it],b<s.heap.objs.size:=fun b hb=>by
   rcases Al.mp hb with z|z
   ·rw[z];exact An he
   ·rw[Ax.mp z]
    obtain⟨o,q,_⟩:=hi.obj;exact An q
  have I0:c6 X aa σ (bP H s.heap.objs.size (.tup [.int i,x])) {s with heap:=s.heap.push {cls:= .type "tuple",data:= .seq #[.int i tk,u']},toks:=tk}:=
   I.laid (fun b o q=>Ad _ q) (Ao _) ⟨by show 2<=sizeLine;decide,[.int i tk,u'],.cons ⟨tk,rfl⟩ (.cons ru .nil),Jy _ _⟩
  have I1:c6 X aa σ (bP H s.heap.objs.size (.tup [.int i,x])) {s with heap:=h2,toks:=tk+1}:=by
   refine c6.turnedL (s:={s with heap:=s.heap.push {cls:= .type "tuple",data:= .seq #[.int i tk,u']},toks:=tk}) (h':=h2) (t':=tk+1) (fp:=[e,it]) I0 (fun b o hb q=> ?_) (fun b hb=> ?_) fun b hb=>⟨by rw[cE (Be (di b hb))];exact(hf b hb).1,(hf b hb).2⟩
   ·by_cases hbn:b=s.heap.objs.size
    ·subst hbn
     have q:(s.heap.push {cls:= .type "tuple",data:= .seq #[.int i tk,u']}).get? s.heap.objs.size=some o:=q;rw[Au _ rfl] at q;cases q;exact dz
    ·exact kk b o hb ((Hz _ _ _ hbn).symm.trans q)
   ·rcases Al.mp hb with z|z
    ·rw[z];exact⟨_,he2⟩
    ·rw[Ax.mp z]
     obtain⟨o,q,_⟩:=st1.1.obj;exact⟨o,(sb2.2 it (Dg hei)).trans q⟩
  refine⟨.ref s.heap.objs.size,bP H s.heap.objs.size (.tup [.int i,x]),?_,rfl,⟨_,x,fun ys hy=>by rw[I.sq_inj hy hq];exact hx,az,rfl,rfl⟩,⟨⟨_,by simpa using he2⟩,st1.1.at fun o q=>(sb2.2 it (Dg hei)).trans q⟩,fun b hb=> ?_⟩
  ·exact I1
  ·rw[cE (Be (di b hb))]
   exact(hf b hb).1
 done:=by
  intro X hP hw hK hc i aa s σ H E I hf st hg;subst hP hw hK;obtain⟨⟨old,he⟩,hi⟩:=st;obtain⟨xs,hq,hx⟩:=hg;obtain⟨its,rv,src,hz⟩:=I.srcA hq;have hh:X.A.in1.handled=none:=I.ok.hd hc;have hn:its.toArray.size=i:=by rw[Av,<- rv.length];exact hx
  refine wpAny_pyNext_enum_endD (zB2 hh tup it a hai its.toArray) he ⟨by rw[hn];exact hi,src⟩ fun h1 xb=>⟨rfl,?_⟩;obtain⟨f0,f1,f2,f3,f4,f5⟩:=hf it (by simp);exact I.turned (t':=s.toks) (fun b o hb q=>xb b o hb q) f0 f1 f3 f4 f5
 self:=fun _ i _ _ _ st h=>Ny st.1.choose_spec h
theorem DJ(a:Addr)(items:Array Value)(n:Nat)(dd:Option Addr)(sl:Array (Option Value)):
  Meets (Lu.«enumerate.__new__» ⟨[.type "enumerate",.ref a],[]⟩) (fun _ R s=>s.heap.get? a=some {cls:= .type "tuple",dict:=dd,data:= .seq items n,slots:=sl}∧
   R (.ok (.ret (.ref (s.heap.push {cls:= .type "tuple_iterator",data:= .fields #[.ref a,.int 0 0]}).objs.size)))
    {s with heap:=(s.heap.push {cls:= .type "tuple_iterator",data:= .fields #[.ref a,.int 0 0]}).push {cls:= .type "enumerate",data:= .fields #[.none,.bool false,.ref s.heap.objs.size,rawInt 0,.none,.none]}}):=by
 refine .of_wp fun prog w A R s h=> ?_;obtain⟨hp,g,d,tk,os⟩:=s;obtain⟨ha,h⟩:=h;have hs:=sub_enumerate;have hT:Heap.IsTuple (Pt ⟨hp,g,d,tk,os⟩) a items:=⟨_,ha,rfl,n,rfl⟩;wp_walk using Hd ha
 refine wpAny_stack_any fun st=>Aj ?_;split
 ·rename_i c _ _ _ _ _
  cases (c==Fl "enumerate")<;>(wp_walk using Hd ha,He hT;exact⟨_,rfl,h⟩)
 ·wp_walk using Hd ha,He hT
  exact⟨_,rfl,h⟩
theorem G3{prog:Bq}{w:World}{A:Cy}{E:Value->Af->Prop}{s:Af}{a:Addr}{items:Array Value}{tup:Bool}{Q:Value->Af->Prop}(hs:SH tup s.heap a items)
  (h: ∀h',IsEnum h' (s.heap.objs.size+1) s.heap.objs.size 0 .none->VR tup h' s.heap.objs.size a 0->(∀b o,s.heap.get? b=some o->h'.get? b=some o)->Q (.ref (s.heap.objs.size+1)) {s with heap:=h'}):
  wpAny (model prog w) A (call (.type "enumerate") [.ref a]) Q E s:=by
 cases tup with
 |false=>exact call_enumerate_list hs fun h' a1 a2 _ a4=>h h' a1 a2 a4
 |true=>
  obtain⟨⟨cc,dd,dt,sl⟩,g1,hc,n,hd⟩:=hs;replace hc:cc= .type "tuple":=hc
  replace hd:dt= .seq items n:=hd
  subst hc hd;have hz:(s.heap.push {cls:= .type "tuple_iterator",data:= .fields #[.ref a,.int 0 0]}).objs.size=s.heap.objs.size+1:=Co ..;refine callType_new F.called_enumerate (by decide) (F.typeCall_enumerate_1 _) (F.newCall_enumerate_1 _) (fun obj=>F.args_object_init_2 obj _) F.entry_enumerate_new (DJ a items n dd sl) ⟨g1,?_⟩;show _/\_;rw[hz];have he:=Au (s.heap.push {cls:= .type "tuple_iterator",data:= .fields #[.ref a,.int 0 0]}) (o:={cls:= .type "enumerate",data:= .fields #[.none,.bool false,.ref s.heap.objs.size,rawInt 0,.none,.none]}) rfl;rw[hz] at he;exact⟨⟨_,he,rfl⟩,h _ he ⟨_,Ad _ (Au _ rfl),rfl,rfl⟩ fun b o x=>Ad _ (Ad _ x)⟩
theorem LJ:Bj "enumerate"=some (.type "enumerate"):=by decide+kernel
theorem zGZ:Bj "zip"=some (.type "zip"):=by decide+kernel
section
variable{X:Cx}{K:As}{ml:List Nat}{l:Expr}{pu:Bool}{f:VF}{p pos dg:Pos}{es:List Expr}{tk:Nat}{δ:Ev}
def iEnu(K:As)(tl:TE):TI:=fun σ H R=>tl σ H fun x H1=> ∃a tup,x= .ref a/\(∃xs,MN K tup H1 a xs)/\R (Ite K tup a) H1
theorem zC6{tl:TE}(hg:Gl X "enumerate") (hm:X.mg "enumerate"=none) (hl:PE X l tl) (he:Ak (l::[]) X.env=(false,eval l X.env)::Ak [] X.env:=by rfl):
  PI X (.Tuple es tk dg) (.Call (.Name "enumerate" p) [l] [] pos) (iEnu X.K tl):=by
 intro aa s σ H R I h;refine Ge (T1 I hg hm LJ ?_ (by decide) (by decide));refine Dy (ZT (cK hl aP he pos aa s σ H (fun vs H1=>match vs with
  |[x]=> ∃a tup,x= .ref a/\(∃xs,MN X.K tup H1 a xs)/\R (Ite X.K tup a) H1
  |_=>False) I h) fun us s1 ⟨vs,H1,I1,r1,q1⟩=> ?_) he (by rfl)
 match vs,r1,q1 with
 |[x],r1,q1=>
  obtain⟨a,tup,rfl,⟨xs,hq⟩,hR⟩:=q1;obtain⟨u,rfl,ru⟩:=WV r1;cases ru;obtain⟨its,rv,src,_⟩:=I1.srcA hq;refine G3 src fun h' he' hi' kp=> ?_;have I2:c6 X aa σ H1 {s1 with heap:=h'}:=I1.kept (t':=s1.toks) kp;have hn: ∀b,s1.heap.objs.size<=b->H1 b=none:=fun b hb=>I1.hok.fresh hb;refine Ny he' ⟨s1.heap.objs.size+1,[s1.heap.objs.size+1,s1.heap.objs.size],_,Ite X.K tup a,H1,rfl,I2,EK tup a (s1.heap.objs.size+1) s1.heap.objs.size (Nat.succ_ne_self _) (fun z=> ?_) (fun z=> ?_),⟨⟨_,he'⟩,hi'⟩,fun b hb=> ?_,hR⟩
  ·have:=src.lt
   rw[z] at this;exact absurd this (Nat.not_lt_of_le (Gy _))
  ·have:=src.lt
   rw[z] at this;exact absurd this (Bz _)
  ·have hb':s1.heap.objs.size<=b:=by
    rcases Al.mp hb with z|z
    ·rw[z];exact Gy _
    ·rw[Ax.mp z];exact Ao _
   exact I1.fpOk hb' (hn b hb')
theorem zGI(h:X.K=K){tl:TE}(hg:Gl X "enumerate") (hm:X.mg "enumerate"=none) (hl:PE X l tl) (he:Ak (l::[]) X.env=(false,eval l X.env)::Ak [] X.env:=by rfl):
  PI X (.Tuple es tk dg) (.Call (.Name "enumerate" p) [l] [] pos) (iEnu K tl):=by subst h;exact zC6 hg hm hl he
noncomputable def YX:Nat->List dP->List dP
 |_,[]=>[]
 |i,d::ds=> .tup [.int i,d]::YX (i+1) ds
noncomputable def OR(f:VF):VI:=fun δ=>(f δ).bind fun p=>(YS p.1).map fun ds=>(YX 0 ds,p.2)
theorem OH: ∀{ds:List dP} {n i:Nat} {d:dP},(YX n ds)[i]? =some d-> ∃x,ds[i]? =some x/\d= .tup [.int (n+i:Nat),x]
 |[],_,_,_,h=>by simp[YX] at h
 |x::ds,n,0,d,h=>by simp[YX] at h;exact⟨x,rfl,h.symm⟩
 |x::ds,n,i+1,d,h=>by
  have h:(YX (n+1) ds)[i]? =some d:=by simpa[YX] using h
  obtain⟨y,h1,h2⟩:=OH h;exact⟨y,by simpa using h1,by rw[h2,show n+1+i=n+(i+1) by lia]⟩
theorem OI: ∀(ds:List dP) (n:Nat),(YX n ds).length=ds.length
 |[],_=>rfl
 |_::ds,n=>congrArg (· +1) (OI ds (n+1))
theorem NV{a:Addr}{tup:Bool}{ds:List dP}:Walk K (Ite K tup a) [(.ref a,if tup=true then .tup ds else .lst ds)] (YX 0 ds):=by
 intro N H h;have r:=h _ (Ax.mpr rfl);have fin: ∀xs,MN K tup H a xs->cY K N H xs ds->(∀(i:Nat) (d:dP),(YX 0 ds)[i]? =some d->(Ite K tup a).go i H/\ ∀x H',(Ite K tup a).yld i H x H'->bR H H'/\b6 K N H' N x d)/\(Ite K tup a).stop (YX 0 ds).length H:=fun xs sq r=>by
  refine⟨fun i d e=> ?_,xs,sq,by rw[r.length,OI]⟩;obtain⟨z,e1,rfl⟩:=OH e;obtain⟨x,e2,r1⟩:=r.get e1;refine⟨⟨xs,x,sq,e2⟩,fun y H' hy=> ?_⟩;obtain⟨p,x',e3,hp,rfl,rfl⟩:=hy;have:=e3 xs sq;rw[e2] at this;cases this;refine⟨dJ hp,.tup (W4.of c0) (.cons ?_ (.cons (r1.same (dJ hp)) .nil))⟩;rw[Hc];exact .int _
 cases tup with
 |true=>
  have r:b6 K N H N (.ref a) (.tup ds):=r;cases r with
  |tup sq r=>exact fin _ sq r
 |false=>
  have r:b6 K N H N (.ref a) (.lst ds):=r;cases r with
  |lst q n r=>exact fin _ (X1.of q) r
  |fzl q r=>exact fin _ q.sq r
theorem MG(hK:X.K=K)(hg:Gl X "enumerate") (hm:X.mg "enumerate"=none) (h:PE X l (TV K ml pu true true f)) (he:Ak (l::[]) X.env=(false,eval l X.env)::Ak [] X.env:=by rfl):
  PI X (.Tuple es tk dg) (.Call (.Name "enumerate" p) [l] [] pos) (GX K ml pu (OR f)):=(zGI (K:=K) hK hg hm h he).imp fun σ H R hq0=>by
 obtain⟨B,O,δ,ds,δ',S,q,k⟩:=hq0;unfold OR at q;obtain⟨⟨x,δ1⟩,h1,q⟩:=Aa.mp q;refine⟨B,O,δ,x,δ1,S,h1,fun v H1 R1=> ?_⟩;cases x with
 |lst ds'=>
  cases q;obtain⟨a,xs,rfl,sq,r⟩:=R1.rep.lstE;exact⟨a,false,rfl,⟨xs,sq⟩,k _ [(.ref a,.lst ds')] H1 (R1.sta.keepV fun p hp=>by rw[Ax.mp hp];exact R1.rep) R1.frm R1.pur (NV (tup:=false))⟩
 |tup ds'=>
  cases q;obtain⟨a,xs,rfl,sq,r⟩:=R1.rep.tupE;exact⟨a,true,rfl,⟨xs,sq⟩,k _ [(.ref a,.tup ds')] H1 (R1.sta.keepV fun p hp=>by rw[Ax.mp hp];exact R1.rep) R1.frm R1.pur (NV (tup:=true))⟩
 |_=>cases q
end
section
variable{prog:Bq}{w:World}{A:Cy}{E:Value->Af->Prop}{s:Af}
theorem VR.ext{tup:Bool}{h h':Heap}{it a b:Addr}{i:Nat}(x:VR tup h it a i)(hs:Jf b h h')(hne:it≠b):VR tup h' it a i:=x.at fun o e=>hs _ _ hne e
theorem SH.ext{tup:Bool}{h h':Heap}{a b:Addr}{xs:Array Value}(x:SH tup h a xs)(hs:Jf b h h')(hne:a≠b):SH tup h' a xs:=by
 cases tup with
 |true=>obtain⟨o,e,r⟩:=x;exact⟨o,hs _ _ hne e,r⟩
 |false=>obtain⟨o,e,r⟩:=x;exact⟨o,hs _ _ hne e,r⟩
theorem T3{tup:Bool}{it a:Addr}{i:Nat}{xs:Array Value}{x:Value}{Q:Value->Af->Prop}(hi:VR tup s.heap it a i)(hs:SH tup s.heap a xs)(hx:xs[i]? =some x)
  (hQ: ∀h',VR tup h' it a (i+1)->Fb it s.heap h'->Q x {s with heap:=h'}):wpAny (model prog w) A (By (.ref it)) Q E s:=by
 cases tup with
 |true=>exact UD hi hs hx hQ
 |false=>exact wpAny_nextOf_list_item hi hs hx hQ
theorem M8{tup:Bool}{it a:Addr}{i:Nat}{xs:Array Value}{Q:Value->Af->Prop}(hh:A.handled=none)(hi:VR tup s.heap it a i)(hs:SH tup s.heap a xs)(hx:xs[i]? =none)
  (hE: ∀h' e,Jf it s.heap h'->(∃o,h'.get? e=some o/\o.cls= .type "StopIteration")->E (.ref e) {s with heap:=h'}):wpAny (model prog w) A (By (.ref it)) Q E s:=by
 cases tup with
 |true=>exact SV hh hi hs hx hE
 |false=>exact wpAny_nextOf_list_end hh hi hs hx hE
structure ZSt(t1 t2:Bool)(h:Heap)(z p q i1 i2 a b:Addr)(k:Nat)(f0:Value):Prop where
 zip:IsZip h z p q f0
 its:IsPair h p (.ref i1) (.ref i2)
 res: ∃u v,IsPair h q u v
 one:VR t1 h i1 a k
 two:VR t2 h i2 b k
theorem ET{t1 t2:Bool}{z p q i1 i2 a b:Addr}{k:Nat}{xs ys:Array Value}{x y:Value}{Q:Value->Af->Prop}(D:Ly z p q i1 i2 a b)(S:ZSt t1 t2 s.heap z p q i1 i2 a b k .none)
  (s1:SH t1 s.heap a xs) (s2:SH t2 s.heap b ys) (hx:xs[k]? =some x) (hy:ys[k]? =some y)
  (hQ: ∀h',ZSt t1 t2 h' z p q i1 i2 a b (k+1) (rawInt s.heap.objs.size)->IsPair h' s.heap.objs.size x y->h'.objs.size=s.heap.objs.size+1→
   (∀c o,c≠z->c≠q->c≠i1->c≠i2->s.heap.get? c=some o->h'.get? c=some o)->Q (.ref s.heap.objs.size) {s with heap:=h'}):
  wpAny (model prog w) A (Lu.«zip.__next__» ⟨[.ref z],[]⟩) (fun fin s'=> ∃v,fin= .done (.ret v)/\Q v s') E s:=by
 obtain⟨gz,gi,⟨u,v,gr⟩,g1,g2⟩:=S;show wpAny _ _ (field (Br z) 2>>=_) _ _ _;refine Ac (Dz gz rfl (x:= .bool false) rfl ?_);show wpAny _ _ (field (Br z) 3>>=_) _ _ _;refine Ac (Dz gz rfl (x:= .ref p) rfl (Ac (El gi rfl ?_)));show wpAny _ _ (Dq (Br z)>>=_) _ _ _;refine Ac ?_
 (unfold Dq)
 refine Ac (Dz gz rfl (x:= .none) rfl (Aj ?_));simp only[if_true];refine Ac (Gp (Ac (Dz gz rfl (x:= .ref q) rfl (Ac (Ff gz (by simp) fun ha za ba=>Ac ?_)))));have za:IsZip ha z p q .ellipsis:=za;simp only[Pw,Oy,Mf,Jd];refine Ac (Ac (Ks ?_));show wpAny _ _ (By (Br i1)>>=_) _ _ _;refine Ac (T3 (g1.ext ba.extBut D.i1z) (s1.ext ba.extBut D.l1z) hx fun hb n1 bb=>Aj ?_);have rb:IsPair hb q u v:=bb.extBut _ _ D.TOi1 (ba.extBut _ _ D.TOz gr);refine Ac (El rb rfl (Ac (Im rb fun hc rc bc=>Ac (Px (Aj ?_)))));have rc:IsPair hc q x v:=rc;refine Ac (Ac (Ks ?_));show wpAny _ _ (By (Br i2)>>=_) _ _ _;refine Ac (T3 (((g2.ext ba.extBut D.i2z).ext bb.extBut D.i12.symm).ext bc.extBut D.TOi2.symm) (((s2.ext ba.extBut D.l2z).ext bb.extBut D.l2i1).ext bc.extBut D.l2TO) hy fun hd n2 bd=>Aj ?_);have rd:IsPair hd q x v:=bd.extBut _ _ D.TOi2 rc;refine Ac (El rd rfl (Ac (Im rd fun he re be=>Ac (Px (Aj (Aj ?_))))));have re:IsPair he q x y:=re;refine Ac (El re rfl (Ac (wpAny_newTuple ?_)));have size:he.objs.size=s.heap.objs.size:=by rw[be.1,bd.1,bc.1,bb.1,ba.1]
 have ze:IsZip he z p q .ellipsis:=be.extBut _ _ D.TOz.symm (bd.extBut _ _ D.i2z.symm (bc.extBut _ _ D.TOz.symm (bb.extBut _ _ D.i1z.symm za)));have ke: ∀c o,c≠z->c≠q->c≠i1->c≠i2->s.heap.get? c=some o->he.get? c=some o:=fun c o c1 c2 c3 c4 g=>be.extBut _ _ c2 (bd.extBut _ _ c4 (bc.extBut _ _ c2 (bb.extBut _ _ c3 (ba.extBut _ _ c1 g))));have e1:VR t1 he i1 a (k+1):=((n1.ext bc.extBut D.TOi1.symm).ext bd.extBut D.i12).ext be.extBut D.TOi1.symm;have e2:VR t2 he i2 b (k+1):=n2.ext be.extBut D.TOi2.symm;have ie:IsPair he p (.ref i1) (.ref i2):=ke _ _ D.TIz D.TITO D.TIi1 D.TIi2 gi;have zlt:z<he.objs.size:=An ze;show wpAny _ _ (Gw (Br z) (.ref he.objs.size)>>=_) _ _ _;refine Ac ?_
 (unfold Gw)
 have zf:IsZip (he.push {cls:= .type "tuple",data:= .seq #[x,y]}) z p q .ellipsis:=Ad _ ze;refine Ac (Ff zf (by simp) fun hg zg bg=> ?_);have zg:IsZip hg z p q (rawInt he.objs.size):=zg;refine Ff zg (by simp) fun hk zk bk=> ?_;have zk:IsZip hk z p q (rawInt he.objs.size):=zk;have up: ∀c o,c≠z->he.get? c=some o->hk.get? c=some o:=fun c o c1 g=>bk.extBut _ _ c1 (bg.extBut _ _ c1 (Ad _ g));have tk:IsPair hk he.objs.size x y:=bk.extBut _ _ (Gg zlt) (bg.extBut _ _ (Gg zlt) (Au _ rfl));have szk:hk.objs.size=he.objs.size+1:=by rw[bk.1,bg.1,Co]
 rw[size] at zk tk szk;refine Aj ⟨_,rfl,?_⟩;show Q (.ref he.objs.size) _;rw[size];exact hQ hk ⟨zk,up _ _ D.TIz ie,⟨x,y,up _ _ D.TOz re⟩,e1.at fun o g=>up _ o D.i1z g,e2.at fun o g=>up _ o D.i2z g⟩ tk szk fun c o c1 c2 c3 c4 g=>up c o c1 (ke c o c1 c2 c3 c4 g)
theorem CM{t1 t2:Bool}{z p q i1 i2 a b:Addr}{k:Nat}{xs ys:Array Value}{Q:Fin->Af->Prop}(hh:A.handled=none)(D:Ly z p q i1 i2 a b)(S:ZSt t1 t2 s.heap z p q i1 i2 a b k .none)
  (s1:SH t1 s.heap a xs) (s2:SH t2 s.heap b ys) (gb:xs[k]? =none∨ys[k]? =none)
  (hE: ∀h' e,(∀c o,c≠z->c≠q->c≠i1->c≠i2->s.heap.get? c=some o->h'.get? c=some o)->(∃o,h'.get? e=some o/\o.cls= .type "StopIteration")->E (.ref e) {s with heap:=h'}):
  wpAny (model prog w) A (Lu.«zip.__next__» ⟨[.ref z],[]⟩) Q E s:=by
 obtain⟨gz,gi,⟨u,v,gr⟩,g1,g2⟩:=S;show wpAny _ _ (field (Br z) 2>>=_) _ _ _;refine Ac (Dz gz rfl (x:= .bool false) rfl ?_);show wpAny _ _ (field (Br z) 3>>=_) _ _ _;refine Ac (Dz gz rfl (x:= .ref p) rfl (Ac (El gi rfl ?_)));show wpAny _ _ (Dq (Br z)>>=_) _ _ _;refine Ac ?_
 (unfold Dq)
 refine Ac (Dz gz rfl (x:= .none) rfl (Aj ?_));simp only[if_true];refine Ac (Gp (Ac (Dz gz rfl (x:= .ref q) rfl (Ac (Ff gz (by simp) fun ha za ba=>Ac ?_)))));have za:IsZip ha z p q .ellipsis:=za;simp only[Pw,Oy,Mf,Jd];refine Ac (Ac (Ks ?_));show wpAny _ _ (By (Br i1)>>=_) _ _ _;cases hx:xs[k]? with
 |none=>
  refine Ac (M8 hh (g1.ext ba.extBut D.i1z) (s1.ext ba.extBut D.l1z) hx fun hb e bb ⟨oe,ge,ce⟩=> ?_);have zb:IsZip hb z p q .ellipsis:=bb _ _ D.i1z.symm za;have ne:e≠z:=fun w=>by subst w;rw[zb] at ge;cases ge;simp at ce
  exact Ff zb (by simp) fun hc _ bc=>hE hc e (fun c o c1 _ c3 _ g=>bc.extBut _ _ c1 (bb _ _ c3 (ba.extBut _ _ c1 g))) ⟨oe,bc.extBut _ _ ne ge,ce⟩
 |some x=>
  have hy:ys[k]? =none:=gb.resolve_left fun w=>by rw[hx] at w;cases w
  refine Ac (T3 (g1.ext ba.extBut D.i1z) (s1.ext ba.extBut D.l1z) hx fun hb n1 bb=>Aj ?_);have rb:IsPair hb q u v:=bb.extBut _ _ D.TOi1 (ba.extBut _ _ D.TOz gr);refine Ac (El rb rfl (Ac (Im rb fun hc rc bc=>Ac (Px (Aj (Ac (Ac (Ks ?_))))))));show wpAny _ _ (By (Br i2)>>=_) _ _ _;refine Ac (M8 hh (((g2.ext ba.extBut D.i2z).ext bb.extBut D.i12.symm).ext bc.extBut D.TOi2.symm) (((s2.ext ba.extBut D.l2z).ext bb.extBut D.l2i1).ext bc.extBut D.l2TO) hy fun hd e bd ⟨oe,ge,ce⟩=> ?_);have zd:IsZip hd z p q .ellipsis:=bd _ _ D.i2z.symm (bc.extBut _ _ D.TOz.symm (bb.extBut _ _ D.i1z.symm za));have ne:e≠z:=fun w=>by subst w;rw[zd] at ge;cases ge;simp at ce
  exact Ff zd (by simp) fun hf _ bf=>hE hf e (fun c o c1 c2 c3 c4 g=>bf.extBut _ _ c1 (bd _ _ c4 (bc.extBut _ _ c2 (bb.extBut _ _ c3 (ba.extBut _ _ c1 g))))) ⟨oe,bf.extBut _ _ ne ge,ce⟩
theorem HJ{t1 t2:Bool}{z p q i1 i2 a b:Addr}{k:Nat}{xs ys:Array Value}{x y:Value}{Q:Option Value->Af->Prop}(D:Ly z p q i1 i2 a b)(S:ZSt t1 t2 s.heap z p q i1 i2 a b k .none)
  (s1:SH t1 s.heap a xs) (s2:SH t2 s.heap b ys) (hx:xs[k]? =some x) (hy:ys[k]? =some y)
  (hQ: ∀h',ZSt t1 t2 h' z p q i1 i2 a b (k+1) (rawInt s.heap.objs.size)->IsPair h' s.heap.objs.size x y->h'.objs.size=s.heap.objs.size+1→
   (∀c o,c≠z->c≠q->c≠i1->c≠i2->s.heap.get? c=some o->h'.get? c=some o)->Q (some (.ref s.heap.objs.size)) {s with heap:=h'}):wpAny (model prog w) A (pyNext (.ref z)) Q E s:=by
 have ty:s.TypeIs (.ref z) "zip":=⟨_,S.zip,rfl⟩
 (unfold pyNext)
 exact Ac (Na (Dh (name:=Aw "__next__") ty Jh (Ec Jh ty Oz (ET D S s1 s2 hx hy fun h' a1 a2 a3 a4=>Aj (hQ h' a1 a2 a3 a4)) (Nz _))))
theorem D3{t1 t2:Bool}{z p q i1 i2 a b:Addr}{k:Nat}{xs ys:Array Value}{Q:Option Value->Af->Prop}(hh:A.handled=none)(D:Ly z p q i1 i2 a b)(S:ZSt t1 t2 s.heap z p q i1 i2 a b k .none)
  (s1:SH t1 s.heap a xs) (s2:SH t2 s.heap b ys) (gb:xs[k]? =none∨ys[k]? =none)
  (hQ: ∀h',(∀c o,c≠z->c≠q->c≠i1->c≠i2->s.heap.get? c=some o->h'.get? c=some o)->Q none {s with heap:=h'}):wpAny (model prog w) A (pyNext (.ref z)) Q E s:=by
 have ty:s.TypeIs (.ref z) "zip":=⟨_,S.zip,rfl⟩
 (unfold pyNext)
 refine Ac (Na (Dh (name:=Aw "__next__") ty Jh (Ec Jh ty Oz (CM hh D S s1 s2 gb fun h' e kk ⟨o,ge,ce⟩=> ?_) (Nz _))));exact Ac (wpAny_isInstance (T:= "StopIteration") (b:=true) ⟨o,ge,ce⟩ isSubtype_stop (Aj (hQ _ kk)))
end
def zJ8(tup:Bool):String:=if tup=true then "tuple_iterator" else "list_iterator"
noncomputable abbrev zO(tup:Bool)(a:Addr):Obj:={cls:= .type (zJ8 tup),data:= .fields #[.ref a,.int 0 0]}
theorem zDQ{prog:Bq}{w:World}{A:Cy}{E:Value->Af->Prop}{s:Af}{tup:Bool}{a:Addr}{xs:Array Value}{Q:Value->Af->Prop}(h:SH tup s.heap a xs)(hQ:Q (.ref s.heap.objs.size) {s with heap:=s.heap.push (zO tup a)}):
  wpAny (model prog w) A (Og (.ref a)) Q E s:=by
 cases tup with
 |true=>exact He h hQ
 |false=>exact Em h hQ
theorem SH.push{tup:Bool}{h:Heap}{a:Addr}{xs:Array Value}(x:SH tup h a xs)(o:Obj):SH tup (h.push o) a xs:=by
 cases tup with
 |true=>obtain⟨o,e,r⟩:=x;exact⟨o,Ad _ e,r⟩
 |false=>obtain⟨o,e,r⟩:=x;exact⟨o,Ad _ e,r⟩
theorem CN(t1 t2:Bool)(a b:Addr)(xs ys:Array Value):
  Meets (Lu.«zip.__new__» ⟨[.type "zip",.ref a,.ref b],[]⟩) (fun _ R s=>SH t1 s.heap a xs/\SH t2 s.heap b ys/\ ∀h1 h2 h3 h4 h5,h1=s.heap.push (zO t1 a)->h2=h1.push (zO t2 b)->h3=h2.push {cls:= .type "tuple",data:= .seq #[.ref s.heap.objs.size,.ref h1.objs.size]}→
   h4=h3.push {cls:= .type "tuple",data:= .seq #[.none,.none]}->h5=h4.push {cls:= .type "zip",data:= .fields #[.none,.bool false,.bool false,.ref h2.objs.size,.ref h3.objs.size]}->R (.ok (.ret (.ref h4.objs.size))) {s with heap:=h5}):=by
 refine .of_wp fun prog w A R s h=> ?_;obtain⟨hp,g,d,tk,os⟩:=s;obtain⟨g1,g2,h⟩:=h;have hs:=sub_zip;have k1:SH t1 (Pt ⟨hp,g,d,tk,os⟩) a xs:=g1;have k2:SH t2 (Pt ⟨hp.push (zO t1 a),g,d,tk,os⟩) b ys:=SH.push g2 _;wp_walk using zDQ k1,zDQ k2
 exact⟨_,rfl,h _ _ _ _ _ rfl rfl rfl rfl rfl⟩
theorem DE{prog:Bq}{w:World}{A:Cy}{E:Value->Af->Prop}{s:Af}{t1 t2:Bool}{a b:Addr}{xs ys:Array Value}{Q:Value->Af->Prop}(g1:SH t1 s.heap a xs)(g2:SH t2 s.heap b ys)
  (h: ∀h',ZSt t1 t2 h' (s.heap.objs.size+4) (s.heap.objs.size+2) (s.heap.objs.size+3) s.heap.objs.size (s.heap.objs.size+1) a b 0 .none->(∀c o,s.heap.get? c=some o->h'.get? c=some o)->Q (.ref (s.heap.objs.size+4)) {s with heap:=h'}):
  wpAny (model prog w) A (call (.type "zip") [.ref a,.ref b]) Q E s:=by
 refine callType_new F.called_zip (by decide) (F.typeCall_zip_2 _ _) (F.newCall_zip_2 _ _) (fun obj=>F.args_object_init_3 obj _ _) F.entry_zip_new (CN t1 t2 a b xs ys) ⟨g1,g2,?_⟩;rintro h1 h2 h3 h4 h5 e1 e2 e3 e4 e5;have z1:h1.objs.size=s.heap.objs.size+1:=by rw[e1,Co]
 have z2:h2.objs.size=s.heap.objs.size+2:=by rw[e2,Co,z1]
 have z3:h3.objs.size=s.heap.objs.size+3:=by rw[e3,Co,z2]
 have z4:h4.objs.size=s.heap.objs.size+4:=by rw[e4,Co,z3]
 have u4: ∀c o,h4.get? c=some o->h5.get? c=some o:=fun c o q=>by rw[e5];exact Ad _ q
 have u3: ∀c o,h3.get? c=some o->h5.get? c=some o:=fun c o q=>u4 c o (by rw[e4];exact Ad _ q);have u2: ∀c o,h2.get? c=some o->h5.get? c=some o:=fun c o q=>u3 c o (by rw[e3];exact Ad _ q);have u1: ∀c o,h1.get? c=some o->h5.get? c=some o:=fun c o q=>u2 c o (by rw[e2];exact Ad _ q);have u0: ∀c o,s.heap.get? c=some o->h5.get? c=some o:=fun c o q=>u1 c o (by rw[e1];exact Ad _ q);have o5:h5.get? h4.objs.size=some {cls:= .type "zip",data:= .fields #[.none,.bool false,.bool false,.ref h2.objs.size,.ref h3.objs.size]}:=by rw[e5];exact Au _ rfl
 have o4:h5.get? h3.objs.size=some {cls:= .type "tuple",data:= .seq #[.none,.none]}:=u4 _ _ (by rw[e4];exact Au _ rfl);have o3:h5.get? h2.objs.size=some {cls:= .type "tuple",data:= .seq #[.ref s.heap.objs.size,.ref h1.objs.size]}:=u3 _ _ (by rw[e3];exact Au _ rfl);have o2:h5.get? h1.objs.size=some (zO t2 b):=u2 _ _ (by rw[e2];exact Au _ rfl);have o1:h5.get? s.heap.objs.size=some (zO t1 a):=u1 _ _ (by rw[e1];exact Au _ rfl);show _/\_;rw[z2,z3,z4] at o5;rw[z3] at o4;rw[z1,z2] at o3;rw[z1] at o2;rw[z4];refine⟨⟨_,o5,rfl⟩,h _ ⟨o5,o3,⟨_,_,o4⟩,?_,?_⟩ u0⟩
 ·cases t1 with
  |true=>exact⟨_,o1,rfl,rfl⟩
  |false=>exact⟨_,o1,rfl,rfl⟩
 ·cases t2 with
  |true=>exact⟨_,o2,rfl,rfl⟩
  |false=>exact⟨_,o2,rfl,rfl⟩
theorem zDY(n a b:Nat)(ha:a<n)(hb:b<n):Ly (n+4) (n+2) (n+3) n (n+1) a b:=by
 have f: ∀x y:Nat,x<y∨y<x->x≠y:=fun x y h=>by lia
 exact⟨f _ _ (by lia),f _ _ (by lia),f _ _ (by lia),f _ _ (by lia),f _ _ (by lia),f _ _ (by lia),f _ _ (by lia),f _ _ (by lia),f _ _ (by lia),f _ _ (by lia),f _ _ (by lia),f _ _ (by lia),f _ _ (by lia),f _ _ (by lia),f _ _ (by lia),f _ _ (by lia),f _ _ (by lia),f _ _ (by lia)⟩
def Itz(K:As)(t1 t2:Bool)(a b:Addr):It:=
  ⟨fun i H => ∃ xs ys x y,MN K t1 H a xs /\ MN K t2 H b ys /\ xs[i]? = some x /\ ys[i]? = some y,
   fun i H v H'=> ∃p x y,(∀xs,MN K t1 H a xs->xs[i]? =some x)/\(∀ys,MN K t2 H b ys->ys[i]? =some y)/\H p=none/\H'=bP H p (.tup [x,y])/\v= .ref p,
   fun i H=> ∃xs ys,MN K t1 H a xs/\MN K t2 H b ys/\(xs.length<=i∨ys.length<=i)⟩
theorem BZ{P:Bq}{w:World}{K:As}{es:List Expr}{k:Nat}{pos:Pos}(t1 t2:Bool)(z p q i1 i2 a b:Addr)(D:Ly z p q i1 i2 a b):
  IZ P w K (.Tuple es k pos) (Itz K t1 t2 a b) [z,p,q,i1,i2] z (fun i h=>ZSt t1 t2 h z p q i1 i2 a b i .none) where
 mem:=by simp
 obj:=fun i h st c hc=>by
  simp only[Al,Bg,or_false] at hc;rcases hc with rfl|rfl|rfl|rfl|rfl
  ·exact⟨_,st.zip,fun v e=>by cases e⟩
  ·exact⟨_,st.its,fun v e=>by cases e⟩
  ·obtain⟨u,v,g⟩:=st.res
   exact⟨_,g,fun v e=>by cases e⟩
  ·exact st.one.obj
  ·exact st.two.obj
 keep:=fun i h h' st kk=>by
  obtain⟨u,v,g⟩:=st.res;exact⟨kk z (by simp) _ st.zip,kk p (by simp) _ st.its,⟨u,v,kk q (by simp) _ g⟩,st.one.at fun o e=>kk i1 (by simp) o e,st.two.at fun o e=>kk i2 (by simp) o e⟩
 item:=by
  intro X hP hw hK hc i aa s σ H E I hf st hg;subst hP hw hK;obtain⟨xs,ys,x,y,hq1,hq2,hx,hy⟩:=hg;obtain⟨us,r1,g1,_⟩:=I.srcA hq1;obtain⟨vs,r2,g2,_⟩:=I.srcA hq2;obtain⟨u,hu,ru⟩:=r1.get hx;obtain⟨v,hv,rv⟩:=r2.get hy;refine HJ D st g1 g2 (by simpa using hu) (by simpa using hv) fun h1 st1 hp hsz hk=>⟨_,rfl,?_⟩;refine wpAny_letOwnedTupleGo_zip (s:={s with heap:=h1}) st1.zip fun h2 z2 sb=> ?_;have sb:Fb z h1 h2:=sb;have lt: ∀c∈[z,p,q,i1,i2],c<s.heap.objs.size:=fun c hc=>by
   simp only[Al,Bg,or_false] at hc;rcases hc with rfl|rfl|rfl|rfl|rfl
   ·exact An st.zip
   ·exact An st.its
   ·obtain⟨u,v,g⟩:=st.res
    exact An g
   ·obtain⟨o,e,_⟩:=st.one.obj
    exact An e
   ·obtain⟨o,e,_⟩:=st.two.obj
    exact An e
  have up: ∀c o,c≠z->h1.get? c=some o->h2.get? c=some o:=fun c o hcz e=>(sb.2 c hcz).trans e;have st2:ZSt t1 t2 h2 z p q i1 i2 a b (i+1) .none:=by
   obtain⟨u',v',g⟩:=st1.res;exact⟨z2,up _ _ D.TIz st1.its,⟨u',v',up _ _ D.TOz g⟩,st1.one.at fun o e=>up _ o D.i1z e,st1.two.at fun o e=>up _ o D.i2z e⟩
  have dz:h2.get? s.heap.objs.size=some {cls:= .type "tuple",data:= .seq #[u,v]}:=up _ _ (Gg (lt z (by simp))) hp;have az:H s.heap.objs.size=none:=I.hok.fresh (Ao _);have I0:c6 X aa σ (bP H s.heap.objs.size (.tup [x,y])) {s with heap:=s.heap.push {cls:= .type "tuple",data:= .seq #[u,v]},toks:=s.toks}:=
   I.laid (fun c o e=>Ad _ e) (Ao _) ⟨by show 2<=sizeLine;decide,[u,v],.cons ru (.cons rv .nil),Jy _ _⟩
  have I1:c6 X aa σ (bP H s.heap.objs.size (.tup [x,y])) {s with heap:=h2,toks:=s.toks}:=by
   refine c6.turnedL (s:={s with heap:=s.heap.push {cls:= .type "tuple",data:= .seq #[u,v]},toks:=s.toks}) (h':=h2) (t':=s.toks) (fp:=[z,p,q,i1,i2]) I0 (fun c o hc e=> ?_) (fun c hc=> ?_) fun c hc=>⟨by rw[cE (Be (lt c hc))];exact(hf c hc).1,(hf c hc).2⟩
   ·by_cases hcn:c=s.heap.objs.size
    ·subst hcn
     have e:(s.heap.push {cls:= .type "tuple",data:= .seq #[u,v]}).get? s.heap.objs.size=some o:=e;rw[Au _ rfl] at e;cases e;exact dz
    ·have e':=(Hz _ _ _ hcn).symm.trans e
     exact up c o (fun w=>hc (by simp[w])) (hk c o (fun w=>hc (by simp[w])) (fun w=>hc (by simp[w])) (fun w=>hc (by simp[w])) (fun w=>hc (by simp[w])) e')
   ·simp only[Al,Bg,or_false] at hc
    rcases hc with rfl|rfl|rfl|rfl|rfl
    ·exact⟨_,st2.zip⟩
    ·exact⟨_,st2.its⟩
    ·obtain⟨u,v,g⟩:=st2.res
     exact⟨_,g⟩
    ·obtain⟨o,e,_⟩:=st2.one.obj
     exact⟨o,e⟩
    ·obtain⟨o,e,_⟩:=st2.two.obj
     exact⟨o,e⟩
  exact⟨.ref s.heap.objs.size,_,I1,rfl,⟨_,x,y,fun zs hz=>by rw[I.sq_inj hz hq1];exact hx,fun zs hz=>by rw[I.sq_inj hz hq2];exact hy,az,rfl,rfl⟩,st2,fun c hc=>by
   rw[cE (Be (lt c hc))];exact(hf c hc).1⟩
 done:=by
  intro X hP hw hK hc i aa s σ H E I hf st hg;subst hP hw hK;obtain⟨xs,ys,hq1,hq2,gb⟩:=hg;obtain⟨us,r1,g1,_⟩:=I.srcA hq1;obtain⟨vs,r2,g2,_⟩:=I.srcA hq2;have l1:=r1.length;have l2:=r2.length;have he:us.toArray[i]? =none∨vs.toArray[i]? =none:=by
   rcases gb with z|z
   ·exact .inl (by simp;lia)
   ·exact .inr (by simp;lia)
  refine D3 (I.ok.hd hc) D st g1 g2 he fun h1 hk=>⟨rfl,?_⟩;have fq: ∀c∈[z,q,i1,i2],c∈[z,p,q,i1,i2]:=fun c hc=>by
   simp only[Al,Bg,or_false] at hc⊢;rcases hc with w|w|w|w<;>simp[w]
  have I':=c6.turnedL' (s:=s) (h':=h1) (t':=s.toks) (fp:=[z,q,i1,i2]) I (fun c o hc e=>hk c o (fun w=>hc (by simp[w])) (fun w=>hc (by simp[w])) (fun w=>hc (by simp[w])) (fun w=>hc (by simp[w])) e) fun c hc=>hf c (fq c hc);exact I'
 self:=fun _ i _ _ _ st h=>wpAny_pyIter_zip st.zip h
section
variable{X:Cx}{K:As}{ml:List Nat}{l m:Expr}{pa ta ia pb tb ib:Bool}{f g:VF}{p pos dg:Pos}{es:List Expr}{tk:Nat}{δ:Ev}
def iZp(K:As)(tl tm:TE):TI:=fun σ H R=>tl σ H fun x H1=>tm σ H1 fun y H2=> ∃a b t1 t2,x= .ref a/\y= .ref b/\(∃xs,MN K t1 H2 a xs)/\(∃ys,MN K t2 H2 b ys)/\R (Itz K t1 t2 a b) H2
theorem zF5{tl tm:TE}(hg:Gl X "zip") (hm:X.mg "zip"=none) (hl:PE X l tl) (hr:PE X m tm) (he:Ak (l::[m]) X.env=(false,eval l X.env)::Ak [m] X.env:=by rfl) (he2:Ak (m::[]) X.env=(false,eval m X.env)::Ak [] X.env:=by rfl)
  (hpl:(Fw pos (Ak [m] X.env)).any (·.1)=false:=by rfl):PI X (.Tuple es tk dg) (.Call (.Name "zip" p) [l,m] [] pos) (iZp X.K tl tm):=by
 intro aa s σ H R I h;refine Ge (T1 I hg hm zGZ ?_ (by decide) (by decide));refine Dy (ZT (cK hl (cK hr aP he2) he pos aa s σ H (fun vs H1=>match vs with
  |[x,y]=> ∃a b t1 t2,x= .ref a/\y= .ref b/\(∃xs,MN X.K t1 H1 a xs)/\(∃ys,MN X.K t2 H1 b ys)/\R (Itz X.K t1 t2 a b) H1
  |_=>False) I h) fun us s1 ⟨vs,H1,I1,r1,q1⟩=> ?_) he hpl
 match vs,r1,q1 with
 |[x,y],r1,q1=>
  obtain⟨a,b,t1,t2,rfl,rfl,⟨xs,hq1⟩,⟨ys,hq2⟩,hR⟩:=q1;obtain⟨u,v,rfl,ru,rv⟩:=GK r1;cases ru;cases rv;obtain⟨us,w1,g1,_⟩:=I1.srcA hq1;obtain⟨vs,w2,g2,_⟩:=I1.srcA hq2;refine DE g1 g2 fun h' st kp=> ?_;have I2:c6 X aa σ H1 {s1 with heap:=h'}:=I1.kept (t':=s1.toks) kp;have ha:=g1.lt;have hb:=g2.lt;have D:Ly (s1.heap.objs.size+4) (s1.heap.objs.size+2) (s1.heap.objs.size+3) s1.heap.objs.size (s1.heap.objs.size+1) a b:=by exact zDY _ a b ha hb
  refine wpAny_pyIter_zip st.zip ⟨s1.heap.objs.size+4,[s1.heap.objs.size+4,s1.heap.objs.size+2,s1.heap.objs.size+3,s1.heap.objs.size,s1.heap.objs.size+1],_,Itz X.K t1 t2 a b,H1,rfl,I2,BZ t1 t2 _ _ _ _ _ a b D,st,fun c hc=> ?_,hR⟩;have hc':s1.heap.objs.size<=c:=by
   simp only[Al,Bg,or_false] at hc;rcases hc with w|w|w|w|w<;>rw[w]<;>first|exact Nat.le_add_right _ _|exact Ao _
  exact I1.fpOk hc' (I1.hok.fresh hc')
theorem zJ3(h:X.K=K){tl tm:TE}(hg:Gl X "zip") (hm:X.mg "zip"=none) (hl:PE X l tl) (hr:PE X m tm) (he:Ak (l::[m]) X.env=(false,eval l X.env)::Ak [m] X.env:=by rfl) (he2:Ak (m::[]) X.env=(false,eval m X.env)::Ak [] X.env:=by rfl)
  (hpl:(Fw pos (Ak [m] X.env)).any (·.1)=false:=by rfl):PI X (.Tuple es tk dg) (.Call (.Name "zip" p) [l,m] [] pos) (iZp K tl tm):=by subst h;exact zF5 hg hm hl hr he he2 hpl
noncomputable def YO:List dP->List dP->List dP
 |d::ds,e::es=> .tup [d,e]::YO ds es
 |_,_=>[]
noncomputable def DQ(f g:VF):VI:=fun δ=>(f δ).bind fun p=>(g p.2).bind fun q=>(YS p.1).bind fun ds=>(YS q.1).map fun es=>(YO ds es,q.2)
theorem K6: ∀{ds es:List dP} {i:Nat} {d:dP},(YO ds es)[i]? =some d-> ∃x y,ds[i]? =some x/\es[i]? =some y/\d= .tup [x,y]
 |[],_,_,_,h=>by simp[YO] at h
 |_::_,[],_,_,h=>by simp[YO] at h
 |x::ds,y::es,0,d,h=>by simp[YO] at h;exact⟨x,y,rfl,rfl,h.symm⟩
 |x::ds,y::es,i+1,d,h=>by
  obtain⟨x',y',h1,h2,h3⟩:=K6 (ds:=ds) (es:=es) (i:=i) (d:=d) (by simpa[YO] using h);exact⟨x',y',by simpa using h1,by simpa using h2,h3⟩
theorem K7: ∀{ds es:List dP},ds.length<=(YO ds es).length∨es.length<=(YO ds es).length
 |[],_=> .inl (Dd _)
 |_::_,[]=> .inr (Dd _)
 |x::ds,y::es=>by
  rcases K7 (ds:=ds) (es:=es) with h|h
  ·exact .inl (Pa h)
  ·exact .inr (Pa h)
def zJ9:dP->Bool
 | .tup _=>true
 |_=>false
theorem b6.sqA{N M:Addr->Prop}{H:Hp}{v:V}{d:dP}{ds:List dP}(h:b6 K N H M v d)(e:YS d=some ds): ∃a tup xs,v= .ref a/\MN K tup H a xs/\cY K N H xs ds/\tup=zJ9 d:=by
  cases d<;>first
    | (cases e
       obtain⟨a,xs,h1,h2,h3⟩:=h.tupE;exact⟨a,true,xs,h1,h2,h3,rfl⟩)
    | (cases e
       obtain⟨a,xs,h1,h2,h3⟩:=h.lstE;exact⟨a,false,xs,h1,h2,h3,rfl⟩)
    |cases e
theorem IS(hK:X.K=K)(hg:Gl X "zip") (hm:X.mg "zip"=none) (h:PE X l (TV K ml pa true true f)) (h':PE X m (TV K ml pb true true g)) (he:Ak (l::[m]) X.env=(false,eval l X.env)::Ak [m] X.env:=by rfl) (he2:Ak (m::[]) X.env=(false,eval m X.env)::Ak [] X.env:=by rfl)
  (hpl:(Fw pos (Ak [m] X.env)).any (·.1)=false:=by rfl):PI X (.Tuple es tk dg) (.Call (.Name "zip" p) [l,m] [] pos) (GX K ml (pa && pb) (DQ f g)):=(zJ3 (K:=K) hK hg hm h h' he he2 hpl).imp fun σ H R hq0=>by
 obtain⟨B,O,δ,ds,δ2,S,q,k⟩:=hq0;unfold DQ at q;obtain⟨⟨x,δ1⟩,h1,q⟩:=Aa.mp q;cases h2:g δ1 with
 |none=>simp[h2] at q
 |some p2=>
  obtain⟨y,δ3⟩:=p2;simp only[At,h2] at q;obtain⟨xs,h3,q⟩:=Aa.mp q;have q:(YS y).map (fun es=>(YO xs es,δ3))=some (ds,δ2):=q;obtain⟨ys,h4,q⟩:=Aq.mp q;cases q;refine⟨B,O,δ,x,δ1,S,h1,fun v1 H1 R1=>⟨B,O,δ1,y,_,R1.sta,h2,fun v2 H2 R2=> ?_⟩⟩;have r1:=R1.rep.fr R2.frm (fun a z=> .inr z) fun a z=> .inr z;obtain⟨a,t1,us,e1,q1,w1,et1⟩:=r1.sqA h3;obtain⟨b,t2,vs,e2,q2,w2,et2⟩:=R2.rep.sqA h4;refine⟨a,b,t1,t2,e1,e2,⟨us,q1⟩,⟨vs,q2⟩,k _ [(v1,x),(v2,y)] H2 (R2.sta.keepV fun z hz=> ?_) (R1.frm.trans R2.frm) (fun z=> ?_) ?_⟩
  ·simp only[Al,Bg,or_false] at hz
   rcases hz with rfl|rfl
   ·exact r1
   ·exact R2.rep
  ·obtain⟨z1,z2⟩:=(Ae _ _).mp z
   exact(R1.pur z1).trans (R2.pur z2)
  ·intro N H h
   obtain⟨a',t1',us',f1,f2,f3,f4⟩:=(h (v1,x) (by simp)).sqA h3;obtain⟨b',t2',vs',g1,g2,g3,g4⟩:=(h (v2,y) (by simp)).sqA h4;have f1:v1= .ref a':=f1;have g1:v2= .ref b':=g1;rw[e1] at f1;rw[e2] at g1;cases f1;cases g1;have:t1'=t1:=f4.trans et1.symm;subst this;have:t2'=t2:=g4.trans et2.symm;subst this;refine⟨fun i d e=> ?_,us',vs',f2,g2,?_⟩
   ·obtain⟨dx,dy,hx,hy,rfl⟩:=K6 e
    obtain⟨ux,ex,rx⟩:=f3.get hx;obtain⟨uy,ey,ry⟩:=g3.get hy;refine⟨⟨us',vs',ux,uy,f2,g2,ex,ey⟩,fun z H' hz=> ?_⟩;obtain⟨pp,x',y',c1,c2,hp,rfl,rfl⟩:=hz;have d1:=c1 us' f2;have d2:=c2 vs' g2;rw[ex] at d1;rw[ey] at d2;cases d1;cases d2;exact⟨dJ hp,.tup (W4.of c0) (.cons (rx.same (dJ hp)) (.cons (ry.same (dJ hp)) .nil))⟩
   ·rcases K7 (ds:=xs) (es:=ys) with w|w
    ·exact .inl (by rw[f3.length];exact w)
    ·exact .inr (by rw[g3.length];exact w)
end
end L2
namespace L2
open PySem PySem.Spec PyProof.Rows PySem.W
section
variable{prog:Bq}{w:World}{A:Cy}{E:Value->Af->Prop}{s:Af}
theorem II{t:Addr}{items:Array Value}{Q:List Value->Af->Prop}(hh:A.handled=none)(ht:IsTup s.heap t items)(h1:1<=items.size)(hz:items.size<=16777216)
  (hQ: ∀(x:Value) (hb:Heap) (tk:Nat),items[0]? =some x->(∀b o,s.heap.get? b=some o->hb.get? b=some o)->Q [x,.ref hb.objs.size] {s with heap:=hb.push {cls:= .type "list",data:= .seq (items.toList.drop 1).toArray},toks:=tk}):
  wpAny (model prog w) A (Iy (.ref t) 2 (some 1)) Q E s:=by
 have hne:t≠s.heap.objs.size:=by obtain⟨o,e,_⟩:=ht;exact Be (An e)
 (unfold Iy)
 refine Ac ?_
 (unfold notIterableAtAll)
 refine Ac (wpAny_specialOf ht.typeIs slot_tuple_iter.lookup (Aj ?_));simp only[Dk,if_false];refine Ac (Ce (iter_tuple ht (Ac (Ce (draw_tuple hne 1 0 _ _ ⟨_,Au _ rfl,rfl,rfl⟩ (ht.push _) (by lia) fun ha ia ba=> ?_)))));have ta:IsTup ha t items:=(ht.push _).extBut ba.extBut hne;have ia:ha.IsTupleIter s.heap.objs.size t 1:=ia;obtain⟨oi,gi,_⟩:=id ia;obtain⟨ot,gt,_⟩:=id ta;have hsz:ha.objs.size=s.heap.objs.size+1:=by rw[ba.1,Co]
 have ni:((items.toList.drop 0).take 1).length=1:=by simp;lia
 rw[if_neg (show¬((items.toList.drop 0).take 1).length<1 by rw[ni];exact Bz _)];refine Ac (Ce (kun_collect (s:={s with heap:=ha}) (T:= "tuple_iterator") (.inr (.inr (.inr rfl))) (Walks.tuple (A:=A.in1) hh s.heap.objs.size t hne items) (fun j u st=>st.1.typeIs) (k:=1) h1 ⟨ia,ta⟩ (An gi) (An gt) (fun hb tk kb=> ?_) (by rw[Dc];exact hz)));have ou:(items.toList.drop 1).length=items.size - 1:=by simp
 show wpAny _ _ (if(items.toList.drop 1).length<2 - 1 - 1 then _ else _) _ _ _;rw[if_neg (Py _)];show wpAny _ _ (Pz ((items.toList.drop 1).take ((items.toList.drop 1).length - (2 - 1 - 1)))>>=fun d=>pure ((items.toList.drop 0).take 1++[d]++(items.toList.drop 1).drop ((items.toList.drop 1).length - (2 - 1 - 1)))) _ _ _;have e1:(items.toList.drop 1).take ((items.toList.drop 1).length - (2 - 1 - 1))=items.toList.drop 1:=Ca (Ao _);have e2:(items.toList.drop 1).drop ((items.toList.drop 1).length - (2 - 1 - 1))=[]:=Fx;rw[e1,e2];refine Ac (Cu (Aj ?_) (by show _<=sizeLine;rw[Dc];simp;lia));obtain⟨x,hx⟩: ∃x,items[0]? =some x:=⟨items[0],by simp[show 0<items.size by lia]⟩;have e3:(items.toList.drop 0).take 1=[x]:=by
  rw[Jv];have:items.toList[0]? =some x:=by simpa using hx
  cases hl:items.toList with
  |nil=>rw[hl] at this;cases this
  |cons y r=>rw[hl] at this;cases this;rfl
 rw[e3];have keep: ∀b o,s.heap.get? b=some o->hb.get? b=some o:=fun b o e=>kb b o (Be (An e)) (ba.extBut b o (Be (An e)) (Ad _ e));exact hQ x hb tk hx keep
end
section
variable{X:Cx}{K:As}{ml:List Nat}{e a b c:Expr}{es:List Expr}{pa ta ia pb tb ib pc tc ic pu bt bi ps bs:Bool}{fa fb fc f:VF}{B B':Bs}{O:Nat->Option Addr}{H H0 H1 H':Hp}{σ:St}{δ δ':Ev}{v:V}{d:dP}{p:Addr}{pos:Pos}
def zJF(K:As)(i j:Nat):TG:=fun v σ H Q=> ∃a x xs,v= .ref a/\W4 K H a (x::xs)/\ ∀p,H p=none->Q ((σ.set i (some x)).set j (some (.ref p))) (bP H p (.lst xs))
theorem zC7{i j:Nat}{x y:Str}{px py ps tp:Pos}{k:Nat}(hc:X.calm=true)(hN:X.N.Nodup)(hi:X.N[i]? =some x)(hj:X.N[j]? =some y)(hx:GV X.env.scope x)(hy:GV X.env.scope y)
  (fx:X.fn x=true∨X.env.scope.names.lookup x=some .local) (fy:X.fn y=true∨X.env.scope.names.lookup y=some .local)
  (hl:(assignEach [.Name x px,.Starred (.Name y py) ps] X.env).map (·.2)=[Ex (.Name x px) X.env,Ex (.Name y py) X.env]) (hn:(assignEach [.Name x px,.Starred (.Name y py) ps] X.env).length=2) (hst:(assignEach [.Name x px,.Starred (.Name y py) ps] X.env).findIdx? (·.1)=some 1):
  PG X (.Tuple [.Name x px,.Starred (.Name y py) ps] k tp) (zJF X.K i j):=by
 intro aa s σ H v u Q I r hw;obtain⟨a,z,zs,e1,hq,q⟩:=hw;subst e1;cases r;obtain⟨its,rv,ht,hz⟩:=I.tuple hq;rw[assign_Tuple];refine Ac (Dw ?_)
 (unfold unpack)
 rw[hn,hst];have ag:=rv.length;rw[Bb] at ag;have hz':its.length<=16777216:=by rw[<- Dc,<- ag];exact hz
 refine Ac (Ce (II (I.ok.hd hc) ht (by rw[Av];lia) (by rw[Av];exact hz') fun u hb tk hu kp=> ?_));rw[hl];cases rv with
 | @cons _ w _ ws rz rzs=>
  have hu:some w=some u:=by simpa using hu
  cases hu;have I1:c6 X aa σ H {s with heap:=hb,toks:=tk}:=I.kept kp;have I2:=c6.lnew (s:={s with heap:=hb,toks:=tk}) (t':=tk) I1 rzs (by rw[Dc];simp only[Bb] at hz' ag;have:=rzs.length;lia);refine Dv (Go (Y1 I2 hN hi hx rz (fun s3 I3=> ?_) fx));refine Dv (Go (Y1 I3 hN hj hy (v:= .ref hb.objs.size) rfl (fun s4 I4=>Hw ⟨_,_,I4,q _ (I1.hok.fresh (Ao _))⟩) fy))
noncomputable def NK(i j:Nat)(f:VF):VS:=fun δ=>(f δ).bind fun p=>match p.1 with
 | .tup (d::ds)=>some (.nx ((p.2.set i (.va d)).set j (.va (.lst ds))))
 |_=>none
theorem GQ{i j:Nat}{x y:Str}{px py sp tp:Pos}{k:Nat}(hK:X.K=K)(hc:X.calm=true)(hN:X.N.Nodup)(hi:X.N[i]? =some x)(hj:X.N[j]? =some y)(hij:i≠j)(hx:GV X.env.scope x)(hy:GV X.env.scope y)(he:PE X e (TV K ml pu true true f))
  (hmi:i∉ml:=by decide) (hmj:j∉ml:=by decide)
  (fx:X.fn x=true∨X.env.scope.names.lookup x=some .local:=by first|exact .inl rfl|exact .inr rfl|assumption) (fy:X.fn y=true∨X.env.scope.names.lookup y=some .local:=by first|exact .inl rfl|exact .inr rfl|assumption)
  (hl:(assignEach [.Name x px,.Starred (.Name y py) sp] X.env).map (·.2)=[Ex (.Name x px) X.env,Ex (.Name y py) X.env]:=by rfl) (hn:(assignEach [.Name x px,.Starred (.Name y py) sp] X.env).length=2:=by rfl) (hst:(assignEach [.Name x px,.Starred (.Name y py) sp] X.env).findIdx? (·.1)=some 1:=by rfl)
  (hs:Fc [.Tuple [.Name x px,.Starred (.Name y py) sp] k tp] e pos.line X.env=pure false:=by rfl) (hw:Fd [.Tuple [.Name x px,.Starred (.Name y py) sp] k tp] e X.env=pure none:=by rfl)
  (h1:(assignEach [.Tuple [.Name x px,.Starred (.Name y py) sp] k tp] X.env).map (·.2)=[Ex (.Tuple [.Name x px,.Starred (.Name y py) sp] k tp) X.env]:=by rfl):
  PS X (.Assign [.Tuple [.Name x px,.Starred (.Name y py) sp] k tp] e pos) (UE K ml (NK i j f)):=by
 subst hK;refine(L5 he (zC7 hc hN hi hj hx hy fx fy hl hn hst) hs hw h1).imp fun D σ H hq0=> ?_;obtain⟨B,O,δ,o,S,q,k⟩:=hq0;unfold NK at q;obtain⟨⟨z,δ1⟩,h1,q⟩:=Aa.mp q;refine⟨B,O,δ,z,δ1,S,h1,fun v H1 R=> ?_⟩;cases z with
 |tup ds=>
  cases ds with
  |nil=>cases q
  |cons d ds=>
   cases q;obtain⟨a,xs,rfl,sq,r⟩:=R.rep.tupE;cases r with
   | @cons v0 vs _ _ r1 r2=>
    refine⟨a,v0,vs,rfl,sq,fun p hp=> ?_⟩;have S1:=(R.sta.same (dJ (o:= .lst vs) hp)).setVa hmi (r1.same (dJ (o:= .lst vs) hp));have N1: ∀c,Nn B (fun j=>if j=i then none else O j) c->Nn B O c:=Q6 (o:=none);refine k _ _ _ (S1.setVa hmj (.lst c0 (fun z=>R.sta.new hp (N1 _ z)) ((r2.same (dJ hp)).mono N1)))
 |_=>cases q
end
end L2
namespace L2
open PySem PySem.Spec PyProof.Rows
section
variable{X:Cx}{K:As}{ml:List Nat}{e a b c:Expr}{es:List Expr}{pa ta ia pb tb ib pc tc ic pu bt bi ps bs:Bool}{fa fb fc f:VF}{B B':Bs}{O:Nat->Option Addr}{H H0 H1 H':Hp}{σ:St}{δ δ':Ev}{v:V}{d:dP}{p:Addr}{pos:Pos}
def rInD(K:As)(neg:Bool):R2:=fun x y H Q=> ∃d e ds,Dp K H x d/\Dp K H y e/\(e= .list ds∨e= .tuple ds)/\Eg d=true/\Eg e=true/\Q (.bl (if neg then !ds.any (fun z=>Iu z d) else ds.any fun z=>Iu z d)) H
theorem S8{d:Me}(h:Eg d=true):d.canLay0=true/\d.depth<=64:=by
 unfold Eg at h;simp only[Ae,decide_eq_true_eq] at h;exact h
theorem zA0(neg:Bool)(hu:X.A.units+64<cLine):XO X (Df (if neg then .NotIn else .In)) (rInD X.K neg):=by
 intro aa s σ H x y v u Q I rx ry h;obtain⟨d,e,ds,hd,he,hk,sd,se,q⟩:=h;obtain⟨as,h1⟩:=I.reads hd rx;obtain⟨bs,h2⟩:=I.reads he ry;obtain⟨c1,d1⟩:=S8 sd;obtain⟨c2,d2⟩:=S8 se;have fin: ∀k,(k=if neg then !ds.any (fun z=>Iu z d) else ds.any fun z=>Iu z d)->EP X aa σ Q (.bool k) s:=fun k hk=>by subst hk;exact⟨.bl _,H,I,rfl,q⟩
 rcases hk with rfl|rfl
 ·have hc : Ia ds = true := by simpa [Fz] using c2
  have oa:Es ds<=63:=by simp only[Ii] at d2;lia
  have hm:X.A.units+1+min (Es ds) d.depth<cLine:=by have:=Qa (Es ds) d.depth;lia
  cases neg with
  |false=>exact SeqAt.in_list_reads h2 h1 hc c1 hm (fin _ rfl)
  |true=>exact SeqAt.notIn_list_reads h2 h1 hc c1 hm (fin _ rfl)
 ·have hc : Ia ds = true := by simpa [Fz] using c2
  have oa:Es ds<=63:=by simp only[Ii] at d2;lia
  have hm:X.A.units+1+min (Es ds) d.depth<cLine:=by have:=Qa (Es ds) d.depth;lia
  cases neg with
  |false=>exact SeqAt.in_tuple_reads h2 h1 hc c1 hm (fin _ rfl)
  |true=>exact SeqAt.notIn_tuple_reads h2 h1 hc c1 hm (fin _ rfl)
theorem WR(h:X.K=K)(hu:X.A.units+64<cLine):XO X (Df .In) (rInD K false):=by subst h;exact zA0 false hu
theorem QG(h:X.K=K)(hu:X.A.units+64<cLine):XO X (Df .NotIn) (rInD K true):=by subst h;exact zA0 true hu
def QS(d:dP)(ds:List dP):Bool:=(CV ds).any fun z=>Iu z d.pd
noncomputable def bE(neg:Bool)(d e:dP):Option dP:=(YS e).bind fun ds=>if(ND d && ND e)=true then some (.bl (if neg then !QS d ds else QS d ds)) else none
theorem ZW{neg:Bool}:SG K (rInD K neg) (bE neg):=by
 intro H N N' M M' x y d e c Q hx hy h k;unfold bE at h;obtain⟨ds,hs,h⟩:=Aa.mp h;have h:(if(ND d && ND e)=true then some (dP.bl (if neg then !QS d ds else QS d ds)) else none)=some c:=h;split at h
 ·rename_i hh
  cases h;simp only[ND,Ae] at hh;refine⟨d.pd,e.pd,CV ds,hx.dp hh.1.1,hy.dp hh.2.1,?_,hh.1.2,hh.2.2,k _ fun _ _ _=> .bl _⟩;cases e<;>first
   |(cases hs;exact .inr rfl)
   |(cases hs;exact .inl rfl)
   |cases hs
 ·cases h
def zHK(K:As)(td ty:TE):TE:=fun σ H Q=>td σ H fun x H1=> ∃a,x= .ref a/\((IsD H1 a/\ty σ H1 fun y H2=> ∃o,RA H2 a y o/\Q (o.getD .non) H2)∨ ∃D,KTab K a D/\ty σ H1 fun y H2=> ∃k,y= .str k/\Q ((Fk k D).getD .non) H2)
theorem AK{am af:Pos}{td ty:TE}(hu:X.A.units+1<cLine)(ho:PE X a td)(he:PE X e ty)(m:M1 X a "get" am e af):PE X (.Call (.Attribute a "get" am) [e] [] af) (zHK X.K td ty):=by
 intro aa s σ H Q I h;refine Nw m.base m.few m.line Ko Ds Lp (ZT (ho aa s σ H _ I h) fun u s1 ⟨x,H1,I1,rx,l,ex,q1⟩=> ?_);subst ex;obtain rfl:u=Br l:=rx;rcases q1 with⟨hd,q1⟩|⟨D,T,q1⟩
 ·obtain⟨t1,t2,_⟩:=zAM I1 hd
  refine⟨t1,t2,?_⟩;rw[m.trees];refine Gb rfl (Gs (Gc (ZT (he aa s1 σ H1 _ I1 q1) fun iv s2 ⟨y,H2,I2,ry,ov,g,q2⟩=>Hx ?_)));exact zGX hu I2 g ry fun w' s3 I3 rw'=>⟨_,H2,I3,rw',q2⟩
 ·obtain⟨nk,o,ph,ep,hk,hex,d9,_⟩:=id T
  refine⟨⟨o,I1.kIn _ _ hk,hex.1⟩,fun b q=> ?_,?_⟩
  ·cases q
   exact⟨o,I1.kIn _ _ hk,hex.2.1⟩
  rw[m.trees];refine Gb rfl (Gs (Gc (ZT (he aa s1 σ H1 _ I1 q1) fun iv s2 ⟨y,H2,I2,ry,k,ey,q2⟩=>Hx ?_)));subst ey;obtain⟨t,rfl⟩:=ry;have hT:s2.TypeIs (.ref l) "dict":=⟨o,I2.kIn _ _ hk,hex.1⟩;refine Ec Ds hT Eu ?_ (Hl _ _);show wpAny _ _ (dictGet l (.str k t)>>=_) _ _ s2;refine Ac (JT I2.kIn T (fun d' v' ha hv=>Aj ⟨v',rfl,?_⟩) fun hn=> ?_)
  ·rw[ha] at q2
   exact⟨d',H2,I2.tok _,hv,q2⟩
  ·rw[hn] at q2
   show wpAny _ _ (Mm l (.str k t)>>=_) _ _ _;unfold Mm;rw[if_neg (by rw[nk];exact De)];exact Ac (Aj (Aj ⟨.none,rfl,.non,H2,I2.tok _,rfl,q2⟩))
noncomputable def zDN:dP->dP->Option dP
 | .dct ks ds,.str x=>some ((bX ks ds (.inr x)).getD .non)
 |_,_=>none
theorem zBI{am af:Pos}(hK:X.K=K)(hu:X.A.units+1<cLine)(ha:PE X a (TV K ml pa ta ia fa))(hb:PE X b (TV K ml pb tb ib fb))(m:M1 X a "get" am b af) (hs:(pb || (ta && ia))=true:=by rfl):
  PE X (.Call (.Attribute a "get" am) [b] [] af) (TV K ml (pa && pb) ia ia (f2 zDN fa fb)):=by
 subst hK;refine(AK hu ha hb m).imp fun σ H Q hq0=> ?_;obtain⟨B,O,δ,d,δ2,S,q,k⟩:=hq0;obtain⟨x,δ1,y,h1,h2,h3⟩:=RK q;refine⟨B,O,δ,x,δ1,S,h1,fun v1 H1 R1=> ?_⟩;have fin: ∀v2 H2 (R2:Res X.K ml B O H1 σ pb tb ib H2 δ2 v2 y) o,b6 X.K (av B O ia) H2 (av B O ia) o d->Q o H2:=fun v2 H2 R2 o ho=>k o H2 ⟨R2.sta,R1.frm.trans R2.frm,fun z=>by
  obtain⟨z1,z2⟩:=(Ae _ _).mp z;exact(R1.pur z1).trans (R2.pur z2),ho.mono (fun _ z=>z) zDV⟩
 cases x with
 |dct ks ds=>
  cases y with
  |str z=>
   cases h3;generalize hx:dP.dct ks ds=dd at R1;have r1:=R1.rep;cases r1 with
   | @dct _ l kvs ds' qd n r=>
    cases hx;refine⟨l,rfl,.inl ⟨.inl ⟨_,.inl qd⟩,B,O,δ1,_,δ2,R1.sta,h2,fun v2 H2 R2=> ?_⟩⟩;have r2:=R2.rep;cases r2;have h4:H2 l=some (.dK kvs)/\cY X.K (av B O ia) H2 (kvs.map Du) ds:=by
     cases pb with
     |true=>exact⟨R2.pur rfl _ _ qd,r.same (R2.pur rfl)⟩
     |false=>
      have hs:(ta && ia)=true:=by simpa using hs
      obtain⟨z1,z2⟩:=(Ae _ _).mp hs;subst z1 z2;exact⟨R2.frm _ _ qd fun w=>absurd (.inr w) n,r.fr R2.frm fun a z=> .inr z⟩
    refine⟨_,RA.k (k:= .inr z) h4.1,fin _ _ R2 _ ?_⟩;rcases SU (k:= .inr z) h4.2 with⟨v,d',g1,g2,g3⟩|⟨g1,g2⟩
    ·rw[g1,g2];exact g3
    ·rw[g1,g2];exact .non
   | @ktb _ l D ds' T r=>
    cases hx;refine⟨l,rfl,.inr ⟨D,T,B,O,δ1,_,δ2,R1.sta,h2,fun v2 H2 R2=> ?_⟩⟩;have r2:=R2.rep;cases r2;refine⟨z,rfl,fin _ _ R2 _ ?_⟩;have r':cY X.K (av B O ia) H2 (D.map Du) ds:=by
     cases pb with
     |true=>exact r.same (R2.pur rfl)
     |false=>
      have hs:(ta && ia)=true:=by simpa using hs
      obtain⟨z1,z2⟩:=(Ae _ _).mp hs;subst z1 z2;exact r.fr R2.frm fun a z=> .inr z
    rcases RF (k:=z) r' with⟨v,d',g1,g2,g3⟩|⟨g1,g2⟩
    ·rw[g1,g2];exact g3
    ·rw[g1,g2];exact .non
   |_=>cases hx
  |_=>cases h3
 |_=>cases h3
end
theorem LI:Bj "all"=some (.builtin "all"):=by decide+kernel
theorem zH4:Bj "any"=some (.builtin "any"):=by decide+kernel
theorem zD3:Bj "dict"=some (.type "dict"):=by decide+kernel
section
variable{X:Cx}{K:As}{ml:List Nat}{e a b c:Expr}{es:List Expr}{pa ta ia pb tb ib pc tc ic pu bt bi ps bs:Bool}{fa fb fc f:VF}{B B':Bs}{O:Nat->Option Addr}{H H0 H1 H':Hp}{σ:St}{δ δ':Ev}{v:V}{d:dP}{p:Addr}{pos:Pos}
theorem zD5{ks:List Bool}{us:List Value}(r:cG (ks.map V.bl) us){i:Nat}{u:Value}(h:us[i]? =some u): ∃k,ks[i]? =some k/\u= .bool k:=by
 have hl:=r.length;rw[Bf] at hl;have hi:i<us.length:=(Ag.mp h).1;have e:(ks.map V.bl)[i]? =some (.bl ks[i]):=by simp[hl▸hi]
 obtain⟨w,h1,h2⟩:=r.get e;rw[h] at h1;cases h1;exact⟨ks[i],by simp[hl▸hi],h2⟩
theorem EC{ks:List Bool}:(Am ks.length).all (fun i=>(ks[i]?).getD true)=ks.all id:=by
 induction ks with
 |nil=>rfl
 |cons k ks ih=>
  rw[Bb,Ew,Nb,Rl,Nb,<- ih];rfl
theorem ED{ks:List Bool}:(Am ks.length).any (fun i=>(ks[i]?).getD true)=ks.any id:=by
 induction ks with
 |nil=>rfl
 |cons k ks ih=>
  rw[Bb,Ew,Fu,Om,Fu,<- ih];rfl
def PU(K:As)(g:List Bool->Bool):RC:=fun xs H Q=> ∃p ks,xs=[.ref p]/\X1 K H p (ks.map V.bl)/\Q (.bl (g ks)) H
theorem KU{prog:Bq}{w:World}{A:Cy}{ks:List Bool}{us:List Value}(r:cG (ks.map V.bl) us):TruthOf prog w A (fun i v=>us.toArray[i]? =some v) fun i=>(ks[i]?).getD true:=by
 intro i v s Q E hP hQ;obtain⟨k,h1,rfl⟩:=zD5 r (by simpa using hP);have hQ:Q ((ks[i]?).getD true) s:=hQ;rw[h1] at hQ;exact Dr hQ
theorem C7(hc:X.calm=true):a8 X (.builtin "all") (PU X.K fun ks=>ks.all id):=by
 intro aa s σ H xs us Q I r h;obtain⟨l,ks,rfl,hq,q⟩:=h;obtain⟨u,rfl,rx⟩:=WV r;cases rx;obtain⟨its,rv,pl,hz⟩:=I.list hq;have hl:=pl.isList;have hne:l≠s.heap.objs.size:=by obtain⟨o,g,_⟩:=hl;exact Be (An g)
 have ag:=rv.length;rw[Bf] at ag;refine call_all_walk (Em hl ⟨_,_,_,_,_,_,_,rfl,Qw (show X.A.in1.handled=none from I.ok.hd hc) s.heap.objs.size l hne its.toArray,⟨⟨_,Au _ rfl,rfl,rfl⟩,?_⟩,KU rv,fun h' tk hk=> ?_⟩)
 ·obtain⟨o,g,r⟩:=hl
  exact⟨o,Ad _ g,r⟩
 ·rw[Av,<- ag,EC]
  exact⟨.bl _,H,I.kept (t':=tk) fun b o g=>hk b o (by simp;exact Be (An g)) (Ad _ g),rfl,q⟩
theorem C8(hc:X.calm=true):a8 X (.builtin "any") (PU X.K fun ks=>ks.any id):=by
 intro aa s σ H xs us Q I r h;obtain⟨l,ks,rfl,hq,q⟩:=h;obtain⟨u,rfl,rx⟩:=WV r;cases rx;obtain⟨its,rv,pl,hz⟩:=I.list hq;have hl:=pl.isList;have hne:l≠s.heap.objs.size:=by obtain⟨o,g,_⟩:=hl;exact Be (An g)
 have ag:=rv.length;rw[Bf] at ag;refine call_any_walk (Em hl ⟨_,_,_,_,_,_,_,rfl,Qw (show X.A.in1.handled=none from I.ok.hd hc) s.heap.objs.size l hne its.toArray,⟨⟨_,Au _ rfl,rfl,rfl⟩,?_⟩,KU rv,fun h' tk hk=> ?_⟩)
 ·obtain⟨o,g,r⟩:=hl
  exact⟨o,Ad _ g,r⟩
 ·rw[Av,<- ag,ED]
  exact⟨.bl _,H,I.kept (t':=tk) fun b o g=>hk b o (by simp;exact Be (An g)) (Ad _ g),rfl,q⟩
theorem kAll(h:X.K=K)(hc:X.calm=true):a8 X (.builtin "all") (PU K fun ks=>ks.all id):=by subst h;exact C7 hc
theorem kAny(h:X.K=K)(hc:X.calm=true):a8 X (.builtin "any") (PU K fun ks=>ks.any id):=by subst h;exact C8 hc
noncomputable def OC:List dP->Option (List Bool)
 |[]=>some []
 | .bl k::ds=>(OC ds).map fun ks=>k::ks
 |_=>none
theorem EX{N:Addr->Prop}: ∀{xs:List V} {ds:List dP} {ks:List Bool},cY K N H xs ds->OC ds=some ks->xs=ks.map V.bl
 |_,_,_,.nil,h=>by cases h;rfl
 | _,_,_,@cY.cons _ _ _ v vs d ds h t,e => by
  cases d with
  |bl k=>
   cases h;have e:(OC ds).map (fun ks=>k::ks)=some _:=e;cases h2:OC ds with
   |none=>rw[h2] at e;cases e
   |some ks'=>
    rw[h2] at e;cases e;rw[EX t h2,Ar]
  |_=>cases e
noncomputable def J3(g:List Bool->Bool):dP->Option dP
 | .lst ds=>(OC ds).map fun ks=> .bl (g ks)
 |_=>none
abbrev HL:=J3 fun ks=>ks.all id
abbrev oAny:=J3 fun ks=>ks.any id
theorem BG{g:List Bool->Bool}:CZ K (PU K g) (J3 g):=by
 intro H N M x d c Q hx h k;cases d with
 |lst ds=>
  have h:(OC ds).map (fun ks=>dP.bl (g ks))=some c:=h;obtain⟨ks,h1,h⟩:=Aq.mp h;cases h;obtain⟨a,xs,rfl,sq,r⟩:=hx.lstE;have:=EX r h1;subst this;exact⟨a,ks,rfl,sq,k _ fun _ _ _=> .bl _⟩
 |_=>cases h
theorem GB:CZ K (PU K fun ks=>ks.all id) HL:=BG
theorem zI2:CZ K (PU K fun ks=>ks.any id) oAny:=BG
noncomputable def YZ:List dP->Option (List Int)
 |[]=>some []
 | .int i::ds=>(YZ ds).map fun ns=>i::ns
 |_=>none
theorem SQ{N:Addr->Prop}: ∀{xs:List V} {ds:List dP} {ns:List Int},cY K N H xs ds->YZ ds=some ns->xs=ns.map V.int
 |_,_,_,.nil,h=>by cases h;rfl
 | _,_,_,@cY.cons _ _ _ v vs d ds h t,e => by
  cases d with
  |int k=>
   cases h;have e:(YZ ds).map (fun ks=>k::ks)=some _:=e;cases h2:YZ ds with
   |none=>rw[h2] at e;cases e
   |some ks'=>
    rw[h2] at e;cases e;rw[SQ t h2,Ar]
  |_=>cases e
theorem KI{N:Addr->Prop}: ∀ns:List Int,cY K N H (ns.map V.int) (ns.map dP.int)
 |[]=> .nil
 |i::ns=> .cons (.int i) (KI ns)
theorem rngI{a:Int}{n:Nat}{acc:Array Value}(h:ItemsOf (fun i v=> ∃t,v= .int (a+i*1) t) acc n):cG ((Am n).map fun i:Nat=>V.int (a+i)) acc.toList:=by
 obtain⟨h1,h2⟩:=h;have go: ∀(m:Nat) (us:List Value),us.length=m-> ∀k:Nat,(∀(i:Nat) (v:Value),us[i]? =some v-> ∃t,v= .int (a+((k+i:Nat):Int)*1) t)->cG ((Am m).map fun i:Nat=>V.int (a+((k+i:Nat):Int))) us:=by
  intro m;induction m with
  |zero=>intro us hl k _;rw[Fv.mp hl];exact .nil
  |succ m ih=>
   intro us hl k hu;cases us with
   |nil=>cases hl
   |cons u us=>
    rw[Ew,Ar,Cm];obtain⟨t,ht⟩:=hu 0 u rfl;refine .cons ⟨t,by rw[ht];simp⟩ ?_;have:=ih us (by simpa using hl) (k+1) fun i v e=>by
     obtain⟨t,h⟩:=hu (i+1) v (by simpa using e);exact⟨t,by rw[h,show k+(i+1)=k+1+i by lia]⟩
    have e:((fun i:Nat=>V.int (a+((k+i:Nat):Int)))∘Nat.succ)=fun i:Nat=>V.int (a+((k+1+i:Nat):Int)):=by
     funext i;simp only[Ir,Nat.succ_eq_add_one];rw[show k+(i+1)=k+1+i by lia]
    rw[e];exact this
 have:=go n acc.toList (by simpa using h1) 0 fun i v e=>by
  have:=h2 i v (by simpa using e);simpa using this
 simpa using this
theorem JE:a8 X (.type "range") (fun xs H Q=> ∃j,xs=[.int j]/\ ∀p,H p=none->Q (.ref p) (bP H p (.ext (rngP p 0 j 1)))):=by
 intro aa s σ H xs us Q I r h;obtain⟨j,rfl,q⟩:=h;obtain⟨u,rfl,t,rfl⟩:=WV r;refine call_range_1 ?_;have hn:=I.hok.fresh (Ao s.heap.objs.size);refine⟨.ref s.heap.objs.size,_,I.laid (a:=s.heap.objs.size) (o:= .ext (rngP s.heap.objs.size 0 j 1)) (t':=s.toks+1+1) (fun _ _ z=>Ad _ z) (Ao _) ?_,rfl,q _ hn⟩;exact⟨⟨_,_,_,Rq ..⟩,⟨_,Au _ rfl⟩,fun h1 h2 ⟨t,u,v,z⟩ k=>⟨t,u,v,k _ z⟩⟩
theorem NZ(hc:X.calm=true):a8 X (.type "list") (fun xs H Q=> ∃(p:Addr) (j:Int),xs=[.ref p]/\H p=some (.ext (rngP p 0 j 1))/\(0<=j/\j<=16777216)/\ ∀l,H l=none->Q (.ref l) (bP H l (.lst ((Am j.toNat).map fun i:Nat=>V.int (0+i))))):=by
 intro aa s σ H xs us Q I r h;obtain⟨p,j,rfl,hp,hj,q⟩:=h;obtain⟨u,rfl,rx⟩:=WV r;cases rx;obtain⟨⟨t,u,v,z⟩,_⟩:=I.hok p _ hp;have hn:Hf 0 j 1=(j.toNat:Int):=by
  unfold Hf;rw[if_pos (by decide)];split
  ·rw[Int.ediv_one]
   lia
  ·lia
 have p62:(2:Int) ^ 62=4611686018427387904:=by decide
 have p24:(2:Nat) ^ 24=16777216:=by decide
 have sm:Rs 0 j 1=true:=small_one (a:=0) (b:=j) (by rw[p62];decide) (by rw[p62];decide) (by rw[p62];lia) (by rw[p62];lia);refine call_list_range (I.ok.hd hc) z sm hn (by rw[p24];lia) fun h' tk acc c kp hS hI=> ?_;have rv:=rngI hI;refine⟨.ref s.heap.objs.size,_,I.laid (a:=s.heap.objs.size) (o:= .lst ((Am j.toNat).map fun i:Nat=>V.int (0+i))) (t':=tk) kp (Ao _) ⟨?_,acc.toList,c,rv,by simpa using hS⟩,rfl,q _ (I.hok.fresh (Ao _))⟩;rw[Bf,Eo,Dc];lia
noncomputable def UN(f:VF):VF:=fun δ=>(f δ).bind fun p=>match p.1 with
 | .int j=>if 0<=j/\j<=16777216 then some (.lst (bZ 0 j.toNat),p.2) else none
 |_=>none
theorem zBT{N:Addr->Prop}(lo:Int)(n:Nat):cY K N H ((Am n).map fun i:Nat=>V.int (lo+i)) (bZ lo n):=by
 unfold bZ;induction (Am n) with
 |nil=>exact .nil
 |cons x xs ih=>exact .cons (.int _) ih
theorem ES{p1 p2 j4:Pos}(hc:X.calm=true)(hg:Gl X "list") (hm:X.mg "list"=none) (hv:Bj "list"=some (.type "list")) (hg2:Gl X "range") (hm2:X.mg "range"=none) (hv2:Bj "range"=some (.type "range")) (ha:PE X a (TV K ml pa ta ia fa))
  (he:Ak (a::[]) X.env=(false,eval a X.env)::Ak [] X.env:=by rfl) (he2:Ak (.Call (.Name "range" p2) [a] [] j4::[]) X.env=(false,eval (.Call (.Name "range" p2) [a] [] j4) X.env)::Ak [] X.env:=by rfl):
  PE X (.Call (.Name "list" p1) [.Call (.Name "range" p2) [a] [] j4] [] pos) (TN K ml pa (UN fa)):=
 (XM (NZ hc) hg hm hv (cK (XM JE hg2 hm2 hv2 (cK ha aP he) (by decide) (by decide) he) aP he2) (by decide) (by decide) he2).imp fun σ H Q hq0 => by
  obtain⟨B,O,δ,d,δ',S,q,k⟩:=hq0;unfold UN at q;obtain⟨⟨x,δ1⟩,h1,q⟩:=Aa.mp q;cases x with
  |int j=>
   have q:(if 0<=j/\j<=16777216 then some (dP.lst (bZ 0 j.toNat),δ1) else none)=some (d,δ'):=q;split at q
   ·rename_i hj
    cases q;refine⟨B,O,δ,_,_,S,h1,fun v1 H1 R1=> ?_⟩;have r1:=R1.rep;cases r1;refine⟨j,rfl,fun p hp=>⟨p,j,rfl,c0,hj,fun l hl=> ?_⟩⟩;have sm:bR H1 (bP H1 p (.ext (rngP p 0 j 1))):=dJ hp;exact k l _ (mkN (R1.sta.same sm) (R1.frm.trans sm.fr) (fun z=>(R1.pur z).trans sm) hl (zBT 0 j.toNat))
   ·cases q
  |_=>cases q
end
section
variable{X:Cx}{K:As}{ml:List Nat}{e a b c:Expr}{es:List Expr}{pa ta ia pb tb ib pc tc ic pu bt bi ps bs:Bool}{fa fb fc f:VF}{B B':Bs}{O:Nat->Option Addr}{H H0 H1 H':Hp}{σ:St}{δ δ':Ev}{v:V}{d:dP}{p:Addr}{pos:Pos}
noncomputable def WI(n:Int):List Int->Option Nat
 |[]=>none
 |i::ns=>if i=n then some 0 else(WI n ns).map (· +1)
theorem NF{n:Int}: ∀{ns:List Int} {j:Nat},WI n ns=some j->ns[j]? =some n/\ ∀m,m<j->ns[m]? ≠some n
 |[],_,h=>by cases h
 | i :: ns,j,h => by
  unfold WI at h;split at h
  ·rename_i hi
   cases h;exact⟨by rw[hi];rfl,fun m hm=>absurd hm (Py _)⟩
  ·rename_i hi
   obtain⟨k,h1,h⟩:=Aq.mp h;cases h;obtain⟨h2,h3⟩:=NF h1;refine⟨by simpa using h2,fun m hm=> ?_⟩;cases m with
   |zero=>simpa using hi
   |succ m=>simpa using h3 m (Nat.lt_of_succ_lt_succ hm)
theorem K0{ns:List Int}{us:List Value}(r:cG (ns.map V.int) us){m:Nat}{u:Value}(h:us[m]? =some u): ∃i t,ns[m]? =some i/\u= .int i t:=by
 have hl:=r.length;rw[Bf] at hl;have hm:m<us.length:=(Ag.mp h).1;have e:(ns.map V.int)[m]? =some (.int ns[m]):=by simp[hl▸hm]
 obtain⟨u',e1,t,e2⟩:=r.get e;rw[h] at e1;cases e1;exact⟨ns[m],t,by simp[hl▸hm],e2⟩
noncomputable def OS(n:Int):Value->Bool
 | .int i _=>i==n
 |_=>false
theorem zAT{ns:List Int}{its:List Value}{n:Int}{j:Nat}(r:cG (ns.map V.int) its)(h:WI n ns=some j):
  ∃hj:j<its.toArray.size,OS n its.toArray[j]=true/\(∀m (hm:m<its.toArray.size),m<j->OS n its.toArray[m]=false):=by
 obtain⟨h1,h2⟩:=NF h;have hl:=r.length;rw[Bf] at hl;have hj:j<ns.length:=(Ag.mp h1).1;have at_: ∀(m:Nat) (hm:m<its.toArray.size),∃i t,ns[m]? =some i/\its.toArray[m]= .int i t:=fun m hm=>by
  have hm':m<its.length:=by simpa using hm
  exact K0 r (u:=its.toArray[m]) (by simp[hm'])
 refine⟨by simpa[<- hl] using hj,?_,fun m hm hmj=> ?_⟩
 ·obtain ⟨i,t',e1,e2⟩ := at_ j (by simpa [<- hl] using hj)
  rw[h1] at e1;cases e1;rw[e2];simp[OS]
 ·obtain⟨i,t',e1,e2⟩:=at_ m hm
  have:=h2 m hmj;rw[e1] at this;rw[e2];exact beq_eq_false_iff_ne.mpr fun z=>this (by rw[z])
theorem zAS{ns:List Int}{its:List Value}(r:cG (ns.map V.int) its){y:Value}(hy:y∈its.toArray): ∃i t,y= .int i t:=by
 obtain⟨m,hm,rfl⟩:=Array.mem_iff_getElem.mp hy;have hm':m<its.length:=by simpa using hm
 obtain⟨i,t,_,e⟩:=K0 r (m:=m) (u:=its.toArray[m]) (by simp[hm']);exact⟨i,t,e⟩
def A2(K:As):V->List V->Hp->VK->Prop:=fun x vs H Q=> ∃(l:Addr) (ns:List Int) (n:Int) (j:Nat),x= .ref l/\vs=[.int n]/\X1 K H l (ns.map V.int)/\WI n ns=some j/\Q (.int j) H
theorem D0:MtM X "list.index" (A2 X.K):=by
 intro aa s σ H x vs v us Q I rx rv h;obtain⟨l,ns,n,j,rfl,rfl,hq,hj,q⟩:=h;cases rx;obtain⟨u,rfl,t,rfl⟩:=rv.one;obtain⟨its,r,⟨o,c,e,hc,hd,d9⟩,hz⟩:=I.list hq;obtain⟨cls,dd,data,sl⟩:=o;simp only at hc hd d9;subst hc hd d9;obtain⟨hjs,h1,h2⟩:=zAT r hj;have hl:=r.length;refine Nu F.slot_list_index ⟨_,e,rfl⟩ F.entry_list_index (F.args_list_index_2 _ _) (SeqAt.list_indexAt l its.toArray c none sl (.int n t) (OS n) j hjs (by
  have h3:its.length<=16777216:=by rw[<- hl,<- Dc];exact hz
  have h4:j<its.length:=by simpa using hjs
  lia) h1 h2) ⟨e,?_,?_⟩
 ·intro y hy
  obtain⟨i,t',rfl⟩:=zAS r hy;exact SeqAt.EqAt.int_int i t' n t
 ·exact⟨.int j,H,I.tok _,⟨_,rfl⟩,q⟩
theorem zGP(h:X.K=K):MtM X "list.index" (A2 K):=by subst h;exact D0
noncomputable def HM:dP->dP->Option dP
 | .lst ds,.int n=>(YZ ds).bind fun ns=>(WI n ns).map fun j=> .int j
 |_,_=>none
theorem B7{am af:Pos}(hK:X.K=K)(ha:PE X a (TV K ml pa ta ia fa))(hb:PE X b (TV K ml pb tb ib fb))
  (cp:Hi a "index" X.env (eval a X.env)=eval a X.env:=by rfl)
  (eg : ((Fw af (Ak (b :: []) X.env)).all (fun x => !x.1) && (Mw af (Ja [] X.env)).all (fun x => x.1.isSome)
   && decide ((b::([]:List Expr)).length+([]:List Jb).length+(if([]:List Jb).isEmpty then 0 else 1)<30))=true:=by rfl)
  (cg:(am.endLine==af.line)=true:=by rfl) (hs:Ak (b::[]) X.env=(false,eval b X.env)::Ak [] X.env:=by rfl) (bn:(Fw af (Ak [] X.env)).any (·.1)=false:=by rfl) (hl:(pb || (ta && ia))=true:=by rfl):
  PE X (.Call (.Attribute a "index" am) [b] [] af) (TV K ml (pa && pb) true true (f2 HM fa fb)):=
 (kBm (K := K) hK Kp PySem.F.slot_list_index PySem.F.type_list_index (zGP hK) ha (cK hb aP hs) cp eg cg hs bn).imp fun σ H Q hq0 => by
  obtain⟨B,O,δ,d,δ2,S,q,k⟩:=hq0;obtain⟨x,δ1,y,h1,h2,h3⟩:=RK q;refine⟨B,O,δ,x,δ1,S,h1,fun v1 H1 R1=> ?_⟩;cases x with
  |lst ds=>
   cases y with
   |int n=>
    have h3:((YZ ds).bind fun ns=>(WI n ns).map fun j=>dP.int j)=some d:=h3;obtain⟨ns,h4,h3⟩:=Aa.mp h3;have h3:(WI n ns).map (fun j=>dP.int j)=some d:=h3;cases h5:WI n ns with
    |none=>rw[h5] at h3;cases h3
    |some j=>
     rw[h5] at h3;cases h3;obtain⟨l,xs,rfl,sq,_⟩:=R1.rep.lstE;refine⟨.inl ⟨rfl,xs,sq⟩,B,O,δ1,_,δ2,R1.sta,h2,fun v2 H2 R2=> ?_⟩;have r2:=R2.rep;cases r2;obtain⟨l',xs',e1,sq',r'⟩:=(R2.live hl R1.rep).lstE;cases e1;have:=SQ r' h4;subst this;exact⟨l,ns,n,j,rfl,rfl,sq',h5,k _ H2 ⟨R2.sta,R1.frm.trans R2.frm,fun z=>by
      obtain⟨z1,z2⟩:=(Ae _ _).mp z;exact(R1.pur z1).trans (R2.pur z2),.int _⟩⟩
   |_=>cases h3
  |_=>cases h3
def F3:V->List V->Hp->VK->Prop:=fun x vs H Q=> ∃(l:Addr) (ns:List Int) (n:Int) (j:Nat),x= .ref l/\vs=[.int n]/\H l=some (.lst (ns.map V.int))/\WI n ns=some j/\Q .non (bP H l (.lst ((ns.eraseIdx j).map V.int)))
theorem MZ{α β:Type}(g:α->β): ∀(l:List α) (j:Nat),(l.map g).eraseIdx j=(l.eraseIdx j).map g
 |[],_=>by simp
 |_::_,0=>by simp
 |x::l,j+1=>by simp[MZ g l j]
theorem D2:MtM X "list.remove" F3:=by
 intro aa s σ H x vs v us Q I rx rv h;obtain⟨l,ns,n,j,rfl,rfl,hH,hj,q⟩:=h;cases rx;obtain⟨u,rfl,t,rfl⟩:=rv.one;obtain⟨z,its,c,r,hl,e⟩:=I.lstM hH;obtain⟨hjs,h1,h2⟩:=zAT r hj;refine Nu F.slot_list_remove ⟨_,e,rfl⟩ F.entry_list_remove (F.args_list_remove_2 _ _) (MeetsSeq.list_remove l its.toArray c (.int n t) (OS n) (fun y hy=> ?_) j hjs h1 h2 (by rw[Av,<- hl];exact z)) ⟨e,?_⟩
 ·obtain⟨i,t',rfl⟩:=zAS r hy
  exact Rn i n t' t
 ·have hlj : j < its.length := by simpa using hjs
  refine⟨.non,_,I.lset (its':=its.eraseIdx j) hH e (by simp[Array.eraseIdxIfInBounds,hlj]) (ys:=(ns.eraseIdx j).map V.int) ?_ ?_,rfl,q⟩
  ·have:=cG.eraseIdx j r
   rwa[MZ] at this
  ·rw[Bf]
   have h1:=List.length_eraseIdx_le ns j;rw[Bf] at z;lia
noncomputable def mRem:List dP->List dP->Option (List dP)
 |ds,[.int n]=>(YZ ds).bind fun ns=>(WI n ns).map fun j=>(ns.eraseIdx j).map dP.int
 |_,_=>none
theorem zGE:MuV K F3 mRem:=by
 intro H N l xs vs ds es ds' Q hl hN rx re h k;cases re with
 |nil=>cases h
 | @cons v vs d es hd t=>
  cases t with
  |cons _ _=>cases d<;>cases h
  |nil=>
   cases d with
   |int n=>
    cases hd;have h:((YZ ds).bind fun ns=>(WI n ns).map fun j=>(ns.eraseIdx j).map dP.int)=some ds':=h;obtain⟨ns,h4,h⟩:=Aa.mp h;have h:(WI n ns).map (fun j=>(ns.eraseIdx j).map dP.int)=some ds':=h;obtain⟨j,h5,h⟩:=Aq.mp h;cases h;have:=SQ rx h4;subst this;exact⟨l,ns,n,j,rfl,rfl,hl,h5,k _ _ (KI _)⟩
   |_=>cases h
end
section
variable{X:Cx}{K:As}{ml:List Nat}{e:Expr}{es:List Expr}{pu bt bi bs:Bool}{f:VF}{fs:N8}
theorem dG(h:PE X e (TV K ml pu bt bi f))(hb:(bt && bi)=true:=by rfl):PE X e (TV K ml pu true true f):=by
 obtain⟨h1,h2⟩:=(Ae _ _).mp hb;subst h1 h2;exact h
theorem GL(h:PE X e (TV K ml pu bt bi f))(hb:bi=true:=by rfl):PE X e (TV K ml pu bt true f):=by
 subst hb;exact h
theorem cV(h:PA X es (TAV K ml pu bs fs))(hb:bs=true:=by rfl):PA X es (TAV K ml pu true fs):=by
 subst hb;exact h
theorem P4{st:Stmt}:PS X st (UE K ml fun _=>none):=fun _ _ _ _ _ _ ⟨_,_,_,_,_,q,_⟩=>nomatch q
variable{a b c:Expr}{pa ta ia pb tb ib pc tc ic:Bool}{fa fb fc:VF}{pos:Pos}{δ:Ev}
end
section
variable{X:Cx}{K:As}{ml:List Nat}{e a b c:Expr}{pa ta ia pb tb ib pu:Bool}{fa fb fc f:VF}{B:Bs}{O:Nat->Option Addr}{H H':Hp}{σ:St}{δ δ':Ev}{v:V}{d:dP}{p:Addr}{pos:Pos}{ks:List (Option Expr)}{vs:List Expr}
theorem M7: ∀{more acc:List (b9×V)},((acc++more).map Ct).Nodup->O0 acc more=acc++more
 |[],acc,_=>by simp[O0]
 | (k,v) :: more,acc,nd => by
  have hk: ∀q∈acc,q.1≠k:=fun q hq z=>by
   rw[Dn,Ar] at nd;exact(Ke.mp nd).2.2 q.1 (List.mem_map_of_mem hq) k (by simp) z
  have hn:UH acc k=none:=by
   unfold UH;rw[List.find?_eq_none.mpr fun q hq=>by simpa using hk q hq];rfl
  show O0 (X3 acc k v) more=_;rw[AW v hn,M7 (by simpa using nd)];simp
end
theorem UZ: ∀(names:List (Str×NameKind)) (n:Nat) (acc:List (Str×Addr)),cellsFrom n names acc=cellsFrom n names []++acc
 |[],_,_=>rfl
 | (x,k) :: r,n,acc => by
  unfold cellsFrom;split
  ·rw[UZ r (n+1) ((x,n)::acc),UZ r (n+1) [(x,n)]]
   simp
  ·exact UZ r n acc
theorem LP: ∀{names:List (Str×NameKind)} {n:Nat} {x:Str} {c:Addr},(x,c)∈cellsFrom n names []->(x,Bx)∈names
 |[],_,_,_,h=>nomatch h
 | (y,k) :: r,n,x,c,h => by
  unfold cellsFrom at h;split at h
  ·rename_i hk
   rw[UZ] at h;rcases Cc.mp h with h|h
   ·exact Ah _ (LP h)
   ·cases Ax.mp h
    rw[show k=Bx from beq_iff_eq.mp hk];exact Ai
  ·exact Ah _ (LP h)
theorem LO: ∀{names:List (Str×NameKind)} {n:Nat} {x:Str},(x,Bx)∈names-> ∃c,(x,c)∈cellsFrom n names []
 | (y,k) :: r,n,x,h => by
  unfold cellsFrom;rcases Al.mp h with e|h
  ·cases e
   rw[if_pos (by decide),UZ];exact⟨n,Ay _ (Ax.mpr rfl)⟩
  ·split
   ·rw[UZ]
    obtain⟨c,hc⟩:=LO (n:=n+1) h;exact⟨c,Bo _ hc⟩
   ·exact LO h
theorem T2: ∀{l:List (Str×Addr)} {x:Str} {c:Addr},(x,c)∈l-> ∃c',l.lookup x=some c'
 | (y,d) :: r,x,c,h => by
  rw[Cj];cases hb:x==y with
  |true=>exact⟨d,rfl⟩
  |false=>
   rcases Al.mp h with e|h
   ·cases e
    simp at hb
   ·exact T2 h
theorem bJ: ∀{l m:List (Str×Addr)} {x:Str} {c:Addr},(l++m).lookup x=some c->l.lookup x=some c∨(l.lookup x=none/\m.lookup x=some c)
 |[],_,_,_,h=> .inr ⟨rfl,h⟩
 |(y,d)::r,m,x,c,h=>by
  rw[Fy,Cj] at h;rw[Cj];cases hb:x==y with
  |true=>rw[hb] at h;exact .inl h
  |false=>rw[hb] at h;exact bJ h
theorem XC: ∀{l m:List (Str×Addr)} {x:Str},l.lookup x=none->(l++m).lookup x=m.lookup x
 |[],_,_,_=>rfl
 |(y,d)::r,m,x,h=>by
  rw[Cj] at h;rw[Fy,Cj];cases hb:x==y with
  |true=>rw[hb] at h;cases h
  |false=>rw[hb] at h;exact XC h
theorem Q5{M:Model}{A:Cy}{E:Value->Af->Prop}{s:Af}{scope:Scope}{globals:Addr}{ev:List (Str×Addr)}{qual:Str}{outer:Env}{Q:Env->Af->Prop}
  (hQ:Q (newEnv scope s.heap.objs.size globals (cellsFrom (s.heap.objs.size+1) scope.names ev) qual none .none (some outer) builtinsNs) {s with heap:=Kf (s.heap.push {cls:= .type "dict",data:= .dict #[]}) scope.names}):
  wpAny M A (Jw scope globals ev [] qual none .none (some outer)) Q E s:=by
 simp only[Jw,Mx,if_true];refine Ac (wpAny_alloc ?_);refine Ac (wpAny_layCells _ (fun name kind cells=>by cases hkc:kind==Bx<;>simp[hkc]) _ _ _ _ ?_);rw[show({s with heap:=s.heap.push {cls:= .type "dict",data:= .dict #[]}}:Af).heap.objs.size=s.heap.objs.size+1 from Co ..];rw[Mf];exact Ac (Aj (Aj hQ))
theorem X5: ∀{l m:List (Str×Addr)} {x:Str} {c:Addr},l.lookup x=some c->(l++m).lookup x=some c
 |(y,d)::r,m,x,c,h=>by
  rw[Cj] at h;rw[Fy,Cj];cases hb:x==y with
  |true=>rw[hb] at h;exact h
  |false=>rw[hb] at h;exact X5 h
structure VZ(X:Cx)(N':List Str)(ix:List Nat)(scope:Scope):Prop where
 kind:scope.kind= .function
 cel: ∀y∈scope.names,y.2= .cell->scope.names.lookup y.1=some .cell
 names: ∀y∈scope.names,y.2= .local->scope.names.lookup y.1=some .local
 free: ∀y∈scope.names,y.2= .free->X.env.kindOf y.1=some .cell∨X.env.kindOf y.1=some .free
 nd:N'.Nodup
 cap: ∀j,j<ix.length->N'[j]? =(ix[j]?).bind fun i=>X.N[i]?
 capf: ∀x∈N'.take ix.length,scope.names.lookup x=some .free
noncomputable def cJ(X:Cx)(N':List Str)(scope:Scope)(cl:List (Str×Addr))(s1:Af)(H1:Hp)(fp:List Addr):Cx:=
 {X with N:=N',s₀:=s1,H₀:=H1,env:=Pg scope cl s1.heap.objs.size X.env,outer:=X.stack,stack:=X.stack,ex:=fp,fn:=fun x=>scope.names.lookup x==some Bx,pn:=[],xe:=fun _ _=>False}
theorem XY{env:Env}{x:Str}: ∀{l:List (Str×NameKind)},
  ((l.map fun(n,k)=>if(k==Bp && env.scope.kind== .function && env.kindOf n==some .cell) then(n,Bx) else(n,k)).lookup x=some .cell∨
  (l.map fun(n,k)=>if(k==Bp && env.scope.kind== .function && env.kindOf n==some .cell) then(n,Bx) else(n,k)).lookup x=some .free)->(x,Bp)∈l∨(x,Bx)∈l
 |[],h=>by rcases h with z|z<;>cases z
 | (n,k) :: r,h => by
  have h:Mk x ((if(k==Bp && env.scope.kind== .function && env.kindOf n==some .cell)=true then(n,Bx) else(n,k))::r.map fun(n,k)=>if(k==Bp && env.scope.kind== .function && env.kindOf n==some .cell) then(n,Bx) else(n,k))=some .cell∨
   Mk x ((if(k==Bp && env.scope.kind== .function && env.kindOf n==some .cell)=true then(n,Bx) else(n,k))::r.map fun(n,k)=>if(k==Bp && env.scope.kind== .function && env.kindOf n==some .cell) then(n,Bx) else(n,k))=some .free:=h
  by_cases hc:(k==Bp && env.scope.kind== .function && env.kindOf n==some .cell)=true
  ·rw[if_pos hc] at h
   by_cases hx:x=n
   ·subst hx
    have hk:k= .free:=by
     simp only[Ae] at hc;exact beq_iff_eq.mp hc.1.1
    subst hk;exact .inl Ai
   ·have hb:(x==n)=false:=beq_eq_false_iff_ne.mpr hx
    simp only[Cj,hb] at h;rcases XY (env:=env) h with z|z
    ·exact .inl (Ah _ z)
    ·exact .inr (Ah _ z)
  ·rw[if_neg hc] at h
   by_cases hx:x=n
   ·subst hx
    rw[Dt] at h;rcases h with z|z
    ·cases z;exact .inr Ai
    ·cases z;exact .inl Ai
   ·have hb:(x==n)=false:=beq_eq_false_iff_ne.mpr hx
    simp only[Cj,hb] at h;rcases XY (env:=env) h with z|z
    ·exact .inl (Ah _ z)
    ·exact .inr (Ah _ z)
theorem OE{X:Cx}{aa:List (Addr×Obj)}{σ:St}{H2:Hp}{s2:Af}{E:Value->Af->Prop}{tg iter elt:Expr}{ifs:List Expr}{scope:Scope}{pos:Pos}{N':List Str}{ix:List Nat}{nl:Nat}{g:TG}{tt:TT}{te:TE}
  {cl:List (Str×Addr)} {J:It} {fp:List Addr} {it:Addr} {tn:Nat->Heap->Prop} {Q:V->Hp->Prop} {RR:Value->Addr->Oh->Af->Prop}
  (hc:X.calm=true) (S:VZ X N' ix scope) (hnl:N'.length=ix.length+nl)
  (bo: ∀x c,cl.lookup x=some c->X.env.cells.lookup x=some c) (gd: ∀x,(x,Bp)∈scope.names-> ∃c,cl.lookup x=some c)
  (blk: ∀(cl:List (Str×Addr)) (s1:Af) (H1:Hp) (fp:List Addr),Blk (cJ X N' scope cl s1 H1 fp) tg ifs elt g tt te)
  (I2:c6 X aa σ H2 s2) (T:IZ X.prog X.w X.K tg J fp it tn) (st2:tn 0 s2.heap) (f2: ∀b∈fp,RB X aa H2 b)
  (h: ∀D,H2 D=none->zDW D ix nl J g tt te σ H2 fun H'=>Q (.ref D) H')
  (fin: ∀(D C:Addr) (s':Af) (H':Hp),c6 X aa σ H' s'->(∃m,s'.heap.Ns C m)->C≠X.env.locals->(∀x c,X.env.cells.lookup x=some c->c≠C)→
   (∀(σ':St) (s'':Af) (h'':Heap),c6 X aa σ' H' s''->Fb C s''.heap h''->c6 X aa σ' H' {s'' with heap:=h''})->Q (.ref D) H'->RR (.ref D) C (.ok .next) s'):
  wpAny (model X.prog X.w) X.A (Pz []) (fun acc s₃=>wpAny (model X.prog X.w) X.A (Jw scope X.env.globals cl [] X.env.qual none .none (some X.env)) (fun gf s₄=>
   Ga (model X.prog X.w) X.A (.compStart (.ListComp elt [⟨tg,iter,ifs,0⟩] scope pos) 0 (.ref it) acc {gf with scope:=relabel scope X.env}) (RR acc gf.locals) s₄) E s₃) E s2:=by
 refine Cu (Q5 ?_);dsimp only;have I1:c6 X aa σ (bP H2 s2.heap.objs.size (.lst [])) {s2 with heap:=s2.heap.push {cls:= .type "list",dict:=none,data:= .seq ([]:List Value).toArray}}:=
  I2.lnew (t':=s2.toks) (ys:=[]) (its:=[]) .nil (Dd _)
 have hDn:H2 s2.heap.objs.size=none:=I2.hok.fresh (Ao _);obtain⟨W,⟨m0,w0⟩,turn⟩:=h _ hDn;generalize hs1:({s2 with heap:=s2.heap.push {cls:= .type "list",dict:=none,data:= .seq ([]:List Value).toArray}}:Af)=s1 at I1;have cj:s2.heap.push {cls:= .type "list",dict:=none,data:= .seq ([]:List Value).toArray}=s1.heap:=by rw[<- hs1]
 rw[cj];have old: ∀b o,s1.heap.get? b=some o->(Kf (s1.heap.push {cls:= .type "dict",data:= .dict #[]}) scope.names).get? b=some o:=fun b o e=>Ji _ _ _ _ (Ad _ e);have hns₁:(Kf (s1.heap.push {cls:= .type "dict",data:= .dict #[]}) scope.names).Ns s1.heap.objs.size (fun _=>none):=(Rt s1.heap (.type "dict")).keeps fun b o e=>Ji _ _ _ _ e;have okc:=cellsFrom_ok scope.names (s1.heap.push {cls:= .type "dict",data:= .dict #[]}) (s1.heap.objs.size+1) [] ⟨fun _ _ hm=>(nomatch hm),Ka⟩ (by rw[Co];exact Ao _);rw[Co] at okc;generalize hz1:Kf (s1.heap.push {cls:= .type "dict",data:= .dict #[]}) scope.names=h₁ at old hns₁ okc;rw[UZ];generalize hnc:cellsFrom (s1.heap.objs.size+1) scope.names []=nc at okc;have ncm: ∀x c,nc.lookup x=some c->(x,Bx)∈scope.names/\h₁.IsCell c none/\s1.heap.objs.size+1<=c:=fun x c e=>by
  have hm:=Bt e;exact⟨LP (n:=s1.heap.objs.size+1) (by rw[hnc];exact hm),okc.empty x c hm⟩
 have nch: ∀x,(x,Bx)∈scope.names-> ∃c,nc.lookup x=some c:=fun x h=>by
  obtain⟨c,hc⟩:=LO (n:=s1.heap.objs.size+1) h;rw[hnc] at hc;exact T2 hc
 have eo: ∀b∈fp,b<s2.heap.objs.size:=fun b hb=>by
  obtain⟨o,e,_⟩:=T.obj _ _ st2 b hb;exact An e
 have g8:s1.heap.objs.size=s2.heap.objs.size+1:=by rw[<- cj,Co]
 have iz: ∀b o,s2.heap.get? b=some o->s1.heap.get? b=some o:=fun b o e=>by rw[<- cj];exact Ad _ e
 have cm: ∀x c,cl.lookup x=some c->c<s1.heap.objs.size:=fun x c e=>by
  obtain⟨v,q⟩:=I1.cell x c (bo x c e);exact q.lt
 have np: ∀b∈DO X.stack,b<s1.heap.objs.size:=fun b hb=>by
  obtain⟨_,o,ho,_⟩:=(I1.stack).mem hb;exact An ho
 have okY:(cJ X N' scope (nc++cl) s1 (bP H2 s2.heap.objs.size (.lst [])) fp).Ok:=by
  refine⟨I1.ok.mod,S.kind,I1.ok.glob,I1.ok.blt,Ao _,fun x y c e1 e2=> ?_,fun x hx=> ?_,fun x c hf e=> ?_,I1.ok.hd,I1.ok.frames,.inl rfl,fun b hb=>⟨?_,fun x c e=> ?_⟩,fun b o e=> ?_,
   Cf I1.ok.bsz I1.sz,fun b o e hb=> ?_,fun b hb hb2=> ?_,I1.stack,I1.stkFree⟩
  ·rcases bJ e1 with n1|⟨_,o1⟩
   ·rcases bJ e2 with n2|⟨_,o2⟩
    ·exact Nc okc.apart (Bt n1) (Bt n2)
    ·exact absurd (Ba (cm y c o2) (Ee (ncm x c n1).2.2)) (Bz _)
   ·rcases bJ e2 with n2|⟨_,o2⟩
    ·exact absurd (Ba (cm x c o1) (Ee (ncm y c n2).2.2)) (Bz _)
    ·exact I1.ok.inj x y c (bo x c o1) (bo y c o2)
  ·cases q:nc.lookup x with
   |some c=>exact⟨c,X5 q⟩
   |none=>
    rcases XY hx with h|h
    ·obtain⟨c,hc⟩:=gd x h
     exact⟨c,(XC q).trans hc⟩
    ·obtain⟨c,hc⟩:=nch x h
     rw[q] at hc;cases hc
  ·have hx:(x,Bx)∈scope.names:=Bt (beq_iff_eq.mp hf)
   obtain⟨c',hc'⟩:=nch x hx;have:=X5 (m:=cl) hc';have e:(nc++cl).lookup x=some c:=e;rw[this] at e;cases e;exact Ee (ncm x c hc').2.2
  ·exact Be (Ba (eo b hb) (by show s2.heap.objs.size<=s1.heap.objs.size;rw[g8];exact Gy _))
  ·rcases bJ e with n1|⟨_,o1⟩
   ·have h1:=eo b hb
    have h2:=(ncm x c n1).2.2;rw[g8] at h2;exact fun z=>absurd (z▸h2) (Pb (Ba h1 (Cf (Gy _) (Gy _))))
   ·exact(f2 b hb).2.2.2.2.1 x c (bo x c o1)
  ·exact I1.bs b o e
  ·have:=(f2 b hb)
   obtain⟨o',e',_⟩:=T.obj _ _ st2 b hb;have hlt:=Ba (An e) I1.ok.bsz;rcases this.2.2.2.1 with z|z
   ·exact I1.ok.noex b o e z
   ·exact absurd (Ba hlt z) (Bz _)
  ·rcases Al.mp (I1.stkSub b hb2) with z|z
   ·exact(f2 b hb).2.1 z
   ·exact(f2 b hb).2.2.1 z
 have dk:(bO ix σ++Bi nl none).length=N'.length:=by rw[Bv,Ie,hnl];simp[bO]
 have IY:c6 (cJ X N' scope (nc++cl) s1 (bP H2 s2.heap.objs.size (.lst [])) fp) [] (bO ix σ++Bi nl none) (bP H2 s2.heap.objs.size (.lst [])) {s2 with heap:=h₁}:=by
  refine⟨okY,?_,I2.bare,Un.kept old,⟨_,hns₁,fun j x v e1 e2 e3=> ?_⟩,fun x c e=> ?_,I1.hok.fresh (Ao _),fun x c e=> ?_,fun p hp=>absurd (show p∈([]:List (Addr×Obj)) from hp) (by simp),I1.hok.kept old,dk⟩
  ·show s2.os=s1.os
   rw[<- hs1]
  ·have hj:j<ix.length:=by
    by_cases hj:j<ix.length
    ·exact hj
    ·exfalso
     have hl:(bO ix σ).length=ix.length:=by simp[bO]
     rw[Ci (by rw[hl];lia),Cp] at e2;split at e2<;>cases e2
   have hl:(bO ix σ).length=ix.length:=by simp[bO]
   rw[Ap (by rw[hl];exact hj)] at e2;have hci:=S.cap j hj;obtain⟨i,hi⟩: ∃i,ix[j]? =some i:=⟨ix[j],by simp[hj]⟩;rw[hi] at hci;have hNi:X.N[i]? =some x:=by
    have:N'[j]? =X.N[i]? :=hci;rw[<- this];exact e1
   have hσ:σ[i]? =some (some v):=by
    unfold bO at e2;rw[Cv,hi] at e2;have e2':(σ[i]?).join=some v:=by simpa using e2
    cases q:σ[i]? with
    |none=>rw[q] at e2';cases e2'
    |some o=>rw[q] at e2';rw[show o=some v from e2']
   have hfl:scope.names.lookup x=some .free:=S.capf x (by
    rw[Ij];exact⟨j,by rw[Ch hj];exact e1⟩)
   have az:(x,Bp)∈scope.names:=Bt hfl;have hpk:X.env.kindOf x=some .cell∨X.env.kindOf x=some .free:=by exact S.free (x,.free) az rfl
   have j6:Vis X.env.scope x:=by
    rcases hpk with z|z
    ·exact .inr (.inl z)
    ·exact .inr (.inr z)
   obtain⟨m,hn,j8⟩:=I1.loc;obtain⟨u,ru,l⟩:=j8 i x v hNi hσ j6;refine⟨u,ru,?_⟩;rcases l with⟨hk,_⟩|⟨hk,c,ec,z⟩
   ·rcases hpk with q|q<;>rw[hk] at q<;>cases q
   ·obtain⟨c',hc'⟩:=gd x az
    have:c'=c:=by
     have:=bo x c' hc';rw[ec] at this;exact(Cb this).symm
    subst this;have j7:nc.lookup x=none:=by
     cases q:nc.lookup x with
     |none=>rfl
     |some d=>
      have:=S.cel (x,.cell) (ncm x d q).1 rfl;rw[hfl] at this;cases this
    refine .inr ⟨WJ hfl,c',(XC j7).trans hc',?_⟩
    ·obtain⟨o,ho,hd⟩:=z
     exact⟨o,old _ _ ho,hd⟩
  ·rcases bJ e with n1|⟨_,o1⟩
   ·exact⟨none,(ncm x c n1).2.1⟩
   ·obtain⟨v,o,ho,hd⟩:=I1.cell x c (bo x c o1)
    exact⟨v,o,old _ _ ho,hd⟩
  ·rcases bJ e with n1|⟨_,o1⟩
   ·exact I1.hok.fresh (Ee (ncm x c n1).2.2)
   ·exact I1.freeC x c (bo x c o1)
 have jb: ∀{pY:List (Addr×Obj)} {σ':St} {H':Hp} {s':Af},c6 (cJ X N' scope (nc++cl) s1 (bP H2 s2.heap.objs.size (.lst [])) fp) pY σ' H' s'->c6 X aa σ H' s':=fun{pY σ' H' s'} J'=>
  I1.call' J'.os J'.base J'.hok J'.bare fun b hb=>⟨(f2 b hb).2.2.2.1,(f2 b hb).2.1,(f2 b hb).2.2.2.2.1,(f2 b hb).2.2.2.2.2⟩
 have stat: ∀{H':Hp} {pY:List (Addr×Obj)},(∀b∈fp,H' b=none)->pY=[]-> ∀b∈fp,RB (cJ X N' scope (nc++cl) s1 (bP H2 s2.heap.objs.size (.lst [])) fp) pY H' b:=fun{H' pY} hn hp b hb=>by
  subst hp;refine⟨hn b hb,(okY.exf b hb).1,okY.exfs b hb,.inl hb,(okY.exf b hb).2,fun p hp=>absurd (show p∈([]:List (Addr×Obj)) from hp) (by simp)⟩
 have st1:tn 0 h₁:=T.keep 0 s2.heap h₁ st2 fun b hb o e=>old b o (iz b o e);have fr1: ∀b∈fp,(bP H2 s2.heap.objs.size (.lst [])) b=none:=fun b hb=>by
  rw[cE (Be (eo b hb))];exact(f2 b hb).1
 have loop: ∀s₃:Af,s₃={s2 with heap:=h₁}→
   Ga (model X.prog X.w) X.A (.compLoop (.ListComp elt [⟨tg,iter,ifs,0⟩] scope pos) 0 (.ref it) (.ref s2.heap.objs.size) (Pg scope (nc++cl) s1.heap.objs.size X.env)) (RR (.ref s2.heap.objs.size) s1.heap.objs.size) s₃:=by
  rintro s₃ rfl;refine DF (fun n s'=> ∃i σ' H' acc,c6 (cJ X N' scope (nc++cl) s1 (bP H2 s2.heap.objs.size (.lst [])) fp) [] σ' H' s'/\σ'.take ix.length=bO ix σ/\tn i s'.heap/\(∀b∈fp,H' b=none)/\W i n acc H') ?_ m0
   ⟨0,_,_,[],IY,by rw[Cs (by simp[bO])];exact Ca (by simp[bO]),st1,fr1,w0⟩
  rintro n s' ⟨i,σ',H',acc,J',hσ,st',fr',w'⟩;have Jc:c6 (cJ X N' scope (nc++cl) s1 (bP H2 s2.heap.objs.size (.lst [])) fp) [] (bO ix σ++Bi nl none) H' s':=by
   refine J'.weak (by rw[dk];exact J'.len.symm) fun j v e=> ?_;have hl:(bO ix σ).length=ix.length:=by simp[bO]
   by_cases hj:j<ix.length
   ·rw [Ap (by rw [hl];exact hj),<- hσ,Ch hj] at e
    exact e
   ·rw [Ci (by rw [hl];lia),Cp] at e
    split at e<;>cases e
  rcases turn i n acc H' w' with⟨stop,q⟩|⟨go,N,hN,step⟩
  ·refine Az (T.done (cJ X N' scope (nc ++ cl) s1 (bP H2 s2.heap.objs.size (.lst [])) fp) rfl rfl rfl hc i [] s' _ H' (fun _ _ => False) Jc (stat fr' rfl) st' stop) (fun r s4 ⟨hr,I4⟩ => ?_) fun _ _ z => z
   subst hr;have IX:=jb I4;obtain⟨m,hm,_⟩:=I4.loc;exact fin _ _ s4 H' IX ⟨m,hm⟩ (Gg I1.lt) (fun x c e z=>by
    obtain⟨v,q⟩:=I1.cell x c e;have:=q.lt;rw[z] at this;exact Bz _ this) (fun σ'' s'' h'' I'' sb=>c6.offNew I1 I'' I4.free fun b o hb e=>(sb.2 b hb).trans e) q
  ·refine Az (T.item (cJ X N' scope (nc ++ cl) s1 (bP H2 s2.heap.objs.size (.lst [])) fp) rfl rfl rfl hc i [] s' _ H' (fun _ _ => False) Jc (stat fr' rfl) st' go) (fun r s4 ⟨u,hr,h4⟩ => ?_) fun _ _ z => z
   subst hr;refine Az h4 (fun _ s5 ⟨x,H5,I5,r5,y5,st5,fr5⟩=> ?_) fun _ _ z=>z;have I5':=I5.pinned (stat fr5 rfl) (T.obj _ _ st5);obtain⟨btg,bts,bel⟩:=blk (nc++cl) s1 (bP H2 s2.heap.objs.size (.lst [])) fp;refine Az (btg _ s5 _ H5 x u _ I5' r5 (step x H5 y5)) (fun _ s6 ⟨σ6,H6,I6,hσ6,q6⟩=> ?_) fun _ _ z=>z;have again: ∀{H7:Hp} {s7:Af} {ae:List V},c6 (cJ X N' scope (nc++cl) s1 (bP H2 s2.heap.objs.size (.lst [])) fp) ([]++T7 fp s5.heap) σ6 H7 s7->N ae H7→
     ∃m,m<n/\ ∃i σ' H' acc,c6 (cJ X N' scope (nc++cl) s1 (bP H2 s2.heap.objs.size (.lst [])) fp) [] σ' H' s7/\σ'.take ix.length=bO ix σ/\tn i s7.heap/\(∀b∈fp,H' b=none)/\W i m acc H':=fun{H7 s7 ae} I7 n7=>by
    obtain⟨m',hm,w7⟩:=hN ae H7 n7;refine⟨m',hm,i+1,σ6,H7,ae,I7.unpinned,hσ6,T.keep _ _ _ st5 fun b hb o e=>(I7.pin (b,o) (Ay _ (Ay _ (ZR hb e)))).1,fun b hb=> ?_,w7⟩;obtain⟨o,e,d⟩:=T.obj _ _ st5 b hb;exact(I7.pin (b,o) (Ay _ (Ay _ (ZR hb e)))).2.1
   refine Az (bts _ s6 σ6 H6 _ I6 q6) (fun okb s7 ⟨H7,I7,q7⟩=> ?_) fun _ _ z=>z;cases okb with
   |false=>exact again I7 q7
   |true=>
    refine Az (bel _ s7 σ6 H7 _ I7 q7) (fun v s8 ⟨y,H8,I8,r8,hD8,hz8,n8⟩=> ?_) fun _ _ z=>z;refine Az (bK (X:=cJ X N' scope (nc++cl) s1 (bP H2 s2.heap.objs.size (.lst [])) fp) _ s8 σ6 H8 (.ref s2.heap.objs.size) [y] (.ref s2.heap.objs.size) [v] (fun _ H9=>N (acc++[y]) H9) I8 rfl (.cons r8 .nil)
     ⟨s2.heap.objs.size,acc,y,rfl,rfl,hD8,hz8,n8⟩) (fun _ s9 ⟨_,H9,I9,_,n9⟩=>again I9 n9) fun _ _ z=>z
 have he:({newEnv scope s1.heap.objs.size X.env.globals (nc++cl) X.env.qual none .none (some X.env) builtinsNs with scope:=relabel scope X.env}:Env)=Pg scope (nc++cl) s1.heap.objs.size X.env:=rfl;exact Le (loop _ rfl) (T.self _ 0 _ _ _ st1 (loop _ rfl))
theorem J8{X:Cx}{tg iter elt:Expr}{ifs:List Expr}{scope:Scope}{pos:Pos}{N':List Str}{ix:List Nat}{nl:Nat}{wi:TI}{g:TG}{tt:TT}{te:TE}
  (hc:X.calm=true) (S:VZ X N' ix scope) (hnl:N'.length=ix.length+nl) (hi:PI X tg iter wi)
  (blk: ∀(cl:List (Str×Addr)) (s1:Af) (H1:Hp) (fp:List Addr),Blk (cJ X N' scope cl s1 H1 fp) tg ifs elt g tt te)
  (hs: ∀x,foldedSetIterable iter X.env x=pure x:=by intro _;rfl):PE X (.ListComp elt [⟨tg,iter,ifs,0⟩] scope pos) (GD ix nl wi g tt te):=by
 intro aa s σ H Q I h;rw[eval_ListComp];obtain⟨cl,e1,e2,e3⟩:=QB (env:=X.env) (scope:=scope) fun y hy hf=>I.ok.has y.1 (S.free y hy hf);refine Fq (use:=none) (cl:=cl) rfl hs e1 S.kind S.names (Az (hi aa s σ H _ I h) (fun xv s₁ h₁=>Az h₁ (fun itv s₂ h₂=> ?_) fun _ _ e=>e) fun _ _ e=>e);obtain⟨it,fp,tn,J,H2,e,I2,T,st2,f2,q⟩:=h₂;subst e;refine OE (Q:=Q) (RR:=fun acc C=>Rc (model X.prog X.w) X.A X.xe none (EP X aa σ Q) acc C) hc S hnl e2 e3 blk I2 T st2 f2 q ?_;intro D C s' H' I' hm hC1 hC2 hb hq;obtain⟨m,hm⟩:=hm;exact⟨m,hm,fun h'' sb=>⟨.ref D,H',hb σ s' h'' I' sb,rfl,hq⟩⟩
section
variable{X:Cx}{K:As}{ml:List Nat}{pi pt pe pu:Bool}{pos:Pos}{ix:List Nat}{nl:Nat}{f:VF}
noncomputable def U0(N N':List Str)(ix:List Nat)(names:List (Str×NameKind))(k:Str->Option NameKind):Bool:=
 names.all (fun y=>y.2 != .cell || names.lookup y.1==some .cell) && (names.all (fun y=>y.2 != .local || names.lookup y.1==some .local) && (names.all (fun y=>y.2 != .free || (k y.1==some .cell || k y.1==some .free)) &&
  (decide N'.Nodup && ((Am ix.length).all (fun j=>N'[j]? ==(ix[j]?).bind fun i=>N[i]?) && (N'.take ix.length).all fun x=>names.lookup x==some .free))))
theorem Z2{N':List Str}{scope:Scope}(hk:scope.kind= .function)(h:U0 X.N N' ix scope.names X.env.kindOf=true):VZ X N' ix scope:=by
 unfold U0 at h;simp only[Ae,Ei,Er,bne_iff_ne,beq_iff_eq,decide_eq_true_eq,Bk] at h;obtain⟨h1,h2,h3,h4,h5,h6⟩:=h;exact⟨hk,fun y hy e=>(h1 y hy).resolve_left fun z=>z e,fun y hy e=>(h2 y hy).resolve_left fun z=>z e,fun y hy e=>(h3 y hy).resolve_left fun z=>z e,h4,h5,h6⟩
abbrev BlkC(X:Cx)(K:As)(N':List Str)(ix:List Nat)(scope:Scope)(tg:Expr)(ifs:List Expr)(elt:Expr)(gg:VG)(pt:Bool)(tb:VB)(pe:Bool)(fe:VF):Prop:=N'.Nodup-> ∀(cl:List (Str×Addr)) (s1:Af) (H1:Hp) (fp:List Addr),Blk (cJ X N' scope cl s1 H1 fp) tg ifs elt (EV K (Am ix.length) gg) (TB K (Am ix.length) pt tb) (TV K (Am ix.length) pe true true fe)
theorem bQ{tg iter elt:Expr}{ifs:List Expr}{scope:Scope}{fi:VI}{gg:VG}{tb:VB}{fe:VF}(N':List Str)(ix:List Nat)(nl:Nat)(hi:PI X tg iter (GX K ml pi fi))(blk:BlkC X K N' ix scope tg ifs elt gg pt tb pe fe)(hc:X.calm=true:=by rfl)(hk:scope.kind= .function:=by rfl)(hok:U0 X.N N' ix scope.names X.env.kindOf=true:=by rfl)(hnl:N'.length=ix.length+nl:=by rfl)(hnd:ix.Nodup:=by decide)
  (hs: ∀x,foldedSetIterable iter X.env x=pure x:=by intro _;rfl):PE X (.ListComp elt [⟨tg,iter,ifs,0⟩] scope pos) (TN K ml (pi && pt && pe) (bW ix nl fi gg tb fe)):=
 (J8 hc (Z2 hk hok) hnl hi (blk (Z2 hk hok).nd) hs).imp fun _ _ _ h=>GH hnd h
theorem KC{i:Nat}{y:Str}{py bq:Pos}{tg iter elt:Expr}{ifs:List Expr}{scope:Scope}{N':List Str}{wi:TI}{g:TG}{tt:TT}{te:TE}
  (hN:X.N.Nodup) (hi':X.N[i]? =some y) (hy:X.env.scope.names.lookup y=some .local)
  (hc:X.calm=true) (S:VZ X N' ix scope) (hnl:N'.length=ix.length+nl) (hi:PI X tg iter wi)
  (blk: ∀(cl:List (Str×Addr)) (s1:Af) (H1:Hp) (fp:List Addr),Blk (cJ X N' scope cl s1 H1 fp) tg ifs elt g tt te)
  (hsw:Gf (.ListComp elt [⟨tg,iter,ifs,0⟩] scope pos) (some (.Name y py)) bq.line X.env=pure true:=by rfl)
  (hs: ∀x,foldedSetIterable iter X.env x=pure x:=by intro _;rfl):PS X (.Assign [.Name y py] (.ListComp elt [⟨tg,iter,ifs,0⟩] scope pos) bq) (BV (GD ix nl wi g tt te) (JM i)):=by
 intro aa s σ H D I h;rw[Lv _ _ _ _ hsw];refine Ac (Dw (Ac ?_));show wpAny _ X.A (do let _<- comprehension (.ListComp elt [⟨tg,iter,ifs,0⟩] scope pos) scope X.env _ (Pz []) false (eval iter X.env) (some (Ex (.Name y py) X.env))) _ _ s;obtain⟨cl,e1,e2,e3⟩:=QB (env:=X.env) (scope:=scope) fun y hy hf=>I.ok.has y.1 (S.free y hy hf);refine Ac (Az (Fq (use:=some (Ex (.Name y py) X.env)) (cl:=cl) (Q:=fun _ s'=>SP X aa D .next s') rfl hs e1 S.kind S.names
  (Az (hi aa s σ H _ I h) (fun xv s₁ h₁=>Az h₁ (fun itv s₂ h₂=> ?_) fun _ _ e=>e) fun _ _ e=>e)) (fun _ s' hq=>Aj (Aj hq)) fun _ _ e=>e)
 obtain⟨it,fp,tn,J,H2,e,I2,T,st2,f2,q⟩:=h₂;subst e;refine OE (Q:=fun v H'=>D.nx (σ.set i (some v)) H') (RR:=fun acc C=>Rc (model X.prog X.w) X.A X.xe (some (Ex (.Name y py) X.env)) (fun _ s'=>SP X aa D .next s') acc C) hc S hnl e2 e3 blk I2 T st2 f2 q ?_;intro Dl C s' H' I' hm hC1 hC2 hb hq;obtain⟨m,hm⟩:=hm;show wpAny _ X.A (Ex (.Name y py) X.env (.ref Dl)) _ _ _;refine Go (R7 I' hN hi' (.inl hy) (v:= .ref Dl) rfl (fun s'' I'' ⟨a,hsb,ha⟩=> ?_) (.inr hy));have hCa:C≠a:=by
  rcases ha with z|z
  ·rw[z];exact hC1
  ·exact Dg (hC2 y a z)
 exact⟨m,hm.sameBut hsb hCa,fun h'' sb=>⟨_,H',hb _ s'' h'' I'' sb,hq⟩⟩
theorem P5{i:Nat}{y:Str}{py bq:Pos}{tg iter elt:Expr}{ifs:List Expr}{scope:Scope}{fi:VI}{gg:VG}{tb:VB}{fe:VF}(o:Bool)(hN:X.N.Nodup)(N':List Str)(ix:List Nat)(nl:Nat)(hi:PI X tg iter (GX K ml pi fi))(blk:BlkC X K N' ix scope tg ifs elt gg pt tb pe fe)(hi':X.N[i]? =some y:=by rfl)(hy:X.env.scope.names.lookup y=some .local:=by rfl)
  (hc:X.calm=true:=by rfl) (hk:scope.kind= .function:=by rfl) (hok:U0 X.N N' ix scope.names X.env.kindOf=true:=by rfl) (hnl:N'.length=ix.length+nl:=by rfl) (hnd:ix.Nodup:=by decide) (hm:i∉ml:=by decide)
  (hsw:Gf (.ListComp elt [⟨tg,iter,ifs,0⟩] scope pos) (some (.Name y py)) bq.line X.env=pure true:=by rfl)
  (hs: ∀x,foldedSetIterable iter X.env x=pure x:=by intro _;rfl):PS X (.Assign [.Name y py] (.ListComp elt [⟨tg,iter,ifs,0⟩] scope pos) bq) (UE K ml (aV i (if o then xO (bW ix nl fi gg tb fe) else xV (bW ix nl fi gg tb fe)))):=
 (KC hN hi' hy hc (Z2 hk hok) hnl hi (blk (Z2 hk hok).nd) hsw hs).imp fun D σ H h=>IL (fun σ H Q z=>GH hnd (B0 (pu:=pi && pt && pe) z)) hm h
end
section
variable{X:Cx}{K:As}{ml:List Nat}{e a b c:Expr}{es:List Expr}{pi pt pe pu bt bi ps bs:Bool}{f:VF}{B B':Bs}{O:Nat->Option Addr}{H H0 H1 H':Hp}{σ:St}{δ δ':Ev}{v:V}{d:dP}{p:Addr}{pos:Pos}{ix:List Nat}{nl:Nat}
def zJT(K:As)(N:Addr->Prop)(J:It)(H:Hp)(ds:List dP):Prop:= ∃xs:List V,cY K N H xs ds/\ ∀H2,bR H H2->(∀(i:Nat) (x:V),xs[i]? =some x->J.go i H2/\ ∀y H3,J.yld i H2 y H3->H3=H2/\y=x)/\J.stop xs.length H2
def TIVp(K:As)(ml:List Nat)(f:VI):TI:=fun σ H R=> ∃B O δ ds δ',bB K ml B O H σ δ/\f δ=some (ds,δ')/\ ∀J H',bB K ml B O H' σ δ'->bR H H'->zJT K (Nn B O) J H' ds->R J H'
theorem KZ{fi:VI}{gg:VG}{tb:VB}{fe:VF}(hnd:ix.Nodup){Q:VK}(h:TN K ml true (bW ix nl fi gg tb fe) σ H Q):
  GD ix nl (TIVp K ml fi) (EV K (Am ix.length) gg) (TB K (Am ix.length) true tb) (TV K (Am ix.length) true true true fe) σ H Q:=by
 obtain⟨B,O,δ,d,δ2,S,q,k⟩:=h;unfold bW at q;obtain⟨⟨ds,δ1⟩,h1,q⟩:=Aa.mp q;have q:((aU ix.length nl gg tb fe ds [] (cF ix δ1)).map fun q=>(dP.lst q.1,Z3 ix q.2 δ1))=some (d,δ2):=q;obtain⟨⟨res,δf⟩,h2,q⟩:=Aq.mp q;cases q;refine⟨B,O,δ,ds,δ1,S,h1,fun J H0 S0 p0 wk D hD=> ?_⟩;obtain⟨els,rel,wk⟩:=wk;have hDO: ∀j,Oc ix O j≠some D:=fun j e=>by
  unfold Oc at e;obtain⟨i,hi,e⟩:=Aa.mp e;obtain⟨o,q⟩:=S0.nin (.inr ⟨i,e⟩);rw[hD] at q;cases q
 have dh: ∀kp j,ix.length<=j->(Bc ix B O H0 D kp).mu j=none:=fun kp j hj=>by
  show(ix[j]?).bind O=none;rw[Bu hj];rfl
 refine⟨fun i m acc H1=>m=ds.length - i/\i<=ds.length/\ ∃(ai:List dP) (δc:Ev),δc.length=ix.length/\acc.length=ai.length∧
   bB K (Am ix.length) (Bc ix B O H0 D (acc.zip ai)) (Oc ix O) H1 (bO ix σ++Bi nl none) (δc++PC nl)/\H1 D=some (.lst acc)/\bR H0 H1∧
   aU ix.length nl gg tb fe (ds.drop i) ai δc=some (res,δf),
  ⟨ds.length,rfl,Dd _,[],cF ix δ1,by simp [cF],rfl,by
   rw[Kc];exact S0.inner hD hnd fun p hp=>(nomatch hp),c0,dJ hD,h2⟩,?_⟩
 rintro i m acc H1 ⟨rfl,hi,ai,δc,hlc,aq,S1,hD1,ca,hc⟩;have w:=wk H1 ca;have me:cY K (Nn (Bc ix B O H0 D (acc.zip ai)) (Oc ix O)) H1 els ds:=(rel.away hD _ _ PB).same ca;by_cases hlt:i<ds.length
 ·obtain ⟨ex,ex1,ex2⟩ := me.get (i := i) (d := ds[i]) (by simp [hlt])
  obtain⟨go,yl⟩:=w.1 i ex ex1;rw[Cw hlt] at hc;simp only[aU] at hc;obtain⟨δ3,g1,hc⟩:=Aa.mp hc;obtain⟨⟨kk,δ4⟩,g2,hc⟩:=Aa.mp hc;refine .inr ⟨go,fun ae H'=> ∃(ai:List dP) (δc:Ev),δc.length=ix.length/\ae.length=ai.length∧
   bB K (Am ix.length) (Bc ix B O H0 D (ae.zip ai)) (Oc ix O) H' (bO ix σ++Bi nl none) (δc++PC nl)/\H' D=some (.lst ae)/\bR H0 H'∧
   aU ix.length nl gg tb fe (ds.drop (i+1)) ai δc=some (res,δf),fun ae H' w'=>⟨ds.length - (i+1),by lia,rfl,hlt,w'⟩,fun x H2 hy=> ?_⟩
  obtain⟨rfl,rfl⟩:=yl x H2 hy;have rx:=ex2;have sm:=bR.refl H2;refine⟨_,_,_,ds[i],δ3,S1.same sm,rx,g1,fun σ3 O3 S3 m3=> ?_⟩;have ln3:=LN m3;have hσ3:=SA ln3 m3;refine⟨hσ3,_,_,δ3,kk,δ4,S3,g2,fun H4 R4=> ?_⟩;have hD4:H4 D=some (.lst acc):=R4.frm _ _ (sm _ _ hD1) fun z=>by
   obtain⟨j,e⟩:=z;have:=(R4.sta.old j D e).1;exact absurd (.inl (.inr rfl)) this
  have ln4:ix.length<=δ4.length:=by rw[<- R4.sta.len];exact ln3
  cases kk with
  |false=>
   rw[if_neg De] at hc;refine QV ⟨ai,δ4.take ix.length,by rw[Cg];lia,aq,R4.sta.turn (dh _) (ZC ix σ) hσ3 ln4,hD4,?_,hc⟩;exact(ca.trans sm).trans (R4.pur rfl)
  |true=>
   rw[if_pos rfl] at hc;obtain⟨⟨dv,δ5⟩,g3,hc⟩:=Aa.mp hc;split at hc
   ·rename_i hz
    refine QW ⟨_,_,δ4,dv,δ5,R4.sta,g3,fun v H5 R5=> ?_⟩;have hD5:H5 D=some (.lst acc):=R5.frm _ _ hD4 fun z=>by
     obtain⟨j,e⟩:=z;have:=(R5.sta.old j D e).1;exact absurd (.inl (.inr rfl)) this
    have ln5:ix.length<=δ5.length:=by rw[<- R5.sta.len];exact ln3
    have S6:=R5.sta.turn (nl:=nl) (dh _) (ZC ix σ) hσ3 ln5;have hv:b6 K (Nn (Bc ix B O H0 D (acc.zip ai)) (Oc ix O)) H5 (Nn (Bc ix B O H0 D (acc.zip ai)) (Oc ix O)) v dv:=by
     have hN: ∀a,Nn (Bc ix B O H0 D (acc.zip ai)) (Oc ix O) a->av (Bc ix B O H0 D (acc.zip ai)) O3 true a:=fun a h=>by
      rcases h with h|⟨j,h⟩
      ·exact .inl h
      ·refine .inr ⟨j,?_⟩
       have hj:j∈Am ix.length:=R5.sta.par.1 j a h;rw[R5.sta.par.2 j hj];exact h
     exact R5.rep.mono hN hN
    have S7:=S6.withKp (kp:=(acc++[v]).zip (ai++[dv])) fun p hp=>by
     rw[Ls aq] at hp;rcases Cc.mp hp with z|z
     ·exact S6.kep p z
     ·rw[Ax.mp (show p∈[(v,dv)] from z)]
      exact hv
    refine⟨hD5,by rw[aq,Dc];exact hz,ai++[dv],δ5.take ix.length,by rw[Cg];lia,by simp[aq],?_,c0,?_,hc⟩
    ·exact S7.writeZ (.inl (.inr rfl)) hD5 hD
    ·intro b o e
     have hb:b≠D:=fun z=>by rw[z,hD] at e;cases e
     rw[cE hb];exact((ca.trans sm).trans ((R4.pur rfl).trans (R5.pur rfl))) b o e
   ·cases hc
 ·have e : i = ds.length := by lia
  subst e;rw[Fx] at hc;cases hc;refine .inl ⟨by rw[<- rel.length];exact w.2,k D H1 ?_⟩;have fP:Fr (OA (Oc ix O)) H0 H1:=S1.frm;have hPO: ∀a,OA (Oc ix O) a->OA O a:=fun a q0=>by
   obtain⟨j,e⟩:=q0;unfold Oc at e;cases hi:ix[j]? with
   |none=>rw[hi] at e;cases e
   |some i=>rw[hi] at e;exact⟨i,e⟩
  have SL:=S0.laid (o:= .lst acc) hD;have fL:Fr (OA (Oc ix O)) (bP H0 D (.lst acc)) H1:=fun b o e n=>by
   by_cases hb:b=D
   ·subst hb
    rw[c0] at e;cases e;exact hD1
   ·rw[cE hb] at e
    exact fP b o e n
  refine⟨SL.call (YH) (fun i=> ?_) fL hPO,(p0.fr (P:=OA O)).trans (fP.mono hPO),fun z=> ?_,.lst hD1 (WK aq fun p hp=>(S1.kep p hp).mono WD WD),S0.new hD,S0.fresh hD⟩
  ·by_cases dj:i<δ1.length
   ·rcases XJ (ix:=ix) (ss:=δf) (δ:=δ1) i dj hlc.symm with⟨j,x,e1,e2,e3⟩|⟨e1,e2⟩
    ·have e4:(δf++PC nl)[j]? =some (.ow x):=by
      rw[Ap (Ag.mp e2).1];exact e2
     obtain⟨a,e5,_,w⟩:=S1.ow j x e4;refine .inr ⟨a,x,?_,e3,w.mono WD⟩;unfold Oc at e5;rw[e1] at e5;exact e5
    ·refine .inl ⟨e2,fun a ea ⟨j,ej⟩ => ?_⟩
     obtain⟨x,ex⟩:=S1.dom j a ej;unfold Oc at ej;cases hi:ix[j]? with
     |none=>rw[hi] at ej;cases ej
     |some i'=>
      rw[hi] at ej;have:i=i':=S0.inj i i' a ea ej;subst this;have hj:j<δf.length:=by rw[hlc];exact(Ag.mp hi).1
      rw[Ap hj] at ex;exact e1 j x hi ex
   ·refine .inl ⟨?_,fun a ea => ?_⟩
    ·rw[Bu (by rw[YH];lia),Bu (by lia)]
    ·obtain⟨x,ex⟩:=S0.dom i a ea
     exact absurd (Ag.mp ex).1 dj
  ·exact p0.trans ca
theorem bR.sqT{a:Addr}{xs:List V}(s:bR H H')(h:W4 K H a xs):W4 K H' a xs:=Fr.tup (P:=fun _=>False) s.fr h
theorem B8{tg:Expr}(hK:X.K=K)(h:PE X e (TV K ml true bt bi f))(hb:bi=true:=by rfl):PI X tg e (TIVp K ml (ZZ f)):=by
 subst hb;refine((zAJ (K:=K) hK h).or (zDP (K:=K) hK h)).imp fun σ H R hq0=> ?_;obtain⟨B,O,δ,ds,δ',S,q,k⟩:=hq0;unfold ZZ at q;obtain⟨⟨x,δ1⟩,h1,q⟩:=Aa.mp q;cases x with
 |lst ds'=>
  cases q;refine .inl ⟨B,O,δ,_,δ1,S,h1,fun v H1 R1=> ?_⟩;obtain⟨a,xs,rfl,sq,r⟩:=R1.rep.lstE;refine⟨a,rfl,⟨xs,sq⟩,k _ H1 R1.sta (R1.pur rfl) ⟨xs,r,fun H2 sm=>⟨fun i x ex=>⟨⟨xs,x,sm.seq sq,ex⟩,fun y H3 hy=> ?_⟩,xs,sm.seq sq,Ao _⟩⟩⟩;obtain⟨e2,e3⟩:=hy;have:=e3 xs (sm.seq sq);rw[ex] at this;cases this;exact⟨e2,rfl⟩
 |tup ds'=>
  cases q;refine .inr ⟨B,O,δ,_,δ1,S,h1,fun v H1 R1=> ?_⟩;obtain⟨a,xs,rfl,sq,r⟩:=R1.rep.tupE;refine⟨a,rfl,⟨xs,sq⟩,k _ H1 R1.sta (R1.pur rfl) ⟨xs,r,fun H2 sm=>⟨fun i x ex=>⟨⟨xs,x,sm.sqT sq,ex⟩,fun y H3 hy=> ?_⟩,xs,sm.sqT sq,Ao _⟩⟩⟩;obtain⟨e2,e3⟩:=hy;have:=e3 xs (sm.sqT sq);rw[ex] at this;cases this;exact⟨e2,rfl⟩
 |_=>cases q
theorem CB{tg iter elt:Expr}{ifs:List Expr}{scope:Scope}{fi:VI}{gg:VG}{tb:VB}{fe:VF}(N':List Str)(ix:List Nat)(nl:Nat)(hi:PI X tg iter (TIVp K ml fi))(blk:BlkC X K N' ix scope tg ifs elt gg pt tb pe fe)(hc:X.calm=true:=by rfl)(hk:scope.kind= .function:=by rfl)(hok:U0 X.N N' ix scope.names X.env.kindOf=true:=by rfl)(hnl:N'.length=ix.length+nl:=by rfl)(hnd:ix.Nodup:=by decide)(hp:(pt && pe)=true:=by rfl)
  (hs: ∀x,foldedSetIterable iter X.env x=pure x:=by intro _;rfl):PE X (.ListComp elt [⟨tg,iter,ifs,0⟩] scope pos) (TN K ml true (bW ix nl fi gg tb fe)):=by
 obtain⟨h1,h2⟩:=(Ae _ _).mp hp;subst h1 h2;exact(J8 hc (Z2 hk hok) hnl hi (blk (Z2 hk hok).nd) hs).imp fun _ _ _ h=>KZ hnd h
theorem CG{i:Nat}{y:Str}{py bq:Pos}{tg iter elt:Expr}{ifs:List Expr}{scope:Scope}{fi:VI}{gg:VG}{tb:VB}{fe:VF}(o:Bool)(hN:X.N.Nodup)(N':List Str)(ix:List Nat)(nl:Nat)(hi:PI X tg iter (TIVp K ml fi))(blk:BlkC X K N' ix scope tg ifs elt gg pt tb pe fe)(hi':X.N[i]? =some y:=by rfl)(hy:X.env.scope.names.lookup y=some .local:=by rfl)
  (hc:X.calm=true:=by rfl) (hk:scope.kind= .function:=by rfl) (hok:U0 X.N N' ix scope.names X.env.kindOf=true:=by rfl) (hnl:N'.length=ix.length+nl:=by rfl) (hnd:ix.Nodup:=by decide) (hp:(pt && pe)=true:=by rfl) (hm:i∉ml:=by decide)
  (hsw:Gf (.ListComp elt [⟨tg,iter,ifs,0⟩] scope pos) (some (.Name y py)) bq.line X.env=pure true:=by rfl)
  (hs: ∀x,foldedSetIterable iter X.env x=pure x:=by intro _;rfl):PS X (.Assign [.Name y py] (.ListComp elt [⟨tg,iter,ifs,0⟩] scope pos) bq) (UE K ml (aV i (if o then xO (bW ix nl fi gg tb fe) else xV (bW ix nl fi gg tb fe)))):=by
 obtain⟨h1,h2⟩:=(Ae _ _).mp hp;subst h1 h2;exact(KC hN hi' hy hc (Z2 hk hok) hnl hi (blk (Z2 hk hok).nd) hsw hs).imp fun D σ H h=>IL (fun σ H Q z=>KZ hnd (B0 (pu:=true) z)) hm h
end
section
variable{X:Cx}{K:As}{ml:List Nat}{e a b c:Expr}{es:List Expr}{pa ta ia pb tb ib pc tc ic pu bt bi ps bs:Bool}{fa fb fc f:VF}{pos p':Pos}{d:dP}{x:Str}
theorem vv(i:Nat)(hN:X.N[i]? =some x:=by rfl)(hv:Vis X.env.scope x:=by first|exact Md rfl|exact Kz (Md rfl)|exact Kz (Kz rfl))(hd:(x==("__debug__":Str))=false:=by decide)
  (hcd:(x==("__classdict__":Str))=false:=by decide):PE X (.Name x pos) (TV K ml true true true (fV i)):=zDZ (HR hN hv hd hcd)
theorem vo(i:Nat)(hN:X.N[i]? =some x:=by rfl)(hv:Vis X.env.scope x:=by first|exact Md rfl|exact Kz (Md rfl)|exact Kz (Kz rfl))(hd:(x==("__debug__":Str))=false:=by decide)
  (hcd:(x==("__classdict__":Str))=false:=by decide):PE X (.Name x pos) (TV K ml true false true (fO i)):=zE0 (HR hN hv hd hcd)
theorem Z5(hu:X.A.units+1<cLine)(ha:PE X a (TV K ml pa ta ia fa))(hb:PE X b (TV K ml pb tb ib fb))(hK:X.K=K:=by rfl)(hx:LC b:=by exact fun _ _=>rfl)(hs:(pb || (ta && ia))=true:=by rfl):PE X (.Subscript a b pos) (TV K ml (pa && pb) ia ia (f2 cZ fa fb)):=
 zHD (kIxA hK hu) zJA ha hb hx hs
theorem veq(hu:X.A.units+64<cLine)(ha:PE X a (TV K ml pa ta ia fa))(hb:PE X b (TV K ml pb tb ib fb))(hK:X.K=K:=by rfl)(hs:(pb || (ta && ia))=true:=by rfl):PE X (.Compare a [.Eq] [b] pos) (TV K ml (pa && pb) true true (f2 YC fa fb)):=
 X4 (kEqD hK hu) s_eq ha hb (bD _) hs
theorem WW(hu:X.A.units+64<cLine)(ha:PE X a (TV K ml pa ta ia fa))(hb:PE X b (TV K ml pb tb ib fb))(hK:X.K=K:=by rfl)(hs:(pb || (ta && ia))=true:=by rfl):PT X (.Compare a [.Eq] [b] pos) (TB K ml (pa && pb) (fB (f2 YC fa fb))):=
 cH (kEqD hK hu) s_eq ha hb (bD _) hs
theorem cA{kk j n:Nat}{qs:List Str}{mF:List Nat}{F:bN}{ff:Addr}{fs:GY}(D:Def X.prog X.w K X.mg X.base x kk qs (spV K mF n F) ff)(hr:XQ j X.A)(ha:PA X (e::es) (TAG K ml ps fs))(hK:X.K=K:=by rfl)(hk:kk<=j:=by decide)(hg:Gl X x:=by rfl)(hdb:(x==("__debug__":Str))=false:=by decide)
  (he:Ak (e::es) X.env=(false,eval e X.env)::Ak es X.env:=by rfl) (hpl:(Fw pos (Ak es X.env)).any (·.1)=false:=by rfl):
  PE X (.Call (.Name x p') (e::es) [] pos) (TV K ml (ps && mF.isEmpty) true true (dC n mF F fs)):=zBJ hK D hr hk hg ha hdb he hpl
theorem Y2(hm:X.mg "len"=none) (ha:PE X a (TV K ml pa ta ia fa)) (hK:X.K=K:=by rfl) (hg:Gl X "len":=by rfl) (he:Ak (a::[]) X.env=(false,eval a X.env)::Ak [] X.env:=by rfl):PE X (.Call (.Name "len" p') [a] [] pos) (TV K ml pa true true (f1 aR fa)):=
 NS (zJ6 hK) zI0 hg hm zB6 ha (by decide) (by decide) he
theorem vty{n:String}(hm:X.mg x=none)(hv:Bj x=some (.type n))(hg:Gl X x:=by rfl)(hn:x≠ "__name__":=by decide) (hd:(x==("__debug__":Str))=false:=by decide):PE X (.Name x pos) (TV K ml true true true (fC (.ty n))):=
 EQ (zCB (v:= .ty n) hg hm hv rfl hn hd) fun _ _ _=> .ty _
theorem K1(hm:X.mg "isinstance"=none) (ha:PE X a (TV K ml pa ta ia fa)) (hb:PE X b (TV K ml pb tb ib fb)) (hK:X.K=K:=by rfl) (hg:Gl X "isinstance":=by rfl)
  (he:Ak (a::[b]) X.env=(false,eval a X.env)::Ak [b] X.env:=by rfl) (he2:Ak (b::[]) X.env=(false,eval b X.env)::Ak [] X.env:=by rfl) (hpl:(Fw pos (Ak [b] X.env)).any (·.1)=false:=by rfl) (hs:(pb || (ta && ia))=true:=by rfl):
  PE X (.Call (.Name "isinstance" p') [a,b] [] pos) (TV K ml (pa && pb) true true (f2 T5 fa fb)):=B4 (kIsi hK) zI1 hg hm NY ha hb (by decide) (by decide) he he2 hpl hs
end
def A4(K:As)(x:Str)(st:Stmt)(f:Addr):Prop:= ∃(oc:Value) (od:Option Addr) (kV doc pm:Value) (an:Option Addr) (cdv ct:Value) (osl:Array (Option Value)),Ol K mainGlobals x=some (some (.ref f))∧
 K.lookup f=some ⟨oc,od,.func (Mc x x (X9 st) (ZK st) (dF st) .none kV doc pm an cdv ct),osl⟩/\Mu K cdv x=true/\Lx K (.ref f)=true
theorem a4{K:As}{x:Str}{st:Stmt}{f:Addr}{oc:Value}{od:Option Addr}{kV doc pm:Value}{an:Option Addr}{cdv ct:Value}{osl:Array (Option Value)}(a:Ol K mainGlobals x=some (some (.ref f)))
  (b:K.lookup f=some ⟨oc,od,.func (Mc x x (X9 st) (ZK st) (dF st) .none kV doc pm an cdv ct),osl⟩) (c:Mu K cdv x=true) (d:Lx K (.ref f)=true):A4 K x st f:=⟨oc,od,kV,doc,pm,an,cdv,ct,osl,a,b,c,d⟩
theorem ZM{P:Bq}{w:World}{K:As}{mg:Str->Option Value}{base h:Heap}{x:Str}{st:Stmt}{f:Addr}{ps:List Str}{sp:Sp}{k:Nat}(X:K.In h)(G:h.Ns mainGlobals mg)(p:A4 K x st f)(ok: ∀{fd:Gd},W9 K x x st f fd->aW P w K mg base CX0 k f fd ps sp)
  (hb: ∀{kV doc pm:Value} {an:Option Addr} {cdv ct:Value} (us:List Value),us.length=ps.length->bindArgs (Mc x x (X9 st) (ZK st) (dF st) .none kV doc pm an cdv ct) ⟨us,[]⟩=pure (ps.zip us)):Def P w K mg base x k ps sp f:=by
 obtain⟨oc,od,kV,doc,pm,an,cdv,ct,osl,a,b,c,d⟩:=p;have U:=zAX (st:=st) b c d;exact⟨Hm X G a,⟨_,ok U,U.binds fun _ _ _ _ _ _=>hb⟩,d⟩
theorem VA(P:Bq)(w:World)(K:As)(mg:Str->Option Value)(base:Heap){x qual:Str}{st:Stmt}{f:Addr}{fd:Gd}(N ps:List Str)(k:Nat)(g:VS)(ml:List Nat)(F:W9 K x qual st f fd)(S:cW N ps (dF st))
  (cn: ∀(cdv:Value) (A:Cy) (outer:List Env) (s:Af) (H:Hp) (E:XK) (hr:XQ k (A.deeper (Kx qual (dF st) s.heap.objs.size f cdv))) (_:(A.deeper (Kx qual (dF st) s.heap.objs.size f cdv)).units+64<cLine) (_:(A.deeper (Kx qual (dF st) s.heap.objs.size f cdv)).units+1<cLine),
   QN (JI CX0 P w K mg base N qual (dF st) f cdv A outer s H E).nox (ZK st) (UE K ml g)) (hps:ps.length<=N.length:=by decide):aW P w K mg base CX0 (k+1) f fd ps (spV K ml ps.length (aI N.length ml g)):=
 W9.okV F S hps fun cdv A outer s H E hr=>cn cdv A outer s H E hr hr.units (zJD hr)
theorem ZS{N P:List Str}{sc:Scope}(a:sc.kind= .function:=by rfl)(b:sc.isCoroutine=false:=by rfl)(c:sc.isGenerator=false:=by rfl)(d:N.Nodup:=by decide+kernel)(e:N.take P.length=P:=by rfl)
  (f: ∀x∈P,sc.names.lookup x=some .local∨sc.names.lookup x=some .cell:=by decide+kernel) (g: ∀y∈sc.names,y.2≠Bp:=by decide+kernel):cW N P sc:=⟨a,b,c,d,e,f,g⟩
theorem N3(elt tg1 it1 tg2 it2:Expr)(aw ah:List Expr)(scope:Scope)(pos:Pos)(it acc:Value)(env:Env):
  Pf (.ListComp elt [⟨tg1,it1,aw,0⟩,⟨tg2,it2,ah,0⟩] scope pos) 0 it acc env=(do
   Nr it1.pos
   match<- pyNext it with
   |none=>pure (.done .next)
   |some v=>
    Ep tg1 it v
    Ex tg1 env v
    let mut ok:=true
    for c in aw do
     if ok then ok<- isTrue c env (eval c env)
    if ok then
     let x<- eval it2 env
     Nr it2.pos
     let x<- foldedSetIterable it2 env x
     let _<- runOwn (.compStart (.ListComp elt [⟨tg1,it1,aw,0⟩,⟨tg2,it2,ah,0⟩] scope pos) 1 (<- holding [x] (Og x)) acc env) env
    Ru (.compLoop (.ListComp elt [⟨tg1,it1,aw,0⟩,⟨tg2,it2,ah,0⟩] scope pos) 0 it acc env)):=by rfl
theorem N4(elt tg1 it1 tg2 it2:Expr)(aw ah:List Expr)(scope:Scope)(pos:Pos)(it acc:Value)(env:Env):
  Pf (.ListComp elt [⟨tg1,it1,aw,0⟩,⟨tg2,it2,ah,0⟩] scope pos) 1 it acc env=(do
   Nr it2.pos
   match<- pyNext it with
   |none=>pure (.done .next)
   |some v=>
    Ep tg2 it v
    Ex tg2 env v
    let mut ok:=true
    for c in ah do
     if ok then ok<- isTrue c env (eval c env)
    if ok then
     (do let _<- call (.builtin "list.append") [acc,<- eval elt env])
    Ru (.compLoop (.ListComp elt [⟨tg1,it1,aw,0⟩,⟨tg2,it2,ah,0⟩] scope pos) 1 it acc env)):=by rfl
theorem G9{prog:Bq}{w:World}{A:Cy}{s:Af}{elt tg1 it1 tg2 it2:Expr}{aw ah:List Expr}{scope:Scope}{pos:Pos}{it acc:Value}{env:Env}{R:Oh->Af->Prop}(I:Nat->Af->Prop)
  (turn : ∀ n s,I n s -> wpAny (model prog w) A (pyNext it) (fun r s₁ => match r with
   |none=>R (.ok .next) s₁
   | some v => wpAny (model prog w) A (Ep tg2 it v) (fun _ s₀ => wpAny (model prog w) A (Ex tg2 env v) (fun _ s₂ =>
     wpAny (model prog w) A (forIn ah true fun c r=>if r=true then do let ok<- isTrue c env (eval c env);pure (Cr ok) else pure (Cr r)) (fun ok s₃=>if ok=true then wpAny (model prog w) A (eval elt env) (fun x s₄=>
      wpAny (model prog w) A (call (.builtin "list.append") [acc,x]) (fun _ s₅=> ∃m,m<n/\I m s₅) (fun _ _=>False) s₄) (fun _ _=>False) s₃
      else∃m,m<n/\I m s₃) (fun _ _=>False) s₂)
     (fun _ _=>False) s₀) (fun _ _=>False) s₁) (fun _ _=>False) s)
  (n:Nat) (h:I n s):Ga (model prog w) A (.compLoop (.ListComp elt [⟨tg1,it1,aw,0⟩,⟨tg2,it2,ah,0⟩] scope pos) 1 it acc env) R s:=by
 refine Oj rfl I (fun n s hI=> ?_) n h;show wpAny _ A ((Pf (.ListComp elt [⟨tg1,it1,aw,0⟩,⟨tg2,it2,ah,0⟩] scope pos) 1 it acc env).onRaise (fun x=>do Pr x env;Lq x)) _ _ s;refine Ps ?_;rw[N4];refine Ac (Dw (Ac (Az (turn n s hI) (fun r s₁ h₁=> ?_) fun _ _ h'=>h'.elim)));cases r with
 |none=>exact Aj h₁
 |some v=>
  refine Ac (Az h₁ (fun _ s₀ h₀'=> ?_) fun _ _ h'=>h'.elim);refine Ac (Az h₀' (fun _ s₂ h₂=> ?_) fun _ _ h'=>h'.elim);refine Ac (Az h₂ (fun okb s₃ h₃=> ?_) fun _ _ h'=>h'.elim);cases okb with
  |false=>exact Aj ⟨rfl,h₃⟩
  |true=>exact Ac (Ac (Az h₃ (fun x s₄ h₄=>Ac (Az h₄ (fun _ s₅ h₅=>Aj (Aj ⟨rfl,h₅⟩)) fun _ _ h'=>h'.elim)) fun _ _ h'=>h'.elim))
theorem G8{prog:Bq}{w:World}{A:Cy}{s:Af}{elt tg1 it1 tg2 it2:Expr}{aw ah:List Expr}{scope:Scope}{pos:Pos}{it acc:Value}{env:Env}{R:Oh->Af->Prop}(I:Nat->Af->Prop)
  (turn : ∀ n s,I n s -> wpAny (model prog w) A (pyNext it) (fun r s₁ => match r with
   |none=>R (.ok .next) s₁
   | some v => wpAny (model prog w) A (Ep tg1 it v) (fun _ s₀ => wpAny (model prog w) A (Ex tg1 env v) (fun _ s₂ =>
     wpAny (model prog w) A (forIn aw true fun c r=>if r=true then do let ok<- isTrue c env (eval c env);pure (Cr ok) else pure (Cr r)) (fun ok s₃=>if ok=true then
      wpAny (model prog w) A (eval it2 env) (fun x s₄=>wpAny (model prog w) A (Og x) (fun i2 s₅=>
       Ga (model prog w) A (.compStart (.ListComp elt [⟨tg1,it1,aw,0⟩,⟨tg2,it2,ah,0⟩] scope pos) 1 i2 acc env) (fun r s₆=>match r with| .ok _=> ∃m,m<n/\I m s₆| .error _=>False) s₅) (fun _ _=>False) s₄) (fun _ _=>False) s₃
      else∃m,m<n/\I m s₃) (fun _ _=>False) s₂)
     (fun _ _=>False) s₀) (fun _ _=>False) s₁) (fun _ _=>False) s)
  (n:Nat) (h:I n s) (hs: ∀x,foldedSetIterable it2 env x=pure x:=by intro _;rfl):Ga (model prog w) A (.compLoop (.ListComp elt [⟨tg1,it1,aw,0⟩,⟨tg2,it2,ah,0⟩] scope pos) 0 it acc env) R s:=by
 refine Oj rfl I (fun n s hI=> ?_) n h;show wpAny _ A ((Pf (.ListComp elt [⟨tg1,it1,aw,0⟩,⟨tg2,it2,ah,0⟩] scope pos) 0 it acc env).onRaise (fun x=>do Pr x env;Lq x)) _ _ s;refine Ps ?_;rw[N3];refine Ac (Dw (Ac (Az (turn n s hI) (fun r s₁ h₁=> ?_) fun _ _ h'=>h'.elim)));cases r with
 |none=>exact Aj h₁
 |some v=>
  refine Ac (Az h₁ (fun _ s₀ h₀'=> ?_) fun _ _ h'=>h'.elim);refine Ac (Az h₀' (fun _ s₂ h₂=> ?_) fun _ _ h'=>h'.elim);refine Ac (Az h₂ (fun okb s₃ h₃=> ?_) fun _ _ h'=>h'.elim);cases okb with
  |false=>exact Aj ⟨rfl,h₃⟩
  |true=>
   refine Ac (Az h₃ (fun x s₄ h₄=> ?_) fun _ _ h'=>h'.elim);refine Ac (Dw (Ac (wpAny_of_eq (hs x) (Ac (Ce (Az h₄ (fun i2 s₅ h₅=> ?_) fun _ _ h'=>h'.elim))))));refine Ac (wpAny_runOwn (Gz h₅ fun r s₆ h₆=> ?_));cases r with
   |ok f=>exact Aj ⟨rfl,h₆⟩
   |error e=>exact h₆.elim
theorem V4{prog:Bq}{w:World}{A:Cy}{s:Af}{elt tg1 it1 tg2 it2:Expr}{aw ah:List Expr}{scope:Scope}{pos:Pos}{it acc:Value}{env:Env}{R:Oh->Af->Prop}
  (h0:Ga (model prog w) A (.compLoop (.ListComp elt [⟨tg1,it1,aw,0⟩,⟨tg2,it2,ah,0⟩] scope pos) 1 it acc env) R s)
  (h : wpAny (model prog w) A (Og it) (fun it' s' => Ga (model prog w) A (.compLoop (.ListComp elt [⟨tg1,it1,aw,0⟩,⟨tg2,it2,ah,0⟩] scope pos) 1 it' acc env) R s')
   (notedBy (model prog w) A env fun x s'=>R (.error x) s') s):
  Ga (model prog w) A (.compStart (.ListComp elt [⟨tg1,it1,aw,0⟩,⟨tg2,it2,ah,0⟩] scope pos) 1 it acc env) R s:=by
 refine codeAny_of_tree ?_;show wpAny _ _ ((compStart (.ListComp elt [⟨tg1,it1,aw,0⟩,⟨tg2,it2,ah,0⟩] scope pos) 1 it acc env).onRaise (fun x=>do Pr x env;Nr theWindowsPlace)) _ _ s;refine wpAny_notedAt ?_;unfold compStart;show wpAny _ _ (ask>>=_) _ _ s;refine Ac (wpAny_askSetting (wpAny_ite ?_));split
 ·first
   |exact Ac (Aj (Aj (And.intro rfl h0)))
   |exact Aj (And.intro rfl h0)
 ·first
   |exact Ac (Gp (Ac (Dw (Ac (Az h (fun it' s' h'=>Aj (And.intro rfl h')) fun _ _ x=>x)))))
   |(refine Ac (Gp ?_);show wpAny _ _ (Nr it2.pos>>=_) _ _ s;exact Ac (Dw (Ac (Az h (fun it' s' h'=>Aj (And.intro rfl h')) fun _ _ x=>x))))
def EmW(D:Addr)(wi:TI)(g:TG)(tt:TT)(te:TE)(ij:List V)(σ:St)(H:Hp)(N:List V->St->Hp->Prop):Prop:=
 wi σ H fun J H0=> ∃W:Nat->Nat->List V->St->Hp->Prop,(∃m,W 0 m ij σ H0)/\ ∀i m acc σ1 H1,W i m acc σ1 H1→
  (J.stop i H1/\N acc σ1 H1)∨
  (J.go i H1/\ ∃N2:List V->St->Hp->Prop,(∀ae σ' H',N2 ae σ' H'-> ∃m',m'<m/\W (i+1) m' ae σ' H')∧
   ∀x H2,J.yld i H1 x H2->g x σ1 H2 fun σ2 H3=>tt σ2 H3 fun b H4=>if b=true then te σ2 H4 fun v H5=>H5 D=some (.lst acc)/\acc.length<sizeLine/\N2 (acc++[v]) σ2 (bP H5 D (.lst (acc++[v]))) else N2 acc σ2 H4)
theorem zJJ{Y:Cx}{elt tg1 it1 tg2 it2:Expr}{aw ah:List Expr}{scope:Scope}{pos:Pos}{wi:TI}{g:TG}{tt:TT}{te:TE}{aa:List (Addr×Obj)}{s:Af}{σ:St}{H:Hp}{D:Addr}{ij:List V}{N:List V->St->Hp->Prop}
  (hc:Y.calm=true) (hxe:Y.xe=fun _ _=>False) (hi:PI Y tg2 it2 wi) (hg:PG Y tg2 g) (ht:PTs Y ah tt) (he:PE Y elt te) (I:c6 Y aa σ H s) (h:EmW D wi g tt te ij σ H N):
  wpAny (model Y.prog Y.w) Y.A (eval it2 Y.env) (fun x s₄=>wpAny (model Y.prog Y.w) Y.A (Og x) (fun i2 s₅=>
   Ga (model Y.prog Y.w) Y.A (.compStart (.ListComp elt [⟨tg1,it1,aw,0⟩,⟨tg2,it2,ah,0⟩] scope pos) 1 i2 (.ref D) Y.env) (fun r s₆=>match r with| .ok _=> ∃ae σ' H',c6 Y aa σ' H' s₆/\N ae σ' H'| .error _=>False) s₅) (fun _ _=>False) s₄) (fun _ _=>False) s:=by
 have nx: ∀{α:Sort _} {x:Value} {s:Af},Y.xe x s->α:=fun z=>by rw[hxe] at z;exact z.elim
 refine Az (hi aa s σ H _ I h) (fun v s1 h1=>Az h1 (fun itv s2 h2=> ?_) fun _ _ z=>nx z) fun _ _ z=>nx z;obtain⟨it,fp,tn,J,H2,e,I2,T,st2,f2,W,⟨m0,w0⟩,turn⟩:=h2;subst e;have stat: ∀{H':Hp},(∀b∈fp,H' b=none)-> ∀b∈fp,RB Y aa H' b:=fun hn b hb=>⟨hn b hb,(f2 b hb).2⟩;have loop: ∀s₃:Af,s₃=s2->Ga (model Y.prog Y.w) Y.A (.compLoop (.ListComp elt [⟨tg1,it1,aw,0⟩,⟨tg2,it2,ah,0⟩] scope pos) 1 (.ref it) (.ref D) Y.env) (fun r s₆=>match r with| .ok _=> ∃ae σ' H',c6 Y aa σ' H' s₆/\N ae σ' H'| .error _=>False) s₃:=by
  rintro s₃ rfl;refine G9 (fun n s'=> ∃i σ' H' acc,c6 Y aa σ' H' s'/\tn i s'.heap/\(∀b∈fp,H' b=none)/\W i n acc σ' H') ?_ m0 ⟨0,σ,H2,ij,I2,st2,fun b hb=>(f2 b hb).1,w0⟩;rintro n s3 ⟨i,σ3,H3,acc,I3,st3,fr3,w3⟩;rcases turn i n acc σ3 H3 w3 with⟨stop,qn⟩|⟨go,N2,hN,step⟩
  ·refine Az (T.done Y rfl rfl rfl hc i aa s3 σ3 H3 (fun _ _ => False) I3 (stat fr3) st3 stop) (fun r s4 ⟨hr,I4⟩ => ?_) fun _ _ z => z
   subst hr;exact⟨acc,σ3,H3,I4,qn⟩
  ·refine Az (T.item Y rfl rfl rfl hc i aa s3 σ3 H3 (fun _ _ => False) I3 (stat fr3) st3 go) (fun r s4 ⟨u,hr,h4⟩ => ?_) fun _ _ z => z
   subst hr;refine Az h4 (fun _ s5 ⟨x,H5,I5,r5,y5,st5,fr5⟩=> ?_) fun _ _ z=>z;have I5':=I5.pinned (stat fr5) (T.obj _ _ st5);refine Az (hg _ s5 σ3 H5 x u _ I5' r5 (step x H5 y5)) (fun _ s6 ⟨σ6,H6,I6,q6⟩=> ?_) fun _ _ z=>nx z;have again: ∀{H7:Hp} {s7:Af} {ae:List V},c6 Y (aa++T7 fp s5.heap) σ6 H7 s7->N2 ae σ6 H7-> ∃m,m<n/\ ∃i σ' H' acc,c6 Y aa σ' H' s7/\tn i s7.heap/\(∀b∈fp,H' b=none)/\W i m acc σ' H':=fun{H7 s7 ae} I7 n7=>by
    obtain⟨m',hm,w7⟩:=hN ae σ6 H7 n7;refine⟨m',hm,i+1,σ6,H7,ae,I7.unpinned,T.keep _ _ _ st5 fun b hb o e=>(I7.pin (b,o) (Ay _ (Ay _ (ZR hb e)))).1,fun b hb=> ?_,w7⟩;obtain⟨o,e,d⟩:=T.obj _ _ st5 b hb;exact(I7.pin (b,o) (Ay _ (Ay _ (ZR hb e)))).2.1
   refine Az (ht _ s6 σ6 H6 _ I6 q6) (fun okb s7 ⟨H7,I7,q7⟩=> ?_) fun _ _ z=>nx z;cases okb with
   |false=>exact again I7 q7
   |true=>
    refine Az (he _ s7 σ6 H7 _ I7 q7) (fun v s8 ⟨y,H8,I8,r8,hD8,hz8,n8⟩=> ?_) fun _ _ z=>nx z;refine Az (bK (X:=Y) _ s8 σ6 H8 (.ref D) [y] (.ref D) [v] (fun _ H9=>N2 (acc++[y]) σ6 H9) I8 rfl (.cons r8 .nil)
     ⟨D,acc,y,rfl,rfl,hD8,hz8,n8⟩) (fun _ s9 ⟨_,H9,I9,_,n9⟩=>again I9 n9) fun _ _ z=>nx z
 exact V4 (loop _ rfl) (T.self _ 0 _ _ _ st2 (loop _ rfl))
structure Blk2(Y:Cx)(tg:Expr)(ifs:List Expr)(tg2 it2:Expr)(ah:List Expr)(elt:Expr)(g:TG)(tt:TT)(wi2:TI)(g2:TG)(tt2:TT)(te:TE):Prop where
 tg:PG Y tg g
 ts:PTs Y ifs tt
 it:PI Y tg2 it2 wi2
 tg2:PG Y tg2 g2
 ts2:PTs Y ah tt2
 el:PE Y elt te
def zBA(D:Addr)(ix:List Nat)(nl:Nat)(J:It)(g:TG)(tt:TT)(wi2:TI)(g2:TG)(tt2:TT)(te:TE)(σ:St)(H0:Hp)(Q:Hp->Prop):Prop:=
 ∃W:Nat->Nat->List V->Hp->Prop,(∃m,W 0 m [] (bP H0 D (.lst [])))/\ ∀i m acc H1,W i m acc H1→
  (J.stop i H1/\Q H1)∨
  (J.go i H1/\ ∃N:List V->Hp->Prop,(∀ae H',N ae H'-> ∃m',m'<m/\W (i+1) m' ae H')∧
   ∀x H2,J.yld i H1 x H2->g x (bO ix σ++Bi nl none) H2 fun σ2 H3=>σ2.take ix.length=bO ix σ∧
    tt σ2 H3 fun b H4=>if b=true then EmW D wi2 g2 tt2 te acc σ2 H4 (fun ae σ' H'=>σ'.take ix.length=bO ix σ/\N ae H') else N acc H4)
def IK(ix:List Nat)(nl:Nat)(wi:TI)(g:TG)(tt:TT)(wi2:TI)(g2:TG)(tt2:TT)(te:TE):TE:=fun σ H Q=>wi σ H fun J H0=> ∀D,H0 D=none->zBA D ix nl J g tt wi2 g2 tt2 te σ H0 fun H'=>Q (.ref D) H'
theorem OF{X:Cx}{aa:List (Addr×Obj)}{σ:St}{H2:Hp}{s2:Af}{E:Value->Af->Prop}{tg iter tg2 it2 elt:Expr}{ifs ah:List Expr}{scope:Scope}{pos:Pos}{N':List Str}{ix:List Nat}{nl:Nat}{g g2:TG}{tt tt2:TT}{wi2:TI}{te:TE}
  {cl:List (Str×Addr)} {J:It} {fp:List Addr} {it:Addr} {tn:Nat->Heap->Prop} {Q:V->Hp->Prop} {RR:Value->Addr->Oh->Af->Prop}
  (hs2: ∀(env:Env) (x:Value),foldedSetIterable it2 env x=pure x) (hc:X.calm=true) (S:VZ X N' ix scope) (hnl:N'.length=ix.length+nl)
  (bo: ∀x c,cl.lookup x=some c->X.env.cells.lookup x=some c) (gd: ∀x,(x,Bp)∈scope.names-> ∃c,cl.lookup x=some c)
  (blk: ∀(cl:List (Str×Addr)) (s1:Af) (H1:Hp) (fp:List Addr),Blk2 (cJ X N' scope cl s1 H1 fp) tg ifs tg2 it2 ah elt g tt wi2 g2 tt2 te)
  (I2:c6 X aa σ H2 s2) (T:IZ X.prog X.w X.K tg J fp it tn) (st2:tn 0 s2.heap) (f2: ∀b∈fp,RB X aa H2 b)
  (h: ∀D,H2 D=none->zBA D ix nl J g tt wi2 g2 tt2 te σ H2 fun H'=>Q (.ref D) H')
  (fin: ∀(D C:Addr) (s':Af) (H':Hp),c6 X aa σ H' s'->(∃m,s'.heap.Ns C m)->C≠X.env.locals->(∀x c,X.env.cells.lookup x=some c->c≠C)→
   (∀(σ':St) (s'':Af) (h'':Heap),c6 X aa σ' H' s''->Fb C s''.heap h''->c6 X aa σ' H' {s'' with heap:=h''})->Q (.ref D) H'->RR (.ref D) C (.ok .next) s'):
  wpAny (model X.prog X.w) X.A (Pz []) (fun acc s₃=>wpAny (model X.prog X.w) X.A (Jw scope X.env.globals cl [] X.env.qual none .none (some X.env)) (fun gf s₄=>
   Ga (model X.prog X.w) X.A (.compStart (.ListComp elt [⟨tg,iter,ifs,0⟩,⟨tg2,it2,ah,0⟩] scope pos) 0 (.ref it) acc {gf with scope:=relabel scope X.env}) (RR acc gf.locals) s₄) E s₃) E s2:=by
 refine Cu (Q5 ?_);dsimp only;have I1:c6 X aa σ (bP H2 s2.heap.objs.size (.lst [])) {s2 with heap:=s2.heap.push {cls:= .type "list",dict:=none,data:= .seq ([]:List Value).toArray}}:=
  I2.lnew (t':=s2.toks) (ys:=[]) (its:=[]) .nil (Dd _)
 have hDn:H2 s2.heap.objs.size=none:=I2.hok.fresh (Ao _);obtain⟨W,⟨m0,w0⟩,turn⟩:=h _ hDn;generalize hs1:({s2 with heap:=s2.heap.push {cls:= .type "list",dict:=none,data:= .seq ([]:List Value).toArray}}:Af)=s1 at I1;have cj:s2.heap.push {cls:= .type "list",dict:=none,data:= .seq ([]:List Value).toArray}=s1.heap:=by rw[<- hs1]
 rw[cj];have old: ∀b o,s1.heap.get? b=some o->(Kf (s1.heap.push {cls:= .type "dict",data:= .dict #[]}) scope.names).get? b=some o:=fun b o e=>Ji _ _ _ _ (Ad _ e);have hns₁:(Kf (s1.heap.push {cls:= .type "dict",data:= .dict #[]}) scope.names).Ns s1.heap.objs.size (fun _=>none):=(Rt s1.heap (.type "dict")).keeps fun b o e=>Ji _ _ _ _ e;have okc:=cellsFrom_ok scope.names (s1.heap.push {cls:= .type "dict",data:= .dict #[]}) (s1.heap.objs.size+1) [] ⟨fun _ _ hm=>(nomatch hm),Ka⟩ (by rw[Co];exact Ao _);rw[Co] at okc;generalize hz1:Kf (s1.heap.push {cls:= .type "dict",data:= .dict #[]}) scope.names=h₁ at old hns₁ okc;rw[UZ];generalize hnc:cellsFrom (s1.heap.objs.size+1) scope.names []=nc at okc;have ncm: ∀x c,nc.lookup x=some c->(x,Bx)∈scope.names/\h₁.IsCell c none/\s1.heap.objs.size+1<=c:=fun x c e=>by
  have hm:=Bt e;exact⟨LP (n:=s1.heap.objs.size+1) (by rw[hnc];exact hm),okc.empty x c hm⟩
 have nch: ∀x,(x,Bx)∈scope.names-> ∃c,nc.lookup x=some c:=fun x h=>by
  obtain⟨c,hc⟩:=LO (n:=s1.heap.objs.size+1) h;rw[hnc] at hc;exact T2 hc
 have eo: ∀b∈fp,b<s2.heap.objs.size:=fun b hb=>by
  obtain⟨o,e,_⟩:=T.obj _ _ st2 b hb;exact An e
 have g8:s1.heap.objs.size=s2.heap.objs.size+1:=by rw[<- cj,Co]
 have iz: ∀b o,s2.heap.get? b=some o->s1.heap.get? b=some o:=fun b o e=>by rw[<- cj];exact Ad _ e
 have cm: ∀x c,cl.lookup x=some c->c<s1.heap.objs.size:=fun x c e=>by
  obtain⟨v,q⟩:=I1.cell x c (bo x c e);exact q.lt
 have np: ∀b∈DO X.stack,b<s1.heap.objs.size:=fun b hb=>by
  obtain⟨_,o,ho,_⟩:=(I1.stack).mem hb;exact An ho
 have okY:(cJ X N' scope (nc++cl) s1 (bP H2 s2.heap.objs.size (.lst [])) fp).Ok:=by
  refine⟨I1.ok.mod,S.kind,I1.ok.glob,I1.ok.blt,Ao _,fun x y c e1 e2=> ?_,fun x hx=> ?_,fun x c hf e=> ?_,I1.ok.hd,I1.ok.frames,.inl rfl,fun b hb=>⟨?_,fun x c e=> ?_⟩,fun b o e=> ?_,
   Cf I1.ok.bsz I1.sz,fun b o e hb=> ?_,fun b hb hb2=> ?_,I1.stack,I1.stkFree⟩
  ·rcases bJ e1 with n1|⟨_,o1⟩
   ·rcases bJ e2 with n2|⟨_,o2⟩
    ·exact Nc okc.apart (Bt n1) (Bt n2)
    ·exact absurd (Ba (cm y c o2) (Ee (ncm x c n1).2.2)) (Bz _)
   ·rcases bJ e2 with n2|⟨_,o2⟩
    ·exact absurd (Ba (cm x c o1) (Ee (ncm y c n2).2.2)) (Bz _)
    ·exact I1.ok.inj x y c (bo x c o1) (bo y c o2)
  ·cases q:nc.lookup x with
   |some c=>exact⟨c,X5 q⟩
   |none=>
    rcases XY hx with h|h
    ·obtain⟨c,hc⟩:=gd x h
     exact⟨c,(XC q).trans hc⟩
    ·obtain⟨c,hc⟩:=nch x h
     rw[q] at hc;cases hc
  ·have hx:(x,Bx)∈scope.names:=Bt (beq_iff_eq.mp hf)
   obtain⟨c',hc'⟩:=nch x hx;have:=X5 (m:=cl) hc';have e:(nc++cl).lookup x=some c:=e;rw[this] at e;cases e;exact Ee (ncm x c hc').2.2
  ·exact Be (Ba (eo b hb) (by show s2.heap.objs.size<=s1.heap.objs.size;rw[g8];exact Gy _))
  ·rcases bJ e with n1|⟨_,o1⟩
   ·have h1:=eo b hb
    have h2:=(ncm x c n1).2.2;rw[g8] at h2;exact fun z=>absurd (z▸h2) (Pb (Ba h1 (Cf (Gy _) (Gy _))))
   ·exact(f2 b hb).2.2.2.2.1 x c (bo x c o1)
  ·exact I1.bs b o e
  ·have:=(f2 b hb)
   obtain⟨o',e',_⟩:=T.obj _ _ st2 b hb;have hlt:=Ba (An e) I1.ok.bsz;rcases this.2.2.2.1 with z|z
   ·exact I1.ok.noex b o e z
   ·exact absurd (Ba hlt z) (Bz _)
  ·rcases Al.mp (I1.stkSub b hb2) with z|z
   ·exact(f2 b hb).2.1 z
   ·exact(f2 b hb).2.2.1 z
 have dk:(bO ix σ++Bi nl none).length=N'.length:=by rw[Bv,Ie,hnl];simp[bO]
 have IY:c6 (cJ X N' scope (nc++cl) s1 (bP H2 s2.heap.objs.size (.lst [])) fp) [] (bO ix σ++Bi nl none) (bP H2 s2.heap.objs.size (.lst [])) {s2 with heap:=h₁}:=by
  refine⟨okY,?_,I2.bare,Un.kept old,⟨_,hns₁,fun j x v e1 e2 e3=> ?_⟩,fun x c e=> ?_,I1.hok.fresh (Ao _),fun x c e=> ?_,fun p hp=>absurd (show p∈([]:List (Addr×Obj)) from hp) (by simp),I1.hok.kept old,dk⟩
  ·show s2.os=s1.os
   rw[<- hs1]
  ·have hj:j<ix.length:=by
    by_cases hj:j<ix.length
    ·exact hj
    ·exfalso
     have hl:(bO ix σ).length=ix.length:=by simp[bO]
     rw[Ci (by rw[hl];lia),Cp] at e2;split at e2<;>cases e2
   have hl:(bO ix σ).length=ix.length:=by simp[bO]
   rw[Ap (by rw[hl];exact hj)] at e2;have hci:=S.cap j hj;obtain⟨i,hi⟩: ∃i,ix[j]? =some i:=⟨ix[j],by simp[hj]⟩;rw[hi] at hci;have hNi:X.N[i]? =some x:=by
    have:N'[j]? =X.N[i]? :=hci;rw[<- this];exact e1
   have hσ:σ[i]? =some (some v):=by
    unfold bO at e2;rw[Cv,hi] at e2;have e2':(σ[i]?).join=some v:=by simpa using e2
    cases q:σ[i]? with
    |none=>rw[q] at e2';cases e2'
    |some o=>rw[q] at e2';rw[show o=some v from e2']
   have hfl:scope.names.lookup x=some .free:=S.capf x (by
    rw[Ij];exact⟨j,by rw[Ch hj];exact e1⟩)
   have az:(x,Bp)∈scope.names:=Bt hfl;have hpk:X.env.kindOf x=some .cell∨X.env.kindOf x=some .free:=by exact S.free (x,.free) az rfl
   have j6:Vis X.env.scope x:=by
    rcases hpk with z|z
    ·exact .inr (.inl z)
    ·exact .inr (.inr z)
   obtain⟨m,hn,j8⟩:=I1.loc;obtain⟨u,ru,l⟩:=j8 i x v hNi hσ j6;refine⟨u,ru,?_⟩;rcases l with⟨hk,_⟩|⟨hk,c,ec,z⟩
   ·rcases hpk with q|q<;>rw[hk] at q<;>cases q
   ·obtain⟨c',hc'⟩:=gd x az
    have:c'=c:=by
     have:=bo x c' hc';rw[ec] at this;exact(Cb this).symm
    subst this;have j7:nc.lookup x=none:=by
     cases q:nc.lookup x with
     |none=>rfl
     |some d=>
      have:=S.cel (x,.cell) (ncm x d q).1 rfl;rw[hfl] at this;cases this
    refine .inr ⟨WJ hfl,c',(XC j7).trans hc',?_⟩
    ·obtain⟨o,ho,hd⟩:=z
     exact⟨o,old _ _ ho,hd⟩
  ·rcases bJ e with n1|⟨_,o1⟩
   ·exact⟨none,(ncm x c n1).2.1⟩
   ·obtain⟨v,o,ho,hd⟩:=I1.cell x c (bo x c o1)
    exact⟨v,o,old _ _ ho,hd⟩
  ·rcases bJ e with n1|⟨_,o1⟩
   ·exact I1.hok.fresh (Ee (ncm x c n1).2.2)
   ·exact I1.freeC x c (bo x c o1)
 have jb: ∀{pY:List (Addr×Obj)} {σ':St} {H':Hp} {s':Af},c6 (cJ X N' scope (nc++cl) s1 (bP H2 s2.heap.objs.size (.lst [])) fp) pY σ' H' s'->c6 X aa σ H' s':=fun{pY σ' H' s'} J'=>
  I1.call' J'.os J'.base J'.hok J'.bare fun b hb=>⟨(f2 b hb).2.2.2.1,(f2 b hb).2.1,(f2 b hb).2.2.2.2.1,(f2 b hb).2.2.2.2.2⟩
 have stat: ∀{H':Hp} {pY:List (Addr×Obj)},(∀b∈fp,H' b=none)->pY=[]-> ∀b∈fp,RB (cJ X N' scope (nc++cl) s1 (bP H2 s2.heap.objs.size (.lst [])) fp) pY H' b:=fun{H' pY} hn hp b hb=>by
  subst hp;refine⟨hn b hb,(okY.exf b hb).1,okY.exfs b hb,.inl hb,(okY.exf b hb).2,fun p hp=>absurd (show p∈([]:List (Addr×Obj)) from hp) (by simp)⟩
 have st1:tn 0 h₁:=T.keep 0 s2.heap h₁ st2 fun b hb o e=>old b o (iz b o e);have fr1: ∀b∈fp,(bP H2 s2.heap.objs.size (.lst [])) b=none:=fun b hb=>by
  rw[cE (Be (eo b hb))];exact(f2 b hb).1
 have loop: ∀s₃:Af,s₃={s2 with heap:=h₁}→
   Ga (model X.prog X.w) X.A (.compLoop (.ListComp elt [⟨tg,iter,ifs,0⟩,⟨tg2,it2,ah,0⟩] scope pos) 0 (.ref it) (.ref s2.heap.objs.size) (Pg scope (nc++cl) s1.heap.objs.size X.env)) (RR (.ref s2.heap.objs.size) s1.heap.objs.size) s₃:=by
  rintro s₃ rfl;refine G8 (hs:=hs2 _) (fun n s'=> ∃i σ' H' acc,c6 (cJ X N' scope (nc++cl) s1 (bP H2 s2.heap.objs.size (.lst [])) fp) [] σ' H' s'/\σ'.take ix.length=bO ix σ/\tn i s'.heap/\(∀b∈fp,H' b=none)/\W i n acc H') ?_ m0
   ⟨0,_,_,[],IY,by rw[Cs (by simp[bO])];exact Ca (by simp[bO]),st1,fr1,w0⟩
  rintro n s' ⟨i,σ',H',acc,J',hσ,st',fr',w'⟩;have Jc:c6 (cJ X N' scope (nc++cl) s1 (bP H2 s2.heap.objs.size (.lst [])) fp) [] (bO ix σ++Bi nl none) H' s':=by
   refine J'.weak (by rw[dk];exact J'.len.symm) fun j v e=> ?_;have hl:(bO ix σ).length=ix.length:=by simp[bO]
   by_cases hj:j<ix.length
   ·rw [Ap (by rw [hl];exact hj),<- hσ,Ch hj] at e
    exact e
   ·rw [Ci (by rw [hl];lia),Cp] at e
    split at e<;>cases e
  rcases turn i n acc H' w' with⟨stop,q⟩|⟨go,N,hN,step⟩
  ·refine Az (T.done (cJ X N' scope (nc ++ cl) s1 (bP H2 s2.heap.objs.size (.lst [])) fp) rfl rfl rfl hc i [] s' _ H' (fun _ _ => False) Jc (stat fr' rfl) st' stop) (fun r s4 ⟨hr,I4⟩ => ?_) fun _ _ z => z
   subst hr;have IX:=jb I4;obtain⟨m,hm,_⟩:=I4.loc;exact fin _ _ s4 H' IX ⟨m,hm⟩ (Gg I1.lt) (fun x c e z=>by
    obtain⟨v,q⟩:=I1.cell x c e;have:=q.lt;rw[z] at this;exact Bz _ this) (fun σ'' s'' h'' I'' sb=>c6.offNew I1 I'' I4.free fun b o hb e=>(sb.2 b hb).trans e) q
  ·refine Az (T.item (cJ X N' scope (nc ++ cl) s1 (bP H2 s2.heap.objs.size (.lst [])) fp) rfl rfl rfl hc i [] s' _ H' (fun _ _ => False) Jc (stat fr' rfl) st' go) (fun r s4 ⟨u,hr,h4⟩ => ?_) fun _ _ z => z
   subst hr;refine Az h4 (fun _ s5 ⟨x,H5,I5,r5,y5,st5,fr5⟩=> ?_) fun _ _ z=>z;have I5':=I5.pinned (stat fr5 rfl) (T.obj _ _ st5);obtain⟨btg,bts,bit,bt2,bs2,bel⟩:=blk (nc++cl) s1 (bP H2 s2.heap.objs.size (.lst [])) fp;refine Az (btg _ s5 _ H5 x u _ I5' r5 (step x H5 y5)) (fun _ s6 ⟨σ6,H6,I6,hσ6,q6⟩=> ?_) fun _ _ z=>z;have again: ∀{σ7:St} {H7:Hp} {s7:Af} {ae:List V},σ7.take ix.length=bO ix σ->c6 (cJ X N' scope (nc++cl) s1 (bP H2 s2.heap.objs.size (.lst [])) fp) ([]++T7 fp s5.heap) σ7 H7 s7->N ae H7→
     ∃m,m<n/\ ∃i σ' H' acc,c6 (cJ X N' scope (nc++cl) s1 (bP H2 s2.heap.objs.size (.lst [])) fp) [] σ' H' s7/\σ'.take ix.length=bO ix σ/\tn i s7.heap/\(∀b∈fp,H' b=none)/\W i m acc H':=fun{σ7 H7 s7 ae} hσ7 I7 n7=>by
    obtain⟨m',hm,w7⟩:=hN ae H7 n7;refine⟨m',hm,i+1,σ7,H7,ae,I7.unpinned,hσ7,T.keep _ _ _ st5 fun b hb o e=>(I7.pin (b,o) (Ay _ (Ay _ (ZR hb e)))).1,fun b hb=> ?_,w7⟩;obtain⟨o,e,d⟩:=T.obj _ _ st5 b hb;exact(I7.pin (b,o) (Ay _ (Ay _ (ZR hb e)))).2.1
   refine Az (bts _ s6 σ6 H6 _ I6 q6) (fun okb s7 ⟨H7,I7,q7⟩=> ?_) fun _ _ z=>z;cases okb with
   |false=>exact again hσ6 I7 q7
   |true=>
    refine Az (zJJ (Y:=cJ X N' scope (nc++cl) s1 (bP H2 s2.heap.objs.size (.lst [])) fp) hc rfl bit bt2 bs2 bel I7 q7) (fun x s8 h8=>Az h8 (fun i2 s9 h9=>Gz h9 fun r s10 h10=> ?_) fun _ _ z=>z) fun _ _ z=>z;cases r with
    |ok f=>
     obtain⟨ae,σ',H',I9,hσ9,n9⟩:=h10;exact again hσ9 I9 n9
    |error e=>exact h10.elim
 have he:({newEnv scope s1.heap.objs.size X.env.globals (nc++cl) X.env.qual none .none (some X.env) builtinsNs with scope:=relabel scope X.env}:Env)=Pg scope (nc++cl) s1.heap.objs.size X.env:=rfl;exact Le (loop _ rfl) (T.self _ 0 _ _ _ st1 (loop _ rfl))
theorem AH{X:Cx}{tg iter tg2 it2 elt:Expr}{ifs ah:List Expr}{scope:Scope}{pos:Pos}{N':List Str}{ix:List Nat}{nl:Nat}{wi wi2:TI}{g g2:TG}{tt tt2:TT}{te:TE}
  (hc:X.calm=true) (S:VZ X N' ix scope) (hnl:N'.length=ix.length+nl) (hi:PI X tg iter wi)
  (blk: ∀(cl:List (Str×Addr)) (s1:Af) (H1:Hp) (fp:List Addr),Blk2 (cJ X N' scope cl s1 H1 fp) tg ifs tg2 it2 ah elt g tt wi2 g2 tt2 te)
  (hs: ∀x,foldedSetIterable iter X.env x=pure x:=by intro _;rfl) (hs2: ∀(env:Env) (x:Value),foldedSetIterable it2 env x=pure x:=by intro _ _;rfl):PE X (.ListComp elt [⟨tg,iter,ifs,0⟩,⟨tg2,it2,ah,0⟩] scope pos) (IK ix nl wi g tt wi2 g2 tt2 te):=by
 intro aa s σ H Q I h;rw[eval_ListComp];obtain⟨cl,e1,e2,e3⟩:=QB (env:=X.env) (scope:=scope) fun y hy hf=>I.ok.has y.1 (S.free y hy hf);refine Fq (use:=none) (cl:=cl) rfl hs e1 S.kind S.names (Az (hi aa s σ H _ I h) (fun xv s₁ h₁=>Az h₁ (fun itv s₂ h₂=> ?_) fun _ _ e=>e) fun _ _ e=>e);obtain⟨it,fp,tn,J,H2,e,I2,T,st2,f2,q⟩:=h₂;subst e;refine OF (Q:=Q) (RR:=fun acc C=>Rc (model X.prog X.w) X.A X.xe none (EP X aa σ Q) acc C) hs2 hc S hnl e2 e3 blk I2 T st2 f2 q ?_;intro D C s' H' I' hm hC1 hC2 hb hq;obtain⟨m,hm⟩:=hm;exact⟨m,hm,fun h'' sb=>⟨.ref D,H',hb σ s' h'' I' sb,rfl,hq⟩⟩
noncomputable def T0(gg:VG)(tb:VB)(fe:VF):List dP->List dP->Ev->Option (List dP×Ev)
 |[],acc,δ=>some (acc,δ)
 |d::r,acc,δ=>(gg d δ).bind fun δ1=>(tb δ1).bind fun p=>if p.1=true then(fe p.2).bind fun q=>if acc.length<16777216 then T0 gg tb fe r (acc++[q.1]) q.2 else none else T0 gg tb fe r acc p.2
noncomputable def ZF(n nl:Nat)(gg:VG)(tb:VB)(fi2:VI)(gg2:VG)(tb2:VB)(fe:VF):List dP->List dP->Ev->Option (List dP×Ev)
 |[],acc,δ=>some (acc,δ)
 |d::r,acc,δ=>(gg d (δ++PC nl)).bind fun δ1=>(tb δ1).bind fun p=>if p.1=true then(fi2 p.2).bind fun u=>(T0 gg2 tb2 fe u.1 acc u.2).bind fun q=>ZF n nl gg tb fi2 gg2 tb2 fe r q.1 (q.2.take n) else ZF n nl gg tb fi2 gg2 tb2 fe r acc (p.2.take n)
noncomputable def W0(ix:List Nat)(nl:Nat)(fi:VI)(gg:VG)(tb:VB)(fi2:VI)(gg2:VG)(tb2:VB)(fe:VF):VF:=fun δ=>(fi δ).bind fun p=>(ZF ix.length nl gg tb fi2 gg2 tb2 fe p.1 [] (cF ix p.2)).map fun q=>(.lst q.1,Z3 ix q.2 p.2)
section
variable{X:Cx}{K:As}{ml:List Nat}{e a b c:Expr}{es:List Expr}{pi pt pe pi2 pt2 pu bt bi ps bs:Bool}{f:VF}{B B':Bs}{O:Nat->Option Addr}{H H0 H1 H':Hp}{σ:St}{δ δ':Ev}{v:V}{d:dP}{p:Addr}{pos:Pos}{ix:List Nat}{nl:Nat}
theorem KY{fi fi2:VI}{gg gg2:VG}{tb tb2:VB}{fe:VF}(hnd:ix.Nodup){Q:VK}(h:TN K ml (pi && (pt && pi2 && pt2 && pe)) (W0 ix nl fi gg tb fi2 gg2 tb2 fe) σ H Q):
  IK ix nl (GX K ml pi fi) (EV K (Am ix.length) gg) (TB K (Am ix.length) pt tb) (GX K (Am ix.length) pi2 fi2) (EV K (Am ix.length) gg2) (TB K (Am ix.length) pt2 tb2) (TV K (Am ix.length) pe true true fe) σ H Q:=by
 obtain⟨B,O,δ,d,δ2,S,q,k⟩:=h;unfold W0 at q;obtain⟨⟨ds,δ1⟩,h1,q⟩:=Aa.mp q;have q:((ZF ix.length nl gg tb fi2 gg2 tb2 fe ds [] (cF ix δ1)).map fun q=>(dP.lst q.1,Z3 ix q.2 δ1))=some (d,δ2):=q;obtain⟨⟨res,δf⟩,h2,q⟩:=Aq.mp q;cases q;refine⟨B,O,δ,ds,δ1,S,h1,fun J kps H0 S0 f0 p0 wk D hD=> ?_⟩;have hDO: ∀j,Oc ix O j≠some D:=fun j e=>by
  unfold Oc at e;obtain⟨i,hi,e⟩:=Aa.mp e;obtain⟨o,q⟩:=S0.nin (.inr ⟨i,e⟩);rw[hD] at q;cases q
 have dh: ∀kp j,ix.length<=j->(Bc ix B O H0 D kp).mu j=none:=fun kp j hj=>by
  show(ix[j]?).bind O=none;rw[Bu hj];rfl
 refine⟨fun i m acc H1=>m=ds.length - i/\i<=ds.length/\ ∃(ai:List dP) (δc:Ev),δc.length=ix.length/\acc.length=ai.length∧
   bB K (Am ix.length) (Bc ix B O H0 D (kps++acc.zip ai)) (Oc ix O) H1 (bO ix σ++Bi nl none) (δc++PC nl)/\H1 D=some (.lst acc)/\((pt && pi2 && pt2 && pe)=true->bR H0 H1)∧
   ZF ix.length nl gg tb fi2 gg2 tb2 fe (ds.drop i) ai δc=some (res,δf),
  ⟨ds.length,rfl,Dd _,[],cF ix δ1,by simp [cF],rfl,by
   rw[Kc,Ef];exact S0.unkeep.inner hD hnd fun p hp=>S0.kep p (Bo _ hp),c0,fun _=>dJ hD,h2⟩,?_⟩
 rintro i m acc H1 ⟨rfl,hi,ai,δc,hlc,aq,S1,hD1,ca,hc⟩;have w:=wk (Nn (Bc ix B O H0 D (kps++acc.zip ai)) (Oc ix O)) H1 fun p hp=>S1.kep p (Bo _ hp);by_cases hlt:i<ds.length
 ·obtain ⟨go,yl⟩ := w.1 i ds[i] (by simp [hlt])
  rw[Cw hlt] at hc;simp only[ZF] at hc;obtain⟨δ3,g1,hc⟩:=Aa.mp hc;obtain⟨⟨kk,δ4⟩,g2,hc⟩:=Aa.mp hc;refine .inr ⟨go,fun ae H'=> ∃(ai:List dP) (δc:Ev),δc.length=ix.length/\ae.length=ai.length∧
   bB K (Am ix.length) (Bc ix B O H0 D (kps++ae.zip ai)) (Oc ix O) H' (bO ix σ++Bi nl none) (δc++PC nl)/\H' D=some (.lst ae)/\((pt && pi2 && pt2 && pe)=true->bR H0 H')∧
   ZF ix.length nl gg tb fi2 gg2 tb2 fe (ds.drop (i+1)) ai δc=some (res,δf),fun ae H' w'=>⟨ds.length - (i+1),by lia,rfl,hlt,w'⟩,fun x H2 hy=> ?_⟩
  obtain⟨sm,rx⟩:=yl x H2 hy;refine⟨_,_,_,ds[i],δ3,S1.same sm,rx,g1,fun σ3 O3 S3 m3=> ?_⟩;have ln3:=LN m3;have hσ3:=SA ln3 m3;refine⟨hσ3,_,_,δ3,kk,δ4,S3,g2,fun H4 R4=> ?_⟩;have hD4:H4 D=some (.lst acc):=R4.frm _ _ (sm _ _ hD1) fun z=>by
   obtain⟨j,e⟩:=z;have:=(R4.sta.old j D e).1;exact absurd (.inl (.inr rfl)) this
  have ln4:ix.length<=δ4.length:=by rw[<- R4.sta.len];exact ln3
  cases kk with
  |false=>
   rw[if_neg De] at hc;refine QV ⟨ai,δ4.take ix.length,by rw[Cg];lia,aq,R4.sta.turn (dh _) (ZC ix σ) hσ3 ln4,hD4,fun z=> ?_,hc⟩;simp only[Ae] at z;exact((ca (by simp[z.1.1.1,z.1.1.2,z.1.2,z.2])).trans sm).trans (R4.pur z.1.1.1)
  |true=>
   rw[if_pos rfl] at hc;obtain⟨⟨ds2,δ5⟩,g3,hc⟩:=Aa.mp hc;obtain⟨⟨i9,δ2f⟩,g4,hc⟩:=Aa.mp hc;refine QW ⟨_,_,δ4,ds2,δ5,R4.sta,g3,fun J2 f9 H5 S5 f5 p5 wk2=> ?_⟩;have hD5:H5 D=some (.lst acc):=f5 _ _ hD4 fun z=>by
    obtain⟨j,e⟩:=z;have:=(R4.sta.old j D e).1;exact absurd (.inl (.inr rfl)) this
   refine⟨fun i2 m2 cr σ1 H6=>m2=ds2.length - i2/\i2<=ds2.length/\ ∃(ax:List dP) (δc1:Ev) (O1:Nat->Option Addr),cr.length=ax.length∧
     bB K (Am ix.length) (Bc ix B O H0 D (f9++(kps++cr.zip ax))) O1 H6 σ1 δc1/\σ1.take ix.length=bO ix σ/\ix.length<=σ1.length/\H6 D=some (.lst cr)/\((pt && pi2 && pt2 && pe)=true->bR H0 H6)∧
     T0 gg2 tb2 fe (ds2.drop i2) ax δc1=some (i9,δ2f),
    ⟨ds2.length,rfl,Dd _,ai,δ5,_,aq,S5,hσ3,ln3,hD5,fun z => by
     simp only[Ae] at z;exact(((ca (by simp[z.1.1.1,z.1.1.2,z.1.2,z.2])).trans sm).trans (R4.pur z.1.1.1)).trans (p5 z.1.1.2),g4⟩,?_⟩
   rintro i2 m2 cr σ1 H6 ⟨rfl,hi2,ax,δc1,O1,dm,S6,hσ1,ln1,hD6,j3,hc6⟩;have w2:=wk2 (Nn (Bc ix B O H0 D (f9++(kps++cr.zip ax))) O1) H6 fun p hp=>S6.kep p (Bo _ hp);by_cases di:i2<ds2.length
   ·obtain ⟨go2,yl2⟩ := w2.1 i2 ds2[i2] (by simp [di])
    rw[Cw di] at hc6;simp only[T0] at hc6;obtain⟨δ7,k1,hc6⟩:=Aa.mp hc6;obtain⟨⟨kk2,δ8⟩,k2,hc6⟩:=Aa.mp hc6;refine .inr ⟨go2,fun ae σ' H'=> ∃(ax:List dP) (δc1:Ev) (O1:Nat->Option Addr),ae.length=ax.length∧
     bB K (Am ix.length) (Bc ix B O H0 D (f9++(kps++ae.zip ax))) O1 H' σ' δc1/\σ'.take ix.length=bO ix σ/\ix.length<=σ'.length/\H' D=some (.lst ae)/\((pt && pi2 && pt2 && pe)=true->bR H0 H')∧
     T0 gg2 tb2 fe (ds2.drop (i2+1)) ax δc1=some (i9,δ2f),fun ae σ' H' w'=>⟨ds2.length - (i2+1),by lia,rfl,di,w'⟩,fun x2 H7 hy2=> ?_⟩
    obtain⟨sm2,rx2⟩:=yl2 x2 H7 hy2;refine⟨_,_,_,ds2[i2],δ7,S6.same sm2,rx2,k1,fun σ7 O7 S7 m7=> ?_⟩;have hσ7:σ7.take ix.length=bO ix σ:=by
     rw[<- hσ1];refine Kb fun j=> ?_;rw[Nd,Nd];split
     ·rename_i hj
      exact m7 j (Bk.mpr hj)
     ·rfl
    have ln7:ix.length<=σ7.length:=by
     have:(σ7.take ix.length).length=ix.length:=by rw[hσ7,ZC]
     rw[Cg] at this;lia
    refine⟨_,_,δ7,kk2,δ8,S7,k2,fun H8 R8=> ?_⟩;have hD8:H8 D=some (.lst cr):=R8.frm _ _ (sm2 _ _ hD6) fun z=>by
     obtain⟨j,e⟩:=z;have:=(R8.sta.old j D e).1;exact absurd (.inl (.inr rfl)) this
    cases kk2 with
    |false=>
     rw[if_neg De] at hc6;refine QV ⟨ax,δ8,_,dm,R8.sta,hσ7,ln7,hD8,fun z=> ?_,hc6⟩;have z0:=z;simp only[Ae] at z;exact((j3 z0).trans sm2).trans (R8.pur z.1.2)
    |true=>
     rw[if_pos rfl] at hc6;obtain⟨⟨dv,δ9⟩,k3,hc6⟩:=Aa.mp hc6;split at hc6
     ·rename_i hz
      refine QW ⟨_,_,δ8,dv,δ9,R8.sta,k3,fun v H9 R9=> ?_⟩;have hD9:H9 D=some (.lst cr):=R9.frm _ _ hD8 fun z=>by
       obtain⟨j,e⟩:=z;have:=(R9.sta.old j D e).1;exact absurd (.inl (.inr rfl)) this
      have hv:b6 K (Nn (Bc ix B O H0 D (f9++(kps++cr.zip ax))) O7) H9 (Nn (Bc ix B O H0 D (f9++(kps++cr.zip ax))) O7) v dv:=R9.rep.mono (fun a h=>by
       rcases h with h|h
       ·exact .inl h
       ·exact .inr h) (fun a h=>by
       rcases h with h|h
       ·exact .inl h
       ·exact .inr h)
      have S10:=R9.sta.withKp (kp:=f9++(kps++(cr++[v]).zip (ax++[dv]))) fun p hp=>by
       rw[Ls dm,<- Cn,<- Cn] at hp;rcases Cc.mp hp with z|z
       ·exact R9.sta.kep p (by rw[<- Cn];exact z)
       ·rw[Ax.mp (show p∈[(v,dv)] from z)]
        exact hv
      refine⟨hD9,by rw[dm,Dc];exact hz,ax++[dv],δ9,O7,by simp[dm],?_,hσ7,ln7,c0,fun z=> ?_,hc6⟩
      ·exact S10.writeZ (.inl (.inr rfl)) hD9 hD
      ·intro b o e
       have hb:b≠D:=fun z=>by rw[z,hD] at e;cases e
       rw[cE hb];have z0:=z;simp only[Ae] at z;exact(((j3 z0).trans sm2).trans ((R8.pur z.1.2).trans (R9.pur z.2))) b o e
     ·cases hc6
   ·have e : i2 = ds2.length := by lia
    subst e;rw[Fx] at hc6;cases hc6;refine .inl ⟨w2.2,hσ1,i9,δ2f.take ix.length,by rw[Cg,<- S6.len];lia,dm,?_,hD6,j3,hc⟩;have S11:=S6.turn (nl:=nl) (dh _) (ZC ix σ) hσ1 (by rw[<- S6.len];exact ln1);exact S11.withKp (kp:=kps++cr.zip i9) fun p hp=>S11.kep p (Ay _ hp)
 ·have e : i = ds.length := by lia
  subst e;rw[Fx] at hc;cases hc;refine .inl ⟨w.2,k D H1 ?_⟩;have fP:Fr (OA (Oc ix O)) H0 H1:=S1.frm;have hPO: ∀a,OA (Oc ix O) a->OA O a:=fun a q0=>by
   obtain⟨j,e⟩:=q0;unfold Oc at e;cases hi:ix[j]? with
   |none=>rw[hi] at e;cases e
   |some i=>rw[hi] at e;exact⟨i,e⟩
  have SL:=S0.unkeep.laid (o:= .lst acc) hD;have fL:Fr (OA (Oc ix O)) (bP H0 D (.lst acc)) H1:=fun b o e n=>by
   by_cases hb:b=D
   ·subst hb
    rw[c0] at e;cases e;exact hD1
   ·rw[cE hb] at e
    exact fP b o e n
  refine⟨SL.call (YH) (fun i=> ?_) fL hPO,f0.trans (fP.mono hPO),fun z=> ?_,.lst hD1 (WK aq fun p hp=>(S1.kep p (Ay _ hp)).mono WD WD),S0.unkeep.new hD,S0.fresh hD⟩
  ·by_cases dj:i<δ1.length
   ·rcases XJ (ix:=ix) (ss:=δf) (δ:=δ1) i dj hlc.symm with⟨j,x,e1,e2,e3⟩|⟨e1,e2⟩
    ·have e4:(δf++PC nl)[j]? =some (.ow x):=by
      rw[Ap (Ag.mp e2).1];exact e2
     obtain⟨a,e5,_,w⟩:=S1.ow j x e4;refine .inr ⟨a,x,?_,e3,w.mono WD⟩;unfold Oc at e5;rw[e1] at e5;exact e5
    ·refine .inl ⟨e2,fun a ea ⟨j,ej⟩ => ?_⟩
     obtain⟨x,ex⟩:=S1.dom j a ej;unfold Oc at ej;cases hi:ix[j]? with
     |none=>rw[hi] at ej;cases ej
     |some i'=>
      rw[hi] at ej;have:i=i':=S0.inj i i' a ea ej;subst this;have hj:j<δf.length:=by rw[hlc];exact(Ag.mp hi).1
      rw[Ap hj] at ex;exact e1 j x hi ex
   ·refine .inl ⟨?_,fun a ea => ?_⟩
    ·rw[Bu (by rw[YH];lia),Bu (by lia)]
    ·obtain⟨x,ex⟩:=S0.dom i a ea
     exact absurd (Ag.mp ex).1 dj
  ·rw[Ae] at z
   exact(p0 z.1).trans (ca z.2)
theorem K2{tg iter tg2 it2 elt:Expr}{ifs ah:List Expr}{scope:Scope}{N':List Str}{fi fi2:VI}{gg gg2:VG}{tb tb2:VB}{fe:VF}
  (hc:X.calm=true) (hk:scope.kind= .function) (hok:U0 X.N N' ix scope.names X.env.kindOf=true) (hnl:N'.length=ix.length+nl) (hnd:ix.Nodup) (hi:PI X tg iter (GX K ml pi fi))
  (blk: ∀(cl:List (Str×Addr)) (s1:Af) (H1:Hp) (fp:List Addr),Blk2 (cJ X N' scope cl s1 H1 fp) tg ifs tg2 it2 ah elt (EV K (Am ix.length) gg) (TB K (Am ix.length) pt tb) (GX K (Am ix.length) pi2 fi2) (EV K (Am ix.length) gg2) (TB K (Am ix.length) pt2 tb2) (TV K (Am ix.length) pe true true fe))
  (hs: ∀x,foldedSetIterable iter X.env x=pure x:=by intro _;rfl) (hs2: ∀(env:Env) (x:Value),foldedSetIterable it2 env x=pure x:=by intro _ _;rfl):PE X (.ListComp elt [⟨tg,iter,ifs,0⟩,⟨tg2,it2,ah,0⟩] scope pos) (TN K ml (pi && (pt && pi2 && pt2 && pe)) (W0 ix nl fi gg tb fi2 gg2 tb2 fe)):=
 (AH hc (Z2 hk hok) hnl hi blk hs hs2).imp fun _ _ _ h=>KY hnd h
end
section
variable{X:Cx}{K:As}{ml:List Nat}{pi pt pe pi2 pt2 pu:Bool}{pos:Pos}{ix:List Nat}{nl:Nat}{f:VF}
theorem AS{i:Nat}{y:Str}{py bq:Pos}{tg iter tg2 it2 elt:Expr}{ifs ah:List Expr}{scope:Scope}{N':List Str}{wi wi2:TI}{g g2:TG}{tt tt2:TT}{te:TE}
  (hN:X.N.Nodup) (hi':X.N[i]? =some y) (hy:X.env.scope.names.lookup y=some .local)
  (hc:X.calm=true) (S:VZ X N' ix scope) (hnl:N'.length=ix.length+nl) (hi:PI X tg iter wi)
  (blk: ∀(cl:List (Str×Addr)) (s1:Af) (H1:Hp) (fp:List Addr),Blk2 (cJ X N' scope cl s1 H1 fp) tg ifs tg2 it2 ah elt g tt wi2 g2 tt2 te)
  (hsw:Gf (.ListComp elt [⟨tg,iter,ifs,0⟩,⟨tg2,it2,ah,0⟩] scope pos) (some (.Name y py)) bq.line X.env=pure true:=by rfl)
  (hs: ∀x,foldedSetIterable iter X.env x=pure x:=by intro _;rfl) (hs2: ∀(env:Env) (x:Value),foldedSetIterable it2 env x=pure x:=by intro _ _;rfl):PS X (.Assign [.Name y py] (.ListComp elt [⟨tg,iter,ifs,0⟩,⟨tg2,it2,ah,0⟩] scope pos) bq) (BV (IK ix nl wi g tt wi2 g2 tt2 te) (JM i)):=by
 intro aa s σ H D I h;rw[Lv _ _ _ _ hsw];refine Ac (Dw (Ac ?_));show wpAny _ X.A (do let _<- comprehension (.ListComp elt [⟨tg,iter,ifs,0⟩,⟨tg2,it2,ah,0⟩] scope pos) scope X.env _ (Pz []) false (eval iter X.env) (some (Ex (.Name y py) X.env))) _ _ s;obtain⟨cl,e1,e2,e3⟩:=QB (env:=X.env) (scope:=scope) fun y hy hf=>I.ok.has y.1 (S.free y hy hf);refine Ac (Az (Fq (use:=some (Ex (.Name y py) X.env)) (cl:=cl) (Q:=fun _ s'=>SP X aa D .next s') rfl hs e1 S.kind S.names
  (Az (hi aa s σ H _ I h) (fun xv s₁ h₁=>Az h₁ (fun itv s₂ h₂=> ?_) fun _ _ e=>e) fun _ _ e=>e)) (fun _ s' hq=>Aj (Aj hq)) fun _ _ e=>e)
 obtain⟨it,fp,tn,J,H2,e,I2,T,st2,f2,q⟩:=h₂;subst e;refine OF (Q:=fun v H'=>D.nx (σ.set i (some v)) H') (RR:=fun acc C=>Rc (model X.prog X.w) X.A X.xe (some (Ex (.Name y py) X.env)) (fun _ s'=>SP X aa D .next s') acc C) hs2 hc S hnl e2 e3 blk I2 T st2 f2 q ?_;intro Dl C s' H' I' hm hC1 hC2 hb hq;obtain⟨m,hm⟩:=hm;show wpAny _ X.A (Ex (.Name y py) X.env (.ref Dl)) _ _ _;refine Go (R7 I' hN hi' (.inl hy) (v:= .ref Dl) rfl (fun s'' I'' ⟨a,hsb,ha⟩=> ?_) (.inr hy));have hCa:C≠a:=by
  rcases ha with z|z
  ·rw[z];exact hC1
  ·exact Dg (hC2 y a z)
 exact⟨m,hm.sameBut hsb hCa,fun h'' sb=>⟨_,H',hb _ s'' h'' I'' sb,hq⟩⟩
theorem CF{i:Nat}{y:Str}{py bq:Pos}{tg iter tg2 it2 elt:Expr}{ifs ah:List Expr}{scope:Scope}{N':List Str}{fi fi2:VI}{gg gg2:VG}{tb tb2:VB}{fe:VF}(o:Bool)
  (hN:X.N.Nodup) (hi':X.N[i]? =some y) (hy:X.env.scope.names.lookup y=some .local)
  (hc:X.calm=true) (hk:scope.kind= .function) (hok:U0 X.N N' ix scope.names X.env.kindOf=true) (hnl:N'.length=ix.length+nl) (hnd:ix.Nodup) (hi:PI X tg iter (GX K ml pi fi))
  (blk: ∀(cl:List (Str×Addr)) (s1:Af) (H1:Hp) (fp:List Addr),Blk2 (cJ X N' scope cl s1 H1 fp) tg ifs tg2 it2 ah elt (EV K (Am ix.length) gg) (TB K (Am ix.length) pt tb) (GX K (Am ix.length) pi2 fi2) (EV K (Am ix.length) gg2) (TB K (Am ix.length) pt2 tb2) (TV K (Am ix.length) pe true true fe))
  (hm:i∉ml:=by decide)
  (hsw:Gf (.ListComp elt [⟨tg,iter,ifs,0⟩,⟨tg2,it2,ah,0⟩] scope pos) (some (.Name y py)) bq.line X.env=pure true:=by rfl)
  (hs: ∀x,foldedSetIterable iter X.env x=pure x:=by intro _;rfl) (hs2: ∀(env:Env) (x:Value),foldedSetIterable it2 env x=pure x:=by intro _ _;rfl):PS X (.Assign [.Name y py] (.ListComp elt [⟨tg,iter,ifs,0⟩,⟨tg2,it2,ah,0⟩] scope pos) bq) (UE K ml (aV i (if o then xO (W0 ix nl fi gg tb fi2 gg2 tb2 fe) else xV (W0 ix nl fi gg tb fi2 gg2 tb2 fe)))):=
 (AS hN hi' hy hc (Z2 hk hok) hnl hi blk hsw hs hs2).imp fun D σ H h=>IL (fun σ H Q z=>KY hnd (B0 (pu:=pi && (pt && pi2 && pt2 && pe)) z)) hm h
end
end L2
namespace TS
open PySem PySem.W PyProof.Rows
structure En where
 prog:Bq
 w:World
 A:Cy
 s:Af
 κ:Ph
 it:Array Keyed
def En.Ok(n:Nat)(ck:Nat->Nat->Bool)(e:En):Prop:= ∀i j,i<n->j<n-> ∀C:Bool->Af->Prop,C (ck i j) e.s->kas_cmp e.prog e.w e.A e.κ e.it i j C e.s
abbrev En.at(e:En)(i:Nat):Keyed:=Kt e.it i
abbrev En.of(e:En)(p:Array Nat):Array Keyed:=p.map (Kt e.it)
structure Pu where
 p:Array Nat
 pd:Array (Nat×Nat×Nat)
 g:Nat
def BU(e:En)(x:Pu):Hu:=Kg e.κ (e.of x.p) x.pd x.g none
section
variable{n:Nat}{ck:Nat->Nat->Bool}
def D(n:Nat)(ck:Nat->Nat->Bool){α:Type}(f:En->StateT Hu Sem α)(x:Pu)(a:En->α)(y:Pu):Prop:=
 ∀e:En,e.Ok n ck-> ∀(E:Value->Af->Prop) (Q:α->Hu->Af->Prop),Q (a e) (BU e y) e.s->kasC (model e.prog e.w) e.A E (f e) Q (BU e x) e.s
def X(n:Nat)(ck:Nat->Nat->Bool){α τ:Type}(f:En->StateT Hu Sem α)(x:Pu)(v:τ->En->α)(R:τ->Pu->Prop):Prop:= ∃t y,R t y/\D n ck f x (v t) y
theorem D.pure{α:Type}{a:En->α}{x:Pu}:D n ck (fun e=>Qb (a e)) x a x:=fun e _ E Q h=>kasC_pure h
theorem D.bind{α β:Type}{f:En->StateT Hu Sem α}{k:En->α->StateT Hu Sem β}{x y z:Pu}{a:En->α}{b:En->β}(h1:D n ck f x a y)(h2:D n ck (fun e=>k e (a e)) y b z):D n ck (fun e=>f e>>=k e) x b z:=
 fun e o E Q h=>Qc (h1 e o E _ (h2 e o E Q h))
theorem D.get{x:Pu}:D n ck (fun _=>MonadState.get) x (fun e=>BU e x) x:=fun e _ E Q h=>kasC_get h
theorem D.modify{F:En->Hu->Hu}{x y:Pu}(h: ∀e,F e (BU e x)=BU e y):D n ck (fun e=>modify (F e)) x (fun _=>⟨⟩) y:=fun e _ E Q q=>Qd (by rw[h e];exact q)
theorem D.rule{r:String}{x:Pu}:D n ck (fun _=>(liftM (PySem.rule r):StateT Hu Sem Unit)) x (fun _=>()) x:=fun e _ E Q q=>kasC_lift (Gp q)
theorem D.elem{q:Array Nat}{i:Nat}{x:Pu}(hi:i<q.size):D n ck (fun e=>elem' (e.of q) i) x (fun e=>e.at (q.getD i 0)) x:=fun e _ E Q h=>by
 have e1:(e.of q)[i]? =some (e.at (q.getD i 0)):=by
  have e2:q.getD i 0=q[i]:=by simp[Qx,hi]
  rw[e2];simp[En.of,En.at,hi]
 show kasC _ _ _ (elem' (e.of q) i) Q _ _;rw[elem'_eq,e1];exact kasC_pure h
theorem D.lt{i j:Nat}{x:Pu}(hi:i<n)(hj:j<n):D n ck (fun e=>lt' (e.at i) (e.at j)) x (fun _=>some (ck i j)) x:=fun e o E Q h=>by
 show kasC _ _ _ (lt' (e.at i) (e.at j)) Q _ _;rw[lt'_eq];refine Qc (kasC_get ?_);refine Qc (kasC_lift (Na (Az (o i j hi hj (fun c s'=>c=ck i j/\s'=e.s) ⟨rfl,rfl⟩) (fun c s' hc=> ?_) fun _ _ hF=>hF.elim)));obtain⟨rfl,rfl⟩:=hc;exact kasC_pure h
theorem D.ltAt{i j:Nat}{x:Pu}(hi:i<x.p.size)(hj:j<x.p.size)(bi:x.p.getD i 0<n)(bj:x.p.getD j 0<n):D n ck (fun _=>ltAt' i j) x (fun _=>some (ck (x.p.getD i 0) (x.p.getD j 0))) x:=fun e o E Q h=>by
 show kasC _ _ _ (ltAt' i j) Q _ _;rw[ltAt'_eq];refine Qc (kasC_get ?_);exact(D.bind (D.elem hi) (D.bind (D.elem hj) (D.lt bi bj)):D n ck (fun e=>elem' (e.of x.p) i>>=fun u=>elem' (e.of x.p) j>>=fun v=>lt' u v) x _ x) e o E Q h
theorem D.rev{i j:Nat}{x:Pu}:D n ck (fun _=>reverseSlice' i j) x (fun _=>()) {x with p:=Oa x.p i j}:=fun e o E Q h=>by
 show kasC _ _ _ (reverseSlice' i j) Q _ _;rw[reverseSlice'_eq];refine Qd ?_;have e1:mirror (e.of x.p) i j ((j - i)/2)=e.of (mirror x.p i j ((j - i)/2)):=kas_swaps_map (Kt e.it) (fun k=>i+k) (fun k=>j - 1 - k) _ x.p;show Q () (Kg e.κ (mirror (e.of x.p) i j ((j - i)/2)) x.pd x.g none) e.s;rw[e1];exact h
theorem D.move{k l:Nat}{x:Pu}:D n ck (fun _=>moveDown' k l) x (fun _=>()) {x with p:=bubble x.p k (k - l)}:=fun e o E Q h=>by
 show kasC _ _ _ (moveDown' k l) Q _ _;rw[moveDown'_eq];refine Qd ?_;have e1:bubble (e.of x.p) k (k - l)=e.of (bubble x.p k (k - l)):=kas_swaps_map (Kt e.it) (fun i=>k - i) (fun i=>k - i - 1) _ x.p;show Q () (Kg e.κ (bubble (e.of x.p) k (k - l)) x.pd x.g none) e.s;rw[e1];exact h
theorem X.ret{α τ:Type}{a:En->α}{x:Pu}{v:τ->En->α}{R:τ->Pu->Prop}(t:τ)(h:R t x)(ha: ∀e,a e=v t e:=by intro e;rfl):X n ck (fun e=>Qb (a e)) x v R:=
 ⟨t,x,h,by rw[show a=v t from funext ha];exact D.pure⟩
theorem X.go{α β τ:Type}{f:En->StateT Hu Sem α}{k:En->α->StateT Hu Sem β}{x y:Pu}{a:En->α}{v:τ->En->β}{R:τ->Pu->Prop}(h1:D n ck f x a y)(h2:X n ck (fun e=>k e (a e)) y v R):X n ck (fun e=>f e>>=k e) x v R:=by
 obtain⟨t,z,h,d⟩:=h2;exact⟨t,z,h,D.bind h1 d⟩
theorem X.bind{α β τ υ:Type}{f:En->StateT Hu Sem α}{k:En->α->StateT Hu Sem β}{x:Pu}{u:υ->En->α}{S:υ->Pu->Prop}{v:τ->En->β}{R:τ->Pu->Prop}(h1:X n ck f x u S)(h2: ∀t y,S t y->X n ck (fun e=>k e (u t e)) y v R):X n ck (fun e=>f e>>=k e) x v R:=by
 obtain⟨t,y,h,d⟩:=h1;exact X.go d (h2 t y h)
noncomputable def sv{β τ:Type}(v:τ->En->β):τ ⊕ τ->En->ForInStep β
 | .inl t,e=> .yield (v t e)
 | .inr t,e=> .done (v t e)
def sR{τ:Type}(I J:τ->Pu->Prop):τ ⊕ τ->Pu->Prop
 | .inl t,x=>I t x
 | .inr t,x=>J t x
theorem X.loop{β τ:Type}{v:τ->En->β}{I:Nat->τ->Pu->Prop}{J:τ->Pu->Prop}{f:En->Nat->β->StateT Hu Sem (ForInStep β)}
  (he: ∀t x,I 0 t x->J t x): ∀(l:List Nat) (t:τ) (x:Pu),(∀i∈l,∀(k:Nat) (t:τ) (x:Pu),I (k+1) t x->X n ck (fun e=>f e i (v t e)) x (sv v) (sR (I k) J))->I l.length t x->X n ck (fun e=>forIn l (v t e) (f e)) x v J
 |[],t,x,_,h=>⟨t,x,he t x h,fun e o E Q q=>kasC_nil q⟩
 | i :: l,t,x,hs,h => by
  obtain⟨r,y,hr,d⟩:=hs i Ai l.length t x h;cases r with
  |inr t'=>exact⟨t',y,hr,fun e o E Q q=>Qe (d e o E _ q)⟩
  |inl t'=>
   obtain⟨u,z,hu,d2⟩:=X.loop he l t' y (fun i hi=>hs i (Ah _ hi)) hr;exact⟨u,z,hu,fun e o E Q q=>Qe (d e o E _ (d2 e o E Q q))⟩
theorem X.range{β τ:Type}{v:τ->En->β}{I:Nat->τ->Pu->Prop}{J:τ->Pu->Prop}{f:En->Nat->β->StateT Hu Sem (ForInStep β)}{a b:Nat}{t:τ}{x:Pu}{c:En->β}
  (he: ∀t x,I 0 t x->J t x) (h0:I (b - a) t x) (hs: ∀i,a<=i->i<b-> ∀(k:Nat) (t:τ) (x:Pu),I (k+1) t x->X n ck (fun e=>f e i (v t e)) x (sv v) (sR (I k) J)) (hc: ∀e,c e=v t e:=by intro e;rfl):X n ck (fun e=>forIn [a:b] (c e) (f e)) x v J:=by
 rw[show c=v t from funext hc];obtain⟨u,z,hu,d⟩:=X.loop he (List.range' a (b - a)) t x (fun i hi=>by
  have:=List.mem_range'_1.mp hi;exact hs i this.1 (by omega)) (by rw[List.length_range'];exact h0)
 exact⟨u,z,hu,fun e o E Q q=>kasC_range (d e o E Q q)⟩
theorem X.yield{β τ:Type}{v:τ->En->β}{I J:τ->Pu->Prop}{a:En->β}{x:Pu}(t:τ)(h:I t x)(ha: ∀e,a e=v t e:=by intro e;rfl):X n ck (fun e=>Qb (Cr (a e))) x (sv v) (sR I J):=
 X.ret (.inl t) h fun e=>by rw[ha e];rfl
theorem X.done{β τ:Type}{v:τ->En->β}{I J:τ->Pu->Prop}{a:En->β}{x:Pu}(t:τ)(h:J t x)(ha: ∀e,a e=v t e:=by intro e;rfl):X n ck (fun e=>Qb (ForInStep.done (a e))) x (sv v) (sR I J):=
 X.ret (.inr t) h fun e=>by rw[ha e];rfl
end
section
variable{n:Nat}{ck:Nat->Nat->Bool}
theorem X.ite{α τ:Type}{c:Prop}{dc:En->Decidable c}{a b:En->StateT Hu Sem α}{x:Pu}{v:τ->En->α}{R:τ->Pu->Prop}(h1:c->X n ck a x v R)(h2: ¬c->X n ck b x v R):X n ck (fun e=> @_root_.ite _ c (dc e) (a e) (b e)) x v R:=by
 by_cases h:c
 ·simpa only[if_pos h] using h1 h
 ·simpa only[if_neg h] using h2 h
theorem X.loopI{β τ:Type}{v:τ->En->β}{I:Nat->τ->Pu->Prop}{J:τ->Pu->Prop}{f:En->Nat->β->StateT Hu Sem (ForInStep β)}: ∀(c a:Nat) (t:τ) (x:Pu),(∀t x,I (a+c) t x->J t x)->(∀i,a<=i->i<a+c-> ∀(t:τ) (x:Pu),I i t x->X n ck (fun e=>f e i (v t e)) x (sv v) (sR (I (i+1)) J))->I a t x->X n ck (fun e=>forIn (List.range' a c) (v t e) (f e)) x v J
 |0,a,t,x,he,_,h=>⟨t,x,he t x h,fun e o E Q q=>kasC_nil q⟩
 | c + 1,a,t,x,he,hs,h => by
  obtain⟨r,y,hr,d⟩:=hs a (Ao _) (by lia) t x h;cases r with
  |inr t'=>exact⟨t',y,hr,fun e o E Q q=>Qe (d e o E _ q)⟩
  |inl t'=>
   obtain⟨u,z,hu,d2⟩:=X.loopI c (a+1) t' y (fun t x h=>he t x (by rwa[Nat.add_right_comm] at h)) (fun i h1 h2=>hs i (by lia) (by lia)) hr;exact⟨u,z,hu,fun e o E Q q=>Qe (d e o E _ (d2 e o E Q q))⟩
theorem X.rangeI{β τ:Type}{v:τ->En->β}{I:Nat->τ->Pu->Prop}{J:τ->Pu->Prop}{f:En->Nat->β->StateT Hu Sem (ForInStep β)}{a b:Nat}{t:τ}{x:Pu}{c:En->β}(hab:a<=b)
  (he: ∀t x,I b t x->J t x) (h0:I a t x) (hs: ∀i,a<=i->i<b-> ∀(t:τ) (x:Pu),I i t x->X n ck (fun e=>f e i (v t e)) x (sv v) (sR (I (i+1)) J)) (hc: ∀e,c e=v t e:=by intro e;rfl):X n ck (fun e=>forIn [a:b] (c e) (f e)) x v J:=by
 rw[show c=v t from funext hc];have hb:a+(b - a)=b:=by lia
 obtain⟨u,z,hu,d⟩:=X.loopI (I:=I) (b - a) a t x (by rw[hb];exact he) (by rw[hb];exact hs) h0;exact⟨u,z,hu,fun e o E Q q=>kasC_range (d e o E Q q)⟩
def Pm(n:Nat)(p:Array Nat):Prop:=p.toList.Perm (Am n)
theorem Pm.sz{p:Array Nat}(h:Pm n p):p.size=n:=by
 have:=h.length_eq;simpa using this
theorem Pm.lt{p:Array Nat}(h:Pm n p){i:Nat}(hi:i<n):p.getD i 0<n:=by
 have hs:=h.sz;have hi':i<p.size:=by lia
 have e:p.getD i 0=p[i]:=by simp[Qx,hi']
 rw[e];exact Bk.mp (h.mem_iff.mp (by simp))
theorem Pm.rev{p:Array Nat}(h:Pm n p)(i j:Nat):Pm n (Oa p i j):=Qf (Jr.mp (mirror_perm p i j _)) h
theorem Pm.move{p:Array Nat}(h:Pm n p)(i j:Nat):Pm n (bubble p i j):=Qf (Jr.mp (bubble_perm p i j)) h
theorem Pm.cmp{x:Pu}(h:Pm n x.p){i j:Nat}(hi:i<n)(hj:j<n):D n ck (fun _=>ltAt' i j) x (fun _=>some (ck (x.p.getD i 0) (x.p.getD j 0))) x:=
 D.ltAt (by rw[h.sz];exact hi) (by rw[h.sz];exact hj) (h.lt hi) (h.lt hj)
theorem X.st{α τ:Type}{f:En->StateT Hu Sem α}{x z:Pu}{v:τ->En->α}{R:τ->Pu->Prop}{P:Pu->Pu->Prop}(h: ∀z,P x z->X n ck f z v R)(hz:P x z):X n ck f z v R:=h z hz
end
abbrev lk(ky:Nat->Nat)(i j:Nat):Bool:=decide (ky i<ky j)
section
variable{n:Nat}{ky:Nat->Nat}
abbrev kt(ky:Nat->Nat)(p:Array Nat)(i:Nat):Nat:=ky (p.getD i 0)
def So(ky:Nat->Nat)(p:Array Nat)(i j:Nat):Prop:= ∀a b,i<=a->a<b->b<j->kt ky p a<=kt ky p b
def Ni(ky:Nat->Nat)(p:Array Nat)(i j:Nat):Prop:= ∀a b,i<=a->a<b->b<j->kt ky p b<=kt ky p a
def Eqs(ky:Nat->Nat)(p:Array Nat)(i j:Nat):Prop:= ∀a,i<=a->a<j->kt ky p a=kt ky p (j - 1)
theorem So.more{p:Array Nat}{i j:Nat}(h:So ky p i j)(hj:i<j->kt ky p (j - 1)<=kt ky p j):So ky p i (j+1):=fun a b h1 h2 h3=>by
 by_cases e:b=j
 ·subst e
  have h4:=hj (by lia);by_cases e2:a=b - 1
  ·rw[e2];exact h4
  ·exact Cf (h a (b - 1) h1 (by lia) (by lia)) h4
 ·exact h a b h1 h2 (by lia)
theorem Ni.more{p:Array Nat}{i j:Nat}(h:Ni ky p i j)(hj:i<j->kt ky p j<=kt ky p (j - 1)):Ni ky p i (j+1):=fun a b h1 h2 h3=>by
 by_cases e:b=j
 ·subst e
  have h4:=hj (by lia);by_cases e2:a=b - 1
  ·rw[e2];exact h4
  ·exact Cf h4 (h a (b - 1) h1 (by lia) (by lia))
 ·exact h a b h1 h2 (by lia)
theorem So.one{p:Array Nat}{i:Nat}:So ky p i (i+1):=fun a b h1 h2 h3=>by lia
theorem L7{p:Array Nat}{i j:Nat}(hj:j<=p.size)(t:Nat):(Oa p i j).getD t 0=if i<=t/\t<j then p.getD (i+j - 1 - t) 0 else p.getD t 0:=by
 have e:=getElem?_mirror_all (i:=i) hj t;simp only[Jj];show((mirror p i j ((j - i)/2))[t]?).getD 0=_;rw[e];split<;>rfl
theorem zCN{p:Array Nat}{s d:Nat}(hs:s<p.size)(hd:d<=s)(t:Nat):(bubble p s d).getD t 0=if t=s - d then p.getD s 0 else if s - d<t/\t<=s then p.getD (t - 1) 0 else p.getD t 0:=by
 have e:=getElem?_bubble hs d hd t;simp only[Jj];rw[e];split
 ·rfl
 ·split<;>rfl
theorem Eqs.rev{p:Array Nat}{i j:Nat}(h:Eqs ky p i j)(hj:j<=p.size)(t:Nat):kt ky (Oa p i j) t=kt ky p t:=by
 unfold kt;rw[L7 hj];split
 ·exact(h _ (by lia) (by lia)).trans (h t (by lia) (by lia)).symm
 ·rfl
theorem Ni.rev{p:Array Nat}{i j:Nat}(h:Ni ky p i j)(hj:j<=p.size):So ky (Oa p i j) i j:=fun a b h1 h2 h3=>by
 unfold kt;rw[L7 hj,L7 hj,if_pos (by lia),if_pos (by lia)];exact h _ _ (by lia) (by lia) (by lia)
theorem Ni.same{p q:Array Nat}{i j:Nat}(h:Ni ky p i j)(e: ∀t,kt ky q t=kt ky p t):Ni ky q i j:=fun a b h1 h2 h3=>by rw[e,e];exact h a b h1 h2 h3
def Kq(n lo:Nat)(x y:Pu):Prop:=Pm n y.p/\y.pd=x.pd/\ ∀i,i<lo->y.p.getD i 0=x.p.getD i 0
theorem Kq.rev{lo i j:Nat}{x y:Pu}(h:Kq n lo x y)(hi:lo<=i)(hj:j<=n):Kq n lo x {y with p:=Oa y.p i j}:=
 ⟨h.1.rev _ _,h.2.1,fun t ht => by
  show(Oa y.p i j).getD t 0=_;rw[L7 (by rw[h.1.sz];exact hj),if_neg (by lia)];exact h.2.2 t ht⟩
theorem zJN{lo m:Nat}{x:Pu}(hp:Pm n x.p)(h1:1<=m)(hm:lo+m<=n):X n (lk ky) (fun _=>countRun' lo m) x (fun t _=>some t) (fun t y=>1<=t/\t<=m/\Kq n lo x y/\So ky y.p lo (lo+t)):=by
 refine X.bind (u:=fun(t:Nat) _=>(none,t)) (S:=fun t y=>1<=t/\t<=m/\y=x/\So ky x.p lo (lo+t)/\(t=m∨kt ky x.p (lo+t)<kt ky x.p (lo+t - 1))) ?_ ?_
 ·refine X.range (I := fun k t y => 1 <= t /\ t + k = m /\ y = x /\ So ky x.p lo (lo + t)) (t := 1) (fun t y h => ⟨h.1,by lia,h.2.2.1,h.2.2.2,.inl h.2.1⟩) ⟨by lia,by lia,rfl,So.one⟩ fun i _ _ k t y ⟨g1,g2,g3,g4⟩ => ?_
  subst g3;refine X.go (hp.cmp (by lia) (by lia)) ?_;refine X.ite (fun q=>X.done t ⟨g1,by lia,rfl,g4,.inr (of_decide_eq_true q)⟩) fun q=>X.yield (t+1) ⟨by lia,by lia,rfl,g4.more fun _=>Ez fun z=>q (decide_eq_true z)⟩
 ·rintro t y ⟨g1,g2,rfl,g3,g4⟩
  have k0:Kq n lo y y:=⟨hp,rfl,fun _ _=>rfl⟩;have hsz:=hp.sz;refine X.ite (fun _=>X.ret t ⟨g1,g2,k0,g3⟩) fun q0=> ?_;have q1:t≠m:=fun z=>q0 (by rw[z];exact beq_self_eq_true _);have g4:kt ky y.p (lo+t)<kt ky y.p (lo+t - 1):=g4.resolve_left q1;refine X.ite (fun q2=>X.go (hp.cmp (by lia) (by lia)) (X.ite (fun _=>X.ret t ⟨g1,g2,k0,g3⟩) fun q3=>X.go D.rev (X.st (P:=fun y z=>Kq n lo y z/\Ni ky z.p lo (lo+t+1)) (x:=y) ?_ ?_))) fun q2=>X.st (P:=fun y z=>Kq n lo y z/\Ni ky z.p lo (lo+t+1)) (x:=y) ?_ ⟨k0,fun a b h1 h2 h3=> ?_⟩;rotate_left
  ·have q3 : kt ky y.p (lo + t - 1) <= kt ky y.p lo := Ez fun z => q3 (decide_eq_true z)
   have ee: ∀a,lo<=a->a<lo+t->kt ky y.p a=kt ky y.p (lo+t - 1):=fun a a1 a2=>by
    have u1:kt ky y.p lo<=kt ky y.p a:=by
     by_cases e:a=lo
     ·rw[e];exact Ao _
     ·exact g3 lo a (Ao _) (by lia) a2
    have u2:kt ky y.p a<=kt ky y.p (lo+t - 1):=by
     by_cases e:a=lo+t - 1
     ·rw[e];exact Ao _
     ·exact g3 a _ a1 (by lia) (by lia)
    exact Qg u2 (Cf q3 u1)
   refine⟨k0.rev (Ao _) (by lia),Ni.same (p:=y.p) (Ni.more (fun a b h1 h2 h3=> ?_) fun _=>Fa g4) (Eqs.rev ee (by lia))⟩;rw[ee a h1 (by lia),ee b (by lia) h3];exact Ao _
  rotate_left
  ·obtain rfl : t = 1 := by dsimp only at q2;lia
   obtain rfl:a=lo:=by lia
   obtain rfl:b=a+1:=by lia
   exact Fa g4
  all_goals
   rintro z ⟨hz,hn⟩;refine X.go D.rule ?_;refine X.bind (u:=fun(t:Nat×Nat) _=>(none,t)) (S:=fun t z=>1<=t.1/\t.1<=m/\Kq n lo y z/\Ni ky z.p lo (lo+t.1)/\t.2<t.1/\Eqs ky z.p (lo+t.1 - (t.2+1)) (lo+t.1)) ?_ ?_
   ·refine X.range (I := fun k t z => 1 <= t.1 /\ t.1 + k = m /\ Kq n lo y z /\ Ni ky z.p lo (lo + t.1) /\ t.2 < t.1 /\ Eqs ky z.p (lo + t.1 - (t.2 + 1)) (lo + t.1)) (t := (t + 1,0)) (fun t y h => ⟨h.1,by lia,h.2.2⟩) ⟨by lia,by dsimp only;lia,hz,hn,by dsimp only;lia,fun a h1 h2 => by congr 1;dsimp only at h1 h2 ⊢;congr 1;lia⟩ fun i _ _ k t z ⟨g1,g2,g3,g4,g5,g6⟩ => ?_
    obtain⟨t,q⟩:=t;dsimp only at g1 g2 g4 g5 g6;have hs3:=g3.1.sz;refine X.go (g3.1.cmp (by dsimp only;lia) (by dsimp only;lia)) ?_;refine X.ite (fun qs=> ?_) fun qs=> ?_
    ·have qs:kt ky z.p (lo+t)<kt ky z.p (lo+t - 1):=of_decide_eq_true qs
     have ez: ∀(p:Array Nat),Eqs ky p (lo+(t+1) - (0+1)) (lo+(t+1)):=fun p a h1 h2=>by congr 2;lia
     have en:=g4.more fun _=>Fa qs;refine X.ite (fun _=>X.go D.rev (X.yield (t+1,0) ⟨by dsimp only;lia,by dsimp only;lia,g3.rev (by lia) (by lia),en.same (g6.rev (by lia)),by dsimp only;lia,ez _⟩)) fun _=>X.yield (t+1,0) ⟨by dsimp only;lia,by dsimp only;lia,g3,en,by dsimp only;lia,ez _⟩
    ·have qs : kt ky z.p (lo + t - 1) <= kt ky z.p (lo + t) := Ez fun z => qs (decide_eq_true z)
     refine X.go (g3.1.cmp (by dsimp only;lia) (by dsimp only;lia)) ?_;refine X.ite (fun _=>X.done (t,q) ⟨g1,by dsimp only;lia,g3,g4,g5,g6⟩) fun ql=>X.yield (t+1,q+1) ⟨by dsimp only;lia,by dsimp only;lia,g3,?_,by dsimp only;lia,fun a h1 h2=> ?_⟩;all_goals have ql:kt ky z.p (lo+t)<=kt ky z.p (lo+t - 1):=Ez fun z=>ql (decide_eq_true z)
     ·exact g4.more fun _=>ql
     ·dsimp only at h1 h2⊢
      rw[show lo+(t+1) - 1=lo+t by lia];by_cases e:a=lo+t
      ·rw[e]
      ·rw [g6 a (by lia) (by lia)]
       exact Qg qs ql
   ·rintro ⟨t,q⟩ z ⟨g1,g2,g3,g4,g5,g6⟩
    dsimp only at g1 g2 g4 g5 g6;have hs3:=g3.1.sz;refine X.ite (fun _=>X.go D.rev (X.st (P:=fun y z=>Kq n lo y z/\Ni ky z.p lo (lo+t)) (x:=y) ?_ ⟨g3.rev (by lia) (by lia),g4.same (g6.rev (by lia))⟩)) fun _=>X.st (P:=fun y z=>Kq n lo y z/\Ni ky z.p lo (lo+t)) (x:=y) ?_ ⟨g3,g4⟩
    all_goals
     rintro z ⟨hz,hn⟩;have hs3:=hz.1.sz;refine X.go D.rev ?_;refine X.bind (u:=fun(t:Nat) _=>(none,t)) (S:=fun t z=>1<=t/\t<=m/\Kq n lo y z/\So ky z.p lo (lo+t)) ?_ fun t z h=>X.ret t h;refine X.range (I:=fun k t z=>1<=t/\t+k=m/\Kq n lo y z/\So ky z.p lo (lo+t)) (t:=t) (fun t y h=>⟨h.1,by lia,h.2.2⟩) ⟨by lia,by dsimp only;lia,hz.rev (Ao _) (by lia),hn.rev (by lia)⟩ fun i _ _ k t y ⟨g1,g2,g3,g4⟩=> ?_;refine X.go (g3.1.cmp (by lia) (by lia)) ?_;exact X.ite (fun _=>X.done t ⟨g1,by lia,g3,g4⟩) fun q=>X.yield (t+1) ⟨by lia,by lia,g3,g4.more fun _=>Ez fun z=>q (decide_eq_true z)⟩
theorem bin{lo m ok:Nat}{x:Pu}(hp:Pm n x.p)(hm:lo+m<=n)(o1:1<=ok)(o2:ok<=m)(hs:So ky x.p lo (lo+ok)):X n (lk ky) (fun _=>binarySort' lo m ok) x (fun(_:Unit) _=>true) (fun _ y=>Kq n lo x y/\So ky y.p lo (lo+m)):=by
 refine X.bind (u:=fun(_:Unit) _=>(none,())) (S:=fun _ y=>Kq n lo x y/\So ky y.p lo (lo+m)) ?_ fun t z h=>X.ret () h;refine X.rangeI (I:=fun i _ z=>Kq n lo x z/\So ky z.p lo (lo+i)) (t:=()) (by lia) (fun t y h=>h) ⟨⟨hp,rfl,fun _ _=>rfl⟩,by rw[Nat.max_eq_left o1];exact hs⟩ fun j j1 j2 t y ⟨g3,g4⟩=> ?_;have hsz:=g3.1.sz;refine X.bind (u:=fun(t:Nat×Nat) _=>(none,t)) (S:=fun t z=>t.1=t.2/\t.2<=j/\z=y/\(∀a,lo<=a->a<lo+t.1->kt ky y.p a<=kt ky y.p (lo+j))/\ ∀a,lo+t.2<=a->a<lo+j->kt ky y.p (lo+j)<=kt ky y.p a) ?_ ?_
 ·refine X.range (I := fun c t z => t.1 <= t.2 /\ t.2 <= j /\ t.2 <= t.1 + c /\ z = y /\ (∀ a,lo <= a -> a < lo + t.1 -> kt ky y.p a <= kt ky y.p (lo + j)) /\ ∀ a,lo + t.2 <= a -> a < lo + j -> kt ky y.p (lo + j) <= kt ky y.p a) (t := (0,j)) (fun t y h => ⟨by lia,h.2.1,h.2.2.2⟩) ⟨by dsimp only;lia,Ao _,by dsimp only;lia,rfl,fun a h1 h2 => by dsimp only at h2;lia,fun a h1 h2 => by dsimp only at h1;lia⟩ fun i _ _ k t z ⟨f1,f2,f3,f4,f5,f6⟩ => ?_
  obtain⟨l,r⟩:=t;dsimp only at f1 f2 f3 f5 f6;subst f4;refine X.ite (fun q=>X.done (l,r) ⟨by dsimp only at q⊢;lia,f2,rfl,f5,f6⟩) fun q=> ?_;dsimp only at q;refine X.go (g3.1.cmp (by lia) (by dsimp only;lia)) ?_;refine X.ite (fun q2=>X.yield (l,(l+r)/2) ⟨by dsimp only;lia,by dsimp only;lia,by dsimp only;lia,rfl,f5,fun a h1 h2=> ?_⟩) fun q2=>X.yield ((l+r)/2+1,r) ⟨by dsimp only;lia,f2,by dsimp only;lia,rfl,fun a h1 h2=> ?_,f6⟩
  ·have q2:kt ky z.p (lo+j)<kt ky z.p (lo+(l+r)/2):=of_decide_eq_true q2
   dsimp only at h1;by_cases e:a=lo+(l+r)/2
   ·rw[e];exact Fa q2
   ·exact Cf (Fa q2) (g4 _ a (by lia) (by lia) (by lia))
  ·have q2 : kt ky z.p (lo + (l + r) / 2) <= kt ky z.p (lo + j) := Ez fun z => q2 (decide_eq_true z)
   dsimp only at h2;by_cases e:a=lo+(l+r)/2
   ·rw[e];exact q2
   ·exact Cf (g4 a _ h1 (by lia) (by lia)) q2
 ·rintro ⟨l,r⟩ z ⟨f1,f2,rfl,f5,f6⟩
  dsimp only at f1 f2 f5 f6;subst f1;have mv: ∀t,(bubble z.p (lo+j) (lo+j - (lo+l))).getD t 0=if t=lo+l then z.p.getD (lo+j) 0 else if lo+l<t/\t<=lo+j then z.p.getD (t - 1) 0 else z.p.getD t 0:=fun t=>by rw[zCN (by lia) (by lia),show lo+j - (lo+j - (lo+l))=lo+l by lia]
  refine X.go D.move (X.yield () ⟨⟨g3.1.move _ _,g3.2.1,fun i hi=> ?_⟩,fun a b h1 h2 h3=> ?_⟩)
  ·show(bubble z.p (lo+j) (lo+j - (lo+l))).getD i 0=_
   rw[mv,if_neg (by lia),if_neg (by lia)];exact g3.2.2 i hi
  ·show ky ((bubble z.p (lo+j) (lo+j - (lo+l))).getD a 0)<=ky ((bubble z.p (lo+j) (lo+j - (lo+l))).getD b 0)
   rw[mv,mv];by_cases a1:a<lo+l
   ·rw [if_neg (by lia),if_neg (by lia)]
    by_cases b1:b=lo+l
    ·rw[if_pos b1];exact f5 a h1 a1
    ·rw[if_neg b1]
     split
     ·exact Cf (f5 a h1 a1) (f6 _ (by lia) (by lia))
     ·exact g4 a b h1 h2 (by lia)
   ·rw [if_neg (show ¬ b = lo + l by lia),if_pos (show lo + l < b /\ b <= lo + j by lia)]
    by_cases a2:a=lo+l
    ·rw[if_pos a2];exact f6 _ (by lia) (by lia)
    ·rw [if_neg a2,if_pos (by lia)]
     exact g4 _ _ (by lia) (by lia) (by lia)
end
section
variable{n:Nat}{ky:Nat->Nat}
theorem zIW(e:En)(o:Array Nat):(e.of o).size=o.size:=by simp[En.of]
def Ss(ky:Nat->Nat)(l:List Nat):Prop:=l.Pairwise fun i j=>ky i<=ky j
theorem So.ss{a:Array Nat}(h:So ky a 0 a.size):Ss ky a.toList:=by
 refine List.pairwise_iff_getElem.mpr fun i j hi hj hij=> ?_;have e: ∀i,(h:i<a.toList.length)->a.toList[i]=a.getD i 0:=fun i h=>by simp[Qx,show i<a.size from h]
 rw[e,e];exact h i j (Dd _) hij hj
theorem Pm.id(n:Nat):Pm n (Am n).toArray:=by
 unfold Pm;simp
def xS(n:Nat):Pu:=⟨(Am n).toArray,#[],7⟩
theorem EE(vs:List Value):(Am vs.length).map (fun i=>vs.getD i Value.none)=vs:=by
 refine Kb fun i=> ?_;by_cases h:i<vs.length
 ·simp[h]
 ·simp[h]
theorem HI:(Am 64).all (fun n=>(sortPriv% PySem.Builtin.minRun) n n 0==n)=true:=by decide+kernel
theorem zI4{x:Pu}(h:Pm n x.p)(hp:x.pd= #[])(h64:n<64)(h1:1<=n):X n (lk ky) (fun _=>sortRuns') x (fun(_:Unit) _=>()) (fun _ y=>Pm n y.p/\So ky y.p 0 n):=by
 refine X.go D.get ?_;have esz: ∀e:En,(arrOf (BU e x)).size=n:=fun e=>by
  show(e.of x.p).size=n;rw[zIW,h.sz]
 have epd: ∀(e:En) (y:Pu),pendingOf (BU e y)=y.pd:=fun e y=>rfl;have emr:(sortPriv% PySem.Builtin.minRun) n n 0=n:=beq_iff_eq.mp (Ei.mp HI n (Bk.mpr h64));simp only[esz];generalize (sortPriv% PySem.Builtin.minRun) n n 0=mr at emr;subst emr;refine X.bind (u:=fun(t:Nat) _=>(none,t)) (S:=fun t y=>(Pm mr y.p/\So ky y.p 0 mr)/\y.pd.size<=1) ?_ ?_
 ·refine X.range (I := fun c t y => Pm mr y.p /\ (t = 0 /\ y.pd = #[] /\ 1 <= c ∨ mr <= t /\ y.pd.size <= 1 /\ So ky y.p 0 mr)) (t := 0) (fun t y h => by
   rcases h.2 with q|q
   ·lia
   ·exact⟨⟨h.1,q.2.2⟩,q.2.1⟩) ⟨h,.inl ⟨rfl,hp,by lia⟩⟩ fun i _ _ k lo y hw=> ?_
  refine X.ite (fun q=>X.done lo (by
   dsimp only at q;rcases hw.2 with z|z
   ·lia
   ·exact⟨⟨hw.1,z.2.2⟩,z.2.1⟩)) fun q=> ?_
  dsimp only at q;obtain⟨rfl,hpd⟩:lo=0/\y.pd= #[]:=by
   rcases hw.2 with h|h
   ·exact⟨h.1,h.2.1⟩
   ·lia
  refine X.bind (zJN hw.1 (by dsimp only;lia) (by dsimp only;lia)) ?_;rintro m z ⟨m1,m2,hz,hs⟩;dsimp only at m2;have ez:z.pd= #[]:=hz.2.1.trans hpd;refine X.ite (fun q2=>X.go D.rule (X.bind (bin hz.1 (by dsimp only;lia) m1 (by dsimp only at q2⊢;lia) hs) fun _ z2 hz2=>X.ite (fun hf=>absurd hf (by simp)) fun _=> ?_)) fun qm=> ?_
  ·have ez2:z2.pd= #[]:=hz2.1.2.1.trans ez
   have hs2:=hz2.2;rw[Hc,Nat.sub_zero,Nat.min_self] at hs2;refine X.go D.get ?_;simp only[epd];rw[show z2.pd.back? =none by rw[ez2];rfl];exact X.go (D.modify (y:={z2 with pd:=z2.pd.push (0,(min (mr - 0) mr),0)}) fun e=>rfl) (X.yield (0+(min (mr - 0) mr)) ⟨hz2.1.1,.inr ⟨by lia,by rw[ez2];exact Ao 1,hs2⟩⟩)
  ·refine X.go D.get ?_
   simp only[epd];rw[show z.pd.back? =none by rw[ez];rfl];obtain rfl:m=mr:=by lia
   rw[Hc] at hs;exact X.go (D.modify (y:={z with pd:=z.pd.push (0,m,0)}) fun e=>rfl) (X.yield (0+m) ⟨hz.1,.inr ⟨by lia,by rw[ez];exact Ao 1,hs⟩⟩)
 ·intro lo y hw
  refine X.bind (u:=fun(_:Unit) _=>(none,())) (S:=fun _ y=>Pm mr y.p/\So ky y.p 0 mr) ?_ fun _ y h=>X.ret () h;refine X.range (I:=fun _ _ y=>(Pm mr y.p/\So ky y.p 0 mr)/\y.pd.size<=1) (t:=()) (fun t y h=>h.1) hw fun i _ _ k _ y hw=> ?_;refine X.go D.get ?_;simp only[epd];refine X.ite (fun _=>X.done () hw.1) fun q=> ?_;exact absurd hw.2 (by lia)
theorem RU(n:Nat)(ky:Nat->Nat)(h64:n<64)(h2:2<=n): ∃y:Pu,(Pm n y.p/\So ky y.p 0 n)/\D n (lk ky) (fun _=>sortRuns') (xS n) (fun _=>()) y:=by
 obtain⟨t,y,h,d⟩:=zI4 (n:=n) (ky:=ky) (x:=xS n) (Pm.id n) rfl h64 (by lia);exact⟨y,h,d⟩
noncomputable def srt0(n:Nat)(ky:Nat->Nat):List Nat:=if h:2<=n/\n<64 then(RU n ky h.2 h.1).choose.p.toList else Am n
theorem NN(n:Nat)(ky:Nat->Nat):(srt0 n ky).Perm (Am n):=by
 unfold srt0;split
 ·rename_i h
  exact(RU n ky h.2 h.1).choose_spec.1.1
 ·exact .refl _
theorem zBN(n:Nat)(ky:Nat->Nat)(h64:n<64):Ss ky (srt0 n ky):=by
 unfold srt0;split
 ·rename_i h
  have h:=(RU n ky h.2 h.1).choose_spec.1;refine So.ss ?_;rw[h.1.sz];exact h.2
 ·match n with
  |0=>exact .nil
  |1=>exact Hn _ _
  |n+2=>lia
end
section
variable{prog:Bq}{w:World}{A:Cy}{E:Value->Af->Prop}{s:Af}
theorem IG{a:Addr}{vs:List Value}{nn:Nat}{κ:Ph}{ky:Nat->Nat}{P:PySem.Fin->Af->Prop}(ho:s.heap.get? a=some (Gi "list" vs.toArray nn)) (hz:vs.length<=sizeLine) (h64:vs.length<64)
  (hk:2<=vs.length-> ∀h':Heap,(∀b o,b≠a->s.heap.get? b=some o->h'.get? b=some o)-> ∀Q':Ph->Af->Prop,Q' κ {s with heap:=h'}->wpAny (model prog w) A (keyKind' vs.toArray) Q' E {s with heap:=h'})
  (hc: ∀h':Heap,(∀b o,b≠a->s.heap.get? b=some o->h'.get? b=some o)-> ∀i j,i<vs.length->j<vs.length-> ∀C:Bool->Af->Prop,C (lk ky i j) {s with heap:=h'}->wpAny (model prog w) A (keyLt' κ (vs.getD i Value.none) (vs.getD j Value.none)) C (fun _ _=>False) {s with heap:=h'})
  (h:P (.done (.ret .none)) {s with heap:=sortedHeap s.heap a vs ((srt0 vs.length ky).map fun i=>vs.getD i Value.none).toArray}):
  wpAny (model prog w) A (Lu.«list.sort» ⟨[.ref a],[]⟩) P E s:=by
 have lt:=An ho;have hsz:vs.toArray.size=vs.length:=by simp
 obtain⟨e1,ho1⟩: ∃k,(s.heap.update a (Hb fun _=> #[])).get? a=some (Gi "list" #[] k):=⟨_,get?_update_seq ho (fun _=> #[])⟩;have keep: ∀b o,b≠a->s.heap.get? b=some o->(((s.heap.update a (Hb fun _=> #[])).push (Gi "tuple" vs.toArray 0)).push (Gi "list" #[] 0)).get? b=some o:=fun b o hb hbo=>
  Ad _ (Ad _ (by rw[Mn _ _ _ _ hb];exact hbo))
 have ho6:(((s.heap.update a (Hb fun _=> #[])).push (Gi "tuple" vs.toArray 0)).push (Gi "list" #[] 0)).get? a=some (Gi "list" #[] e1):=Ad _ (Ad _ ho1);have oh: ∀l:List Value,l.length=vs.length->l.toArray.size<=sizeLine+1:=fun l hl=>by rw[Av];lia
 rw[list_sort_plain];refine(Ac (Oo ho rfl ?_));refine(Ac (Ku ho rfl ?_ (by rw[Av];lia) (Dd _)));refine(Ac (Qh ho1 rfl ?_));refine(Ac (wpAny_newTuple ?_ (by show vs.length<=_;exact hz)));refine(Ac (Nf (Ce ?_) (Dd _)))
 ·show (wpAny (model prog w) A _ P E { s with heap := (((s.heap.update a (Hb fun _ => #[])).push (Gi "tuple" vs.toArray 0)).push (Gi "list" #[] 0)) })
  dsimp only;have ag:((srt0 vs.length ky).map fun i=>vs.getD i Value.none).length=vs.length:=by rw[Bf,(NN _ _).length_eq,Eo]
  by_cases h2:vs.toArray.size<2
  ·have he : ((srt0 vs.length ky).map fun i => vs.getD i Value.none) = vs := by
    unfold srt0;rw[dif_neg (by lia)];exact EE vs
   rw[he] at h;rw[if_pos h2,if_pos h2];refine(Ac (Aj ?_));rw[StateT.run_pure];refine(Ac (Aj ?_));dsimp only;have hm:(vs.toArray.zip vs.toArray).map (·.2)=vs.toArray:=by
    apply Pc.mp;simp;exact List.map_snd_zip (Ao _)
   rw[hm];refine(Ac (Qh ho6 rfl (Ac (Ku ho6 rfl ?_ (hsz2:=by rw[Av];lia)))));simp only[bne_self_eq_false,Dk,if_false];exact Aj h
  ·rw[if_neg h2,if_neg h2]
   refine(Ac (hk (by lia) _ keep _ ?_));have n2:2<=vs.length:=by lia
   have spec:=(RU vs.length ky h64 n2).choose_spec;have lr:srt0 vs.length ky=(RU vs.length ky h64 n2).choose.p.toList:=by unfold srt0;rw[dif_pos ⟨n2,h64⟩]
   generalize (RU vs.length ky h64 n2).choose=y at spec lr;let e:En:=⟨prog,w,A,{s with heap:=(((s.heap.update a (Hb fun _=> #[])).push (Gi "tuple" vs.toArray 0)).push (Gi "list" #[] 0))},κ,Ob vs⟩
   have eok:e.Ok vs.length (lk ky):=fun i j hi hj C q=>by
    show wpAny (model prog w) A (keyLt' κ (Kt (Ob vs) i).1 (Kt (Ob vs) j).1) C _ _;rw[Qi,Qi];exact hc _ keep i j hi hj C q
   have est:Kg κ (vs.toArray.zip vs.toArray) #[] 7 none=BU e (xS vs.length):=by
    have q:=kas_range (Ob vs);rw[pairsOf_size] at q;show Kg κ (Ob vs) #[] 7 none=Kg κ ((List.toArray (Am vs.length)).map (Kt (Ob vs))) #[] 7 none;rw[q]
   rw[est];have nu:(e.of y.p).map (·.2)=((srt0 vs.length ky).map fun i=>vs.getD i Value.none).toArray:=by
    apply Pc.mp;rw[lr,Array.map_map,Array.toList_map];exact Ck fun i _=>by show(Kt (Ob vs) i).2=_;rw[Qi]
   have run:=spec.2 e eok E (fun _ st' s'=>st'=BU e y/\s'=e.s) ⟨rfl,rfl⟩;refine(Ac (Az run ?_ fun _ _ x=>x));rintro ⟨⟨⟩,st'⟩ s' ⟨rfl,rfl⟩;show(wpAny (model prog w) A _ P E {s with heap:=(((s.heap.update a (Hb fun _=> #[])).push (Gi "tuple" vs.toArray 0)).push (Gi "list" #[] 0))});dsimp only;rw[show(arrOf (BU e y))=e.of y.p from rfl,nu];refine(Ac (Qh ho6 rfl (Ac (Ku ho6 rfl ?_ (hsz2:=by rw[Av];lia)))));rw[show failedOf (BU e y)=none from rfl];simp only[bne_self_eq_false,Dk,if_false];exact Aj h
noncomputable def G6(h:Heap)(vs:List Value):Heap:=(h.push (Gi "list" #[] 0)).update h.objs.size (Hb (· ++vs.toArray))
theorem G7{T:String}{l:Addr}{o:Obj}{n:Nat}{vs:List Value}{Q:List Value->Af->Prop}(hT:T= "list" ∨T= "tuple") (ho:s.heap.get? l=some o) (hcl:o.cls= .type T) (hd:o.data= .seq vs.toArray n) (hz:vs.length<=sizeLine) (h:Q vs {s with heap:=G6 s.heap vs}):wpAny (model prog w) A (collect (.ref l)) Q E s:=by
 unfold collect;refine Ac (wpAny_runValue (Fs entry_proto_collect' ?_));show wpAny _ _ (Pz []>>=fun c=>again (.builtin "list.__iadd__" ⟨[c,.ref l],[]⟩)) _ _ s;refine Ac (Nf (Aj ⟨Ng _ (by decide+kernel),Fs entry_list_iadd' ?_⟩));have hn:(s.heap.push (Gi "list" #[] 0)).get? s.heap.objs.size=some (Gi "list" #[] 0):=Au _ rfl;have ho':(s.heap.push (Gi "list" #[] 0)).get? l=some o:=Ad _ ho;show wpAny _ _ (Jk (.ref s.heap.objs.size) (.ref l) (.ref s.heap.objs.size)) _ _ {s with heap:=s.heap.push (Gi "list" #[] 0)};unfold Jk;refine Ac (Ig (T:=T) ⟨o,ho',hcl⟩ ?_);have e1:(Fl T==Fl "list" || Fl T==Fl "tuple")=true:=by rcases hT with rfl|rfl<;>decide
 rw[if_pos (by rw[Bool.or_assoc,e1,Bool.or_true])];refine Ac (Oo ho' hd (Ac (Oo hn rfl ?_)));rw[if_neg (by simp)];refine Ac (Ku hn rfl (Aj ?_) (Dd _) (by rw[Array.size_append];simp;lia));show wpAny (model prog w) A (load s.heap.objs.size>>=_) Q E {s with heap:=G6 s.heap vs};refine Ac (wpAny_load (get?_update_seq hn _) ?_);refine Aj ?_;show Q ((#[]:Array Value)++vs.toArray).toList _;rw[show((#[]:Array Value)++vs.toArray).toList=vs by simp];exact h
theorem IH{T:String}{l:Addr}{o:Obj}{n:Nat}{vs:List Value}{κ:Ph}{ky:Nat->Nat}{Q:Value->Af->Prop}(hT:T= "list" ∨T= "tuple") (ho:s.heap.get? l=some o) (hcl:o.cls= .type T) (hd:o.data= .seq vs.toArray n) (hz:vs.length<=sizeLine) (h64:vs.length<64)
  (hk:2<=vs.length-> ∀(A:Cy) (E:Value->Af->Prop) (h':Heap),(∀b o,s.heap.get? b=some o->h'.get? b=some o)-> ∀Q':Ph->Af->Prop,Q' κ {s with heap:=h'}->wpAny (model prog w) A (keyKind' vs.toArray) Q' E {s with heap:=h'})
  (hc: ∀(A:Cy) (h':Heap),(∀b o,s.heap.get? b=some o->h'.get? b=some o)-> ∀i j,i<vs.length->j<vs.length-> ∀C:Bool->Af->Prop,C (lk ky i j) {s with heap:=h'}->wpAny (model prog w) A (keyLt' κ (vs.getD i Value.none) (vs.getD j Value.none)) C (fun _ _=>False) {s with heap:=h'})
  (h: ∀(r:Addr) (h':Heap) (e:Nat),s.heap.objs.size<=r->(∀b o,s.heap.get? b=some o->h'.get? b=some o)->h'.get? r=some (Gi "list" ((srt0 vs.length ky).map fun i=>vs.getD i Value.none).toArray e)->Q (.ref r) {s with heap:=h'}):
  wpAny (model prog w) A (call (.builtin "sorted") [.ref l]) Q E s:=by
 refine(Calls.call_function_entry kind_sorted plain_sorted entry_sorted (args_sorted1 _) ?_);unfold Lu.«sorted»;refine(Ac (m:=checkCount "sorted" 1 1 _) (Aj (Ac (G7 hT ho hcl hd hz (Ac (Nf ?_ (by exact hz)))))));have hs1:s.heap.objs.size<(G6 s.heap vs).objs.size:=by unfold G6;rw[Heap.size_update,size_push'];exact Ow _
 have k1: ∀b o,s.heap.get? b=some o->(G6 s.heap vs).get? b=some o:=fun b o q=>by
  have hlt:b<s.heap.objs.size:=An q;unfold G6;rw[Mn _ _ _ _ (Be hlt),Hz _ _ _ (Be hlt)];exact q
 dsimp only;generalize G6 s.heap vs=h1 at hs1 k1⊢;have hoL:(h1.push (Gi "list" vs.toArray 0)).get? h1.objs.size=some (Gi "list" vs.toArray 0):=Au _ rfl;have keep: ∀b o,s.heap.get? b=some o->(h1.push (Gi "list" vs.toArray 0)).get? b=some o/\b≠h1.objs.size:=fun b o q=>by
  have q:=k1 b o q;have hlt:b<h1.objs.size:=An q;exact⟨by rw[Hz _ _ _ (Be hlt)];exact q,Be hlt⟩
 show(wpAny _ _ _ _ _ {s with heap:=h1.push (Gi "list" vs.toArray 0)});refine(Ac (Ce (Ec slot_list_sort ⟨_,hoL,rfl⟩ entry_list_sort (IG (κ:=κ) (ky:=ky) hoL hz h64 (fun n2 h' k'=>hk n2 _ _ h' fun b o q=>k' b o (keep b o q).2 (keep b o q).1) (fun h' k'=>hc _ h' fun b o q=>k' b o (keep b o q).2 (keep b o q).1) ⟨_,rfl,?_⟩) (args_list_sort _))));obtain⟨e,he⟩:=sortedHeap_at (vs:=vs) (out:=((srt0 vs.length ky).map fun i=>vs.getD i Value.none).toArray) hoL;refine(Aj ⟨_,rfl,h _ _ e ?_ (fun b o q=> ?_) he⟩)
 ·exact Fa hs1
 ·rw[sortedHeap_old (keep b o q).2 (An (keep b o q).1)]
  exact(keep b o q).1
noncomputable def lexL:List Int->List Int->Bool
 |[],[]=>false
 |[],_::_=>true
 |_::_,[]=>false
 |a::as,b::bs=>if a=b then lexL as bs else decide (a<b)
theorem SS: ∀p,lexL p p=false
 |[]=>rfl
 |a::as=>by simp[lexL,SS as]
theorem WB: ∀p q r,lexL p q=true->lexL q r=true->lexL p r=true
 |[],[],_,h,_=>by simp[lexL] at h
 |[],_::_,[],_,h=>by simp[lexL] at h
 |[],_::_,_::_,_,_=>rfl
 |_::_,[],_,h,_=>by simp[lexL] at h
 |_::_,_::_,[],_,h=>by simp[lexL] at h
 | a :: as,b :: bs,c :: cs,h1,h2 => by
  unfold lexL at h1 h2⊢;by_cases e1:a=b
  ·subst e1
   rw[if_pos rfl] at h1;by_cases e2:a=c
   ·rw[if_pos e2] at h2⊢
    exact WB as bs cs h1 h2
   ·rw[if_neg e2] at h2⊢
    exact h2
  ·rw[if_neg e1] at h1
   have h1:=of_decide_eq_true h1;by_cases e2:b=c
   ·subst e2
    rw[if_neg e1];exact decide_eq_true h1
   ·rw[if_neg e2] at h2
    have h2:=of_decide_eq_true h2;rw[if_neg (by lia)];exact decide_eq_true (by lia)
theorem OV: ∀p q,lexL p q=false->lexL q p=false->p=q
 |[],[],_,_=>rfl
 |[],_::_,h,_=>by simp[lexL] at h
 |_::_,[],_,h=>by simp[lexL] at h
 | a :: as,b :: bs,h1,h2 => by
  unfold lexL at h1 h2;by_cases e:a=b
  ·rw[if_pos e] at h1
   rw[if_pos e.symm] at h2;rw[e,OV as bs h1 h2]
  ·rw[if_neg e] at h1
   rw[if_neg (fun z=>e z.symm)] at h2;have h1:=of_decide_eq_false h1;have h2:=of_decide_eq_false h2;lia
theorem zCH{b:Bool}{x y:Int}{t u:Tok}{C:Bool->Af->Prop}(h:C (decide (x<y)) s):wpAny (model prog w) A (oneLt' b (.int x t) (.int y u)) C E s:=by
 cases b with
 |true=>exact oneLt_int h
 |false=>exact kat_one _ _ (lt_int h)
theorem zGN{b fin:Bool}{C:Bool->Af->Prop}{xs:List Value}{as:List Int}(h1:Iz xs as): ∀{ys:List Value} {bs:List Int} {i:Nat},Iz ys bs->fin=decide (xs.length<ys.length)->C (lexL as bs) s->KatLex prog w A b fin C (xs.zip ys) i s:=by
 induction h1 with
 |nil=>
  intro ys bs i h2 hf h;cases h2 with
  |nil=>exact kat_nil (by rw[hf];exact h)
  |cons n t r=>exact kat_nil (by rw[hf];simpa[lexL] using h)
 |cons n t r ih=>
  intro ys bs i h2 hf h;cases h2 with
  |nil=>exact kat_nil (by rw[hf];simpa[lexL] using h)
  |cons m u r2=>
   refine kat_cons (wpAny_eqBool_int (kat_go (fun e=>kat_yes (ih r2 (by rw[hf];simp) ?_)) fun e=>kat_no (zCH ?_)))
   ·have e : n = m := by simpa using e
    simpa[lexL,e] using h
   ·have e : ¬ n = m := by simpa using e
    simpa[lexL,e] using h
theorem zCS{x y:Addr}{xs ys:List Value}{as bs:List Int}{C:Bool->Af->Prop}(hx:IsTup s.heap x xs.toArray)(hy:IsTup s.heap y ys.toArray)(h1:Iz xs as)(h2:Iz ys bs)(h:C (lexL as bs) s):wpAny (model prog w) A (keyLt' (tuples' true) (.ref x) (.ref y)) C E s:=by
 obtain⟨ox,hx,_,n,dx⟩:=hx;obtain⟨oy,hy,_,m,dy⟩:=hy;exact kat_lt hx dx hy dy (zGN h1 h2 (by simp) h)
def PtI(h:Heap):List Value->List (List Int)->Prop
 |[],[]=>True
 |v::vs,p::ps=>(∃a xs,v= .ref a/\IsTup h a xs.toArray/\Iz xs p/\p≠[])/\PtI h vs ps
 |_,_=>False
theorem PtI.keep{h h':Heap}(k: ∀b o,h.get? b=some o->h'.get? b=some o): ∀{vs:List Value} {ps:List (List Int)},PtI h vs ps->PtI h' vs ps
 |[],[],_=>trivial
 |_::_,_::_,⟨⟨a,xs,e,q,z⟩,r⟩=>⟨⟨a,xs,e,q.keeps k,z⟩,PtI.keep k r⟩
 |[],_::_,r=>r.elim
 |_::_,[],r=>r.elim
theorem PtI.at{h:Heap}: ∀{vs:List Value} {ps:List (List Int)} {i:Nat},PtI h vs ps->i<vs.length-> ∃a xs,vs.getD i Value.none= .ref a/\IsTup h a xs.toArray/\Iz xs (ps.getD i [])
 |[],[],i,_,hi=>by simp at hi
 |_::_,_::_,0,r,_=>by
  obtain⟨⟨a,xs,e,q,z,_⟩,_⟩:=r;exact⟨a,xs,e,q,z⟩
 |v::vs,p::ps,i+1,r,hi=>by
  have:=PtI.at (i:=i) r.2 (by simpa using hi);simpa using this
 |[],_::_,i,r,_=>r.elim
 |_::_,[],i,r,_=>r.elim
theorem PtI.tups{h:Heap}: ∀{vs:List Value} {ps:List (List Int)},PtI h vs ps-> ∃fs,KatTups h vs fs/\fs.length=vs.length/\ ∀v∈fs,∃i t,v= .int i t
 |[],[],_=>⟨[],trivial,rfl,fun _ h=>by cases h⟩
 | _ :: _,_ :: _,⟨⟨a,xs,e,⟨o,ho,hcl,n,hd⟩,z,hn⟩,r⟩ => by
  obtain⟨fs,h1,h2,h3⟩:=PtI.tups r;subst e;cases z with
  |nil=>exact absurd rfl hn
  |cons m t _=>
   refine⟨.int m t::fs,KatTups.cons ho hcl hd rfl h1,by simp[h2],fun v hv=> ?_⟩;rcases Al.mp hv with rfl|hv
   ·exact⟨_,_,rfl⟩
   ·exact h3 v hv
 |[],_::_,r=>r.elim
 |_::_,[],r=>r.elim
theorem G5{α:Type}{p q:α->Bool}(h: ∀x,p x=true->q x=true){a:α}(h1:p a=false)(h2:q a=true): ∀{l:List α},a∈l->l.countP p<l.countP q
 |[],h=>by cases h
 | x :: l,hm => by
  rw[La,La];have le:=List.countP_mono_left (p:=p) (q:=q) (l:=l) fun x _=>h x;rcases Al.mp hm with rfl|hm
  ·rw[h1,h2]
   simp;lia
  ·have ih:=G5 h h1 h2 hm
   cases e:p x with
   |true=>rw[h x e];lia
   |false=>cases q x<;>simp<;>lia
def rk(L:List (List Int))(p:List Int):Nat:=L.countP fun r=>lexL r p
theorem zI5{L:List (List Int)}{p q:List Int}(hp:p∈L)(hq:q∈L):decide (rk L p<rk L q)=lexL p q:=by
 cases e:lexL p q with
 |true=>exact decide_eq_true (G5 (fun x hx=>WB x p q hx e) (SS p) e hp)
 |false=>
  refine decide_eq_false (Nat.not_lt.mpr ?_);cases e2:lexL q p with
  |true=>exact Fa (G5 (fun x hx=>WB x q p hx e2) (SS q) e2 hq)
  |false=>rw[OV p q e e2];exact Ao _
theorem JN{α:Type}(ps:List α)(i:Nat)(z:α):ps.getD i z∈z::ps:=by
 by_cases h:i<ps.length
 ·rw [show ps.getD i z = ps[i] by simp [h]]
  exact Ah _ (Gx _)
 ·rw [show ps.getD i z = z by simp [h]]
  exact Ai
def kyT(ps:List (List Int))(i:Nat):Nat:=rk ([]::ps) (ps.getD i [])
theorem zAE(ps:List (List Int))(i j:Nat):lk (kyT ps) i j=lexL (ps.getD i []) (ps.getD j []):=zI5 (JN _ _ _) (JN _ _ _)
theorem KR{T:String}{l:Addr}{o:Obj}{n:Nat}{vs:List Value}{ps:List (List Int)}{Q:Value->Af->Prop}(hT:T= "list" ∨T= "tuple") (ho:s.heap.get? l=some o) (hcl:o.cls= .type T) (hd:o.data= .seq vs.toArray n) (hz:vs.length<=sizeLine) (h64:vs.length<64) (hp:PtI s.heap vs ps)
  (h: ∀(r:Addr) (h':Heap) (e:Nat),s.heap.objs.size<=r->(∀b o,s.heap.get? b=some o->h'.get? b=some o)->h'.get? r=some (Gi "list" ((srt0 vs.length (kyT ps)).map fun i=>vs.getD i Value.none).toArray e)->Q (.ref r) {s with heap:=h'}):
  wpAny (model prog w) A (call (.builtin "sorted") [.ref l]) Q E s:=by
 refine IH (κ:=tuples' true) hT ho hcl hd hz h64 (fun n2 A E h' k' Q' q=> ?_) (fun A h' k' i j hi hj C q=> ?_) h
 ·obtain⟨fs,h1,h2,h3⟩:=(hp.keep k').tups
  refine kat_kind (s:={s with heap:=h'}) (T:= .type "int") h1 (by lia) (fun v hv=> ?_) (by decide) q;obtain⟨i,t,rfl⟩:=h3 v hv;exact Looks.now
 ·obtain⟨a,xs,e1,t1,g1⟩:=(hp.keep k').at hi
  obtain⟨b,ys,e2,t2,g2⟩:=(hp.keep k').at hj;rw[e1,e2];rw[zAE] at q;exact zCS (s:={s with heap:=h'}) t1 t2 g1 g2 q
end
end TS
namespace L2
open PySem PySem.Spec PyProof.Rows
variable{X:Cx}{K:As}
noncomputable def tpD:dP->Option (List Int)
 | .tup ds=>(YZ ds).bind fun ns=>if ns.isEmpty then none else some ns
 |_=>none
noncomputable def KS:List dP->Option (List (List Int))
 |[]=>some []
 |d::ds=>(tpD d).bind fun p=>(KS ds).map fun ps=>p::ps
def PtV(K:As)(H:Hp):List V->List (List Int)->Prop
 |[],[]=>True
 |v::vs,p::ps=>(∃a,v= .ref a/\W4 K H a (p.map V.int)/\p≠[])/\PtV K H vs ps
 |_,_=>False
theorem zE6{d:dP}{p:List Int}(h:tpD d=some p): ∃ds,d= .tup ds/\YZ ds=some p/\p≠[]:=by
 unfold tpD at h;split at h
 ·rename_i ds
  obtain⟨ns,h1,h⟩:=Aa.mp h;split at h
  ·cases h
  ·rename_i z
   cases h;exact⟨ds,rfl,h1,fun e=>z (by rw[e];rfl)⟩
 ·cases h
theorem GG{H:Hp}{N:Addr->Prop}: ∀{xs:List V} {ds:List dP} {ps:List (List Int)},cY K N H xs ds->KS ds=some ps->PtV K H xs ps
 |_,_,_,.nil,h=>by cases h;trivial
 | _,_,ps,@cY.cons _ _ _ v vs d ds h t,e => by
  have e:(tpD d).bind (fun p=>(KS ds).map fun ps=>p::ps)=some ps:=e;obtain⟨p,h1,e⟩:=Aa.mp e;have e:(KS ds).map (fun ps=>p::ps)=some ps:=e;obtain⟨qs,h2,e⟩:=Aq.mp e;cases e;obtain⟨es,rfl,h3,h4⟩:=zE6 h1;refine⟨?_,GG t h2⟩;cases h with
  |tup sq r=>
   have e1:=SQ r h3;subst e1;exact⟨_,rfl,sq,h4⟩
theorem PtV.ptI{H:Hp}{aa:List (Addr×Obj)}{σ:St}{s:Af}(I:c6 X aa σ H s): ∀{xs:List V} {us:List Value} {ps:List (List Int)},PtV X.K H xs ps->cG xs us->TS.PtI s.heap us ps
 |[],_,[],_,.nil=>trivial
 |_::_,_,_::_,⟨⟨a,e,q,n⟩,r⟩,.cons h t=>by
  subst e;cases h;obtain⟨its,rv,ht,_⟩:=I.tuple q;exact⟨⟨a,its,rfl,ht,HE rv,n⟩,PtV.ptI I r t⟩
 |[],_,_::_,h,_=>h.elim
 |_::_,_,[],h,_=>h.elim
theorem PtV.len{H:Hp}: ∀{xs:List V} {ps:List (List Int)},PtV K H xs ps->xs.length=ps.length
 |[],[],_=>rfl
 |_::_,_::_,r=>by simp[PtV.len r.2]
 |[],_::_,r=>r.elim
 |_::_,[],r=>r.elim
theorem NR{xs:List V}{us:List Value}(r:cG xs us): ∀l:List Nat,(∀i∈l,i<xs.length)->cG (l.map fun i=>xs.getD i .non) (l.map fun i=>us.getD i Value.none)
 |[],_=> .nil
 |i::l,h=>by
  have hi:=h i Ai;obtain⟨u,h1,h2⟩:=cG.get (i:=i) (x:=xs[i]) r (by simp[hi]);refine .cons ?_ (NR r l fun j hj=>h j (Ah _ hj));have e1:xs.getD i .non=xs[i]:=by simp[hi]
  have e2:us.getD i Value.none=u:=by simp[h1]
  show cL (xs.getD i .non) (us.getD i Value.none);rw[e1,e2];exact h2
noncomputable def N7(ps:List (List Int)):List Nat:=TS.srt0 ps.length (TS.kyT ps)
theorem R6(ps:List (List Int)):(N7 ps).Perm (Am ps.length):=TS.NN _ _
theorem zBM(ps:List (List Int))(h:ps.length<64):(N7 ps).Pairwise fun i j=>TS.lexL (ps.getD j []) (ps.getD i [])=false:=
 (TS.zBN _ _ h).imp fun {i j} q => by
  have:=TS.zAE ps j i;rw[<- this];exact decide_eq_false (Nat.not_lt.mpr q)
def A5(K:As):RC:=fun xs H Q=> ∃(p:Addr) (ys:List V) (ps:List (List Int)),xs=[.ref p]/\(X1 K H p ys∨W4 K H p ys)/\ys.length<64/\PtV K H ys ps/\ ∀l:Addr,H l=none->Q (.ref l) (bP H l (.lst ((N7 ps).map fun i=>ys.getD i .non)))
theorem HH(h:X.K=K):a8 X (.builtin "sorted") (A5 K):=by
 subst h;intro aa s σ H xs us Q I r h;obtain⟨p,ys,ps,rfl,hq,h64,hp,q⟩:=h;obtain⟨u,rfl,rx⟩:=WV r;cases rx;obtain⟨T,o,n,its,hT,ho,hcl,hd,rv,hz⟩: ∃(T:String) (o:Obj) (n:Nat) (its:List Value),(T= "list" ∨T= "tuple")/\s.heap.get? p=some o/\o.cls= .type T/\o.data= .seq its.toArray n/\cG ys its/\ys.length<=sizeLine:=by
  rcases hq with hq|hq
  ·obtain⟨its,rv,⟨o,n,e,c,_,d⟩,hz⟩:=I.list hq
   exact⟨_,o,n,its,.inl rfl,e,c,d,rv,hz⟩
  ·obtain⟨its,rv,⟨o,e,c,n,d⟩,hz⟩:=I.tuple hq
   exact⟨_,o,n,its,.inr rfl,e,c,d,rv,hz⟩
 have ag:=rv.length;have hpl:=hp.len;refine TS.KR hT ho hcl hd (by lia) (by lia) (hp.ptI I rv) fun r h' e hr k' he=> ?_;rw[show its.length=ps.length by lia] at he;refine⟨.ref r,_,I.laid (a:=r) (o:= .lst ((N7 ps).map fun i=>ys.getD i .non)) (t':=s.toks) k' hr ?_,rfl,q _ (I.hok.fresh hr)⟩;refine⟨by rw[Bf,(R6 ps).length_eq,Eo];lia,(N7 ps).map fun i=>its.getD i Value.none,e,NR rv _ fun i hi=> ?_,he⟩;have:=Bk.mp ((R6 ps).mem_iff.mp hi);lia
noncomputable def WF(d:dP):Option dP:=(YS d).bind fun ds=>if ds.length<64 then(KS ds).bind fun ps=>some (.lst ((N7 ps).map fun i=>ds.getD i .non)) else none
theorem NH{H:Hp}{N:Addr->Prop}{xs:List V}{ds:List dP}(r:cY K N H xs ds): ∀l:List Nat,cY K N H (l.map fun i=>xs.getD i .non) (l.map fun i=>ds.getD i .non)
 |[]=> .nil
 | i :: l => by
  have one: ∀{xs:List V} {ds:List dP} (i:Nat),cY K N H xs ds->b6 K N H N (xs.getD i .non) (ds.getD i .non):=by
   intro xs ds i r;induction r using cY.rec (motive_1:=fun _ _ _ _=>True) generalizing i with
   |nil=>simpa using b6.non
   |cons h t _ ih=>cases i with
    |zero=>simpa using h
    |succ i=>simpa using ih i
   |_=>trivial
  exact .cons (one i r) (NH r l)
theorem LZ:CalN K (A5 K) WF:=by
 intro H N M x d c Q hx h k;obtain⟨ds,h0,h⟩:=Aa.mp (show(YS d).bind _=some c from h);split at h
 ·rename_i h64
  obtain⟨ps,h1,h⟩:=Aa.mp h;cases h;obtain⟨a,xs,rfl,sq,r⟩:=hx.seq h0;exact⟨a,xs,ps,rfl,sq,by rw[r.length];exact h64,GG r h1,fun l hl'=>k l _ _ hl' (NH r _) rfl⟩
 ·cases h
theorem DZ:typeLookup (.type "list") ("keys":Str)=pure none:=am_miss_of_fast (by decide+kernel)
section
variable{prog:Bq}{w:World}{A:Cy}{E:Value->Af->Prop}{s:Af}
theorem DU{a:Addr}{o:Obj}{xs:Array Value}{k:Nat}{Q:Option Value->Af->Prop}(hx:s.heap.get? a=some o)(hc:o.cls= .type "list") (d9:o.data= .seq xs k) (hd:o.dict=none) (hA:A.handled=none)
  (h: ∀h' tk,(∀b ob,s.heap.get? b=some ob->h'.get? b=some ob)->Q none {s with heap:=h',toks:=tk}):wpAny (model prog w) A (getAttr? (.ref a) "keys") Q E s:=by
 obtain⟨c,dct,dat,sl⟩:=o;simp only at hc d9 hd;subst hc d9 hd;obtain⟨hp,g,d,tk,os⟩:=s;have hT: ∀tk',(⟨hp,g,d,tk',os⟩:Af).TypeIs (.ref a) "list":=fun _=>⟨_,hx,rfl⟩;have f1:=sub_AttributeError;have f3:=F.slot_list_getattribute.lookup;have f4:=F.slot_list_getattribute.bind (.ref a);have f5:=am_list_getattr_none;unfold getAttr? getAttrBy? getAttrBy
 (repeat (any_goals (first|assumption|exact hT _|((with_reducible show wpAny _ _ (call (Value.builtin "list.__getattribute__") _ _) _ _ _);refine Nu F.slot_list_getattribute (hT _) am_entry_list_getattribute (F.args_list_getattribute_2 _ _) (meets_getattribute_miss_list a xs k sl "keys" _ DZ (by decide) (by size_fits)) ⟨hx,hA,fun h' tk' e hx'=> ?_⟩)|wp_step)))
 obtain⟨t1,u1,he⟩:=hx'.there;show(wpAny _ _ (Nh _ _ _ _ _ _ _) _ _ _);unfold Nh
 (repeat (any_goals (first|assumption|wp_step)))
 exact h _ _ hx'.keeps
end
theorem MY:entryFor table "dict.update.loop"=some Lu.«dict.update.loop» :=entryFor_of_tree (by kernel_rfl)
theorem US:plainId "dict.update.loop"=true:=by decide+kernel
def PrK(prog:Bq)(w:World)(h:Heap):List Value->List (b9×Value)->Prop
 |[],[]=>True
 |v::vs,p::ps=>(∃a key,v= .ref a/\IsTup h a #[key,p.2]/\(b7 prog w).is p.1 key=true)/\PrK prog w h vs ps
 |_,_=>False
section
variable{prog:Bq}{w:World}{A:Cy}{E:Value->Af->Prop}{s:Af}
theorem PrK.keep{h h':Heap}{C:Addr->Prop}(k: ∀b o,C b->h.get? b=some o->h'.get? b=some o): ∀{vs:List Value} {ps:List (b9×Value)},(∀a,Br a∈vs->C a)->PrK prog w h vs ps->PrK prog w h' vs ps
 |[],[],_,_=>trivial
 |_::_,_::_,hC,⟨⟨a,key,e,⟨o,ho,r⟩,q⟩,r2⟩=>⟨⟨a,key,e,⟨o,k a o (hC a (by rw[e];exact Ai)) ho,r⟩,q⟩,PrK.keep k (fun a ha=>hC a (Ah _ ha)) r2⟩
 |[],_::_,_,r=>r.elim
 |_::_,[],_,r=>r.elim
theorem HP{a:Addr}{k v:Value}{Q:List Value->Af->Prop}(h:IsTup s.heap a #[k,v])(q:Q [k,v] s):wpAny (model prog w) A (Lf (.ref a)) Q E s:=by
 obtain⟨o,ho,hc,n,hd⟩:=h;unfold Lf;refine(Ac (Ig (T:= "tuple") ⟨o,ho,hc⟩ ?_));rw[if_pos (by decide)];exact(Ac (El ho hd (Aj q)))
theorem zDU{R:Oh->Af->Prop}{I D:Addr}{fp wr:List Addr}{items:Array Value}{St:Nat->Heap->Prop}(W:Walks prog w A.in1 I fp wr items.size (fun i v=>items[i]? =some v) St)(hDf:D∉fp): ∀(vs:List Value) (ps:List (b9×Value)) (j:Nat) (i:Int) (s:Af) (kvs:List (b9×Value)),items.toList.drop j=vs->j+vs.length=items.size->St j s.heap->s.heap.DictOf (b7 prog w) D kvs->kvs.length+vs.length<=sizeLine->PrK prog w s.heap vs ps->(∀a,Br a∈vs->a∉wr/\a≠D)→
  (∀g tk,g.DictOf (b7 prog w) D (ps.foldl (fun l p=>Rj l p.1 p.2) kvs)->(∀b o,b∉wr->b≠D->s.heap.get? b=some o->g.get? b=some o)->R (.ok (.ret .none)) {s with heap:=g,toks:=tk})→
  Ga (model prog w) A (.builtin "dict.update.loop" ⟨[.ref D,.ref I,rawInt i,.none],[]⟩) R s
 | [],ps,j,i,s,kvs,e,hj,hst,hd,hz,hp,ha,hR => by
  have nDw:D∉wr:=fun z=>hDf (W.sub _ z);cases ps with
  |cons p ps=>exact hp.elim
  |nil=>
   refine Fs MY (by
    rw[Gu US _];show(wpAny _ A.in1 (pyNext (.ref I)>>=_) _ _ s);refine(Ac (W.done s _ _ (by rw[show items.size=j by simpa using hj.symm];exact hst) fun g tk kept=> ?_));show(wpAny _ A.in1 (Builtin.Dict.addKeywords D []>>=_) _ _ _);refine(Ac (Aj (Aj ?_)));obtain⟨o,es,ep,ho,r⟩:=hd;exact hR g tk ⟨o,es,ep,kept _ _ nDw ho,r⟩ fun b o z1 _ e=>kept b o z1 e)
 | v :: vs,ps,j,i,s,kvs,e,hj,hst,hd,hz,hp,ha,hR => by
  have nDw:D∉wr:=fun z=>hDf (W.sub _ z);cases ps with
  |nil=>exact hp.elim
  |cons p ps=>
   obtain⟨⟨a,key,rfl,ht,hk⟩,hp⟩:=hp;obtain⟨na,nD⟩:=ha a Ai;simp only[Bb] at hj hz;have ei:items[j]? =some (.ref a):=by
    have:=congrArg (fun l=>l[0]?) e;simpa using this
   have ed:items.toList.drop (j+1)=vs:=by
    have:=congrArg List.tail e;simpa using this
   refine Fs MY (by
    rw[Gu US _];show(wpAny _ A.in1 (pyNext (.ref I)>>=_) _ _ s);refine(Ac (W.item j s _ _ (by lia) hst fun v g tk pv nq kept=> ?_));obtain rfl:v= .ref a:=by rw[ei] at pv;cases pv;rfl
    obtain⟨o,ho,r⟩:=ht;obtain⟨o2,es,ep,ho2,r2⟩:=hd;refine(Ac (Ce (Ac (wpAny_tryCatch (HP (s:={s with heap:=g,toks:=tk}) ⟨o,kept _ _ na ho,r⟩ ?_)))));refine(Ce (wpAny_dictSet_pairs (s:={s with heap:=g,toks:=tk}) (kvs:=kvs) hk ⟨o2,es,ep,kept _ _ nDw ho2,r2⟩ (fun g2 hd2 hs2=> ?_) (by lia)));have io: ∀b o,b∉wr->b≠D->s.heap.get? b=some o->g2.get? b=some o:=fun b o z1 z2 e=>(hs2.2 b z2).trans (kept b o z1 e);refine(Aj ⟨Nj US _,zDU W hDf vs ps (j+1) (i+1) _ (Rj kvs p.1 p.2) ed (by lia) (W.frame _ _ _ nq fun b hb o e=>(hs2.2 b (fun z=>hDf (by rw[<- z];exact hb))).trans e) hd2 ?_ (PrK.keep (C:=fun b=>b∉wr/\b≠D) (fun b o hb e=>io b o hb.1 hb.2 e) (fun a h=>ha a (Ah _ h)) hp) (fun a h=>ha a (Ah _ h)) ?_⟩)
    ·have:=stored_length_le kvs p.1 p.2
     lia
    ·exact fun g3 tk3 hd3 ln=>hR g3 tk3 hd3 fun b o z1 z2 e=>ln b o z1 z2 (io b o z1 z2 e))
end
section
variable{prog:Bq}{w:World}{A:Cy}{E:Value->Af->Prop}{s:Af}
theorem HA{l:Addr}{vs:List Value}{ps:List (b9×Value)}{Q:Value->Af->Prop}(hh:A.handled=none)(pl:PlainL s.heap l vs.toArray)(hz:vs.length<=sizeLine)(hp:PrK prog w s.heap vs ps)
  (h: ∀g tk,g.DictOf (b7 prog w) s.heap.objs.size (ps.foldl (fun l p=>Rj l p.1 p.2) [])->(∀b o,s.heap.get? b=some o->g.get? b=some o)->Q (.ref s.heap.objs.size) {s with heap:=g,toks:=tk}):
  wpAny (model prog w) A (call (.type "dict") [.ref l]) Q E s:=by
 refine(callType_codes (Q₁:=fun obj s₁=>obj= .ref s.heap.objs.size/\s₁={s with heap:=s.heap.push {cls:= .type "dict",data:= .dict #[]}}) F.kt_called_dict (F.kt_typeCall_dict_1 _) F.entry_dict_init (kt_code_dict_new _ ⟨rfl,rfl⟩) ?_);rintro obj s₁ ⟨rfl,rfl⟩;have dz:(s.heap.push {cls:= .type "dict",data:= .dict #[]}).DictOf (b7 prog w) s.heap.objs.size []:=Pq s.heap;obtain⟨o,n,ho,hc,hd,d9⟩:=pl;have ho':(s.heap.push {cls:= .type "dict",data:= .dict #[]}).get? l=some o:=Ad _ ho;refine⟨dz.typeIs,F.args_dict_init_2 _ _,?_⟩;unfold Lu.«dict.__init__»;refine(Ac ?_);unfold Builtin.Dict.selfAndRest;refine(Ac (wpAny_notOrdered_dict dz.typeIs ?_));show(wpAny _ _ (pure (s.heap.objs.size,[Br l])) _ _ _);refine(Aj ?_);show(wpAny _ _ (Kv "dict.__init__" s.heap.objs.size (.ref l) [] .none) _ _ _);unfold Kv;refine(Ac (Ig (T:= "list") ⟨o,ho',hc⟩ ?_));rw[if_pos (by decide)];refine(Ac (DU ho' hc d9 hd (by simp[hh]) fun g1 tk1 k1=> ?_));simp only[Option.isNone_none,if_true];refine(Ac (Gp ?_));have o1:g1.get? l=some o:=k1 _ _ ho';have od:g1.get? s.heap.objs.size=some {cls:= .type "dict",data:= .dict #[]}:=k1 _ _ (Au _ rfl);have lts:s.heap.objs.size<g1.objs.size:=An od;have ltl:l<s.heap.objs.size:=An ho;have hl1:g1.IsList l vs.toArray:=⟨o,o1,hc,n,d9⟩;have l3: ∀b ob,s.heap.get? b=some ob->g1.get? b=some ob:=fun b ob q=>k1 b ob (Ad _ q);have ne1: ∀b ob,s.heap.get? b=some ob->b∉[g1.objs.size]/\b≠s.heap.objs.size:=fun b ob q=>by
  have:=An q;exact⟨fun z=>by rw[Ax.mp z] at this;exact absurd (Oi this lts) (Bz _),fun z=>by rw[z] at this;exact Bz _ this⟩
 have hin: ∀{vs:List Value} {ps:List (b9×Value)},PrK prog w s.heap vs ps-> ∀a,Br a∈vs-> ∃ob,s.heap.get? a=some ob:=by
  intro vs;induction vs with
  |nil=>intro ps _ a ha;cases ha
  |cons v vs ih=>
   intro ps hp a ha;cases ps with
   |nil=>exact hp.elim
   |cons p ps=>
    rcases Al.mp ha with e|ha
    ·obtain⟨⟨b,key,e2,⟨ob,hob,_⟩,_⟩,_⟩:=hp
     rw[e2] at e;cases e;exact⟨ob,hob⟩
    ·exact ih hp.2 a ha
 refine(Ac (Em (s:={s with heap:=g1,toks:=tk1}) hl1 ?_));have W:=Qw (prog:=prog) (w:=w) (A:=A.in1.in1) (by simp[hh]) g1.objs.size l (Be (Oi ltl lts)) vs.toArray;refine(Aj ⟨Nj US _,zDU (A:=A.in1) W (fun z=> ?_) vs ps 0 0 _ [] (by simp) (by simp) ⟨⟨_,Au _ rfl,rfl,rfl⟩,hl1.push _⟩ ?_ (by simpa using hz) (PrK.keep (C:=fun _=>True) (fun b ob _ q=>Ad _ (l3 b ob q)) (fun _ _=>trivial) hp) (fun a ha=> ?_) fun g tk hdd kept=>⟨rfl,h g tk hdd fun b ob q=> ?_⟩⟩)
 ·rcases Al.mp z with z|z
  ·exact absurd lts (by rw[<- z];exact Bz _)
  ·rw[<- Ax.mp z] at ltl
   exact Bz _ ltl
 ·obtain⟨o2,es,ep,ho2,r2⟩:=dz
  exact⟨o2,es,ep,Ad _ (k1 _ _ ho2),r2⟩
 ·obtain⟨ob,hob⟩:=hin hp a ha
  exact ne1 a ob hob
 ·exact kept b ob (ne1 b ob q).1 (ne1 b ob q).2 (Ad _ (l3 b ob q))
end
variable{X:Cx}{K:As}{H:Hp}{σ:St}{s:Af}{aa:List (Addr×Obj)}{ml:List Nat}{pa ta ia:Bool}{fa:VF}{a:Expr}{p' pos:Pos}
noncomputable def kprD:dP->Option (b9×dP)
 | .tup [k,v]=>(XX k).map fun kk=>(kk,v)
 |_=>none
noncomputable def SR:List dP->Option (List (b9×dP))
 |[]=>some []
 |d::ds=>(kprD d).bind fun p=>(SR ds).map fun ps=>p::ps
def LD(K:As)(H:Hp):List V->List (b9×V)->Prop
 |[],[]=>True
 |v::vs,p::ps=>(∃a,v= .ref a/\W4 K H a [kV p.1,p.2])/\LD K H vs ps
 |_,_=>False
theorem zCR{d:dP}{p:b9×dP}(h:kprD d=some p): ∃k,d= .tup [k,p.2]/\XX k=some p.1:=by
 unfold kprD at h;split at h
 ·rename_i k v
  cases e:XX k with
  |none=>rw[e] at h;cases h
  |some kk=>rw[e] at h;cases h;exact⟨k,rfl,e⟩
 ·cases h
theorem JQ{N:Addr->Prop}: ∀{xs:List V} {ds:List dP} {kds:List (b9×dP)},cY K N H xs ds->SR ds=some kds-> ∃kvs:List (b9×V),LD K H xs kvs/\kvs.map Ct=kds.map Ct/\cY K N H (kvs.map Du) (kds.map Du)
 |_,_,_,.nil,h=>by cases h;exact⟨[],trivial,rfl,.nil⟩
 | _,_,kds,@cY.cons _ _ _ v vs d ds h t,e => by
  have e:(kprD d).bind (fun p=>(SR ds).map fun ps=>p::ps)=some kds:=e;obtain⟨p,h1,e⟩:=Aa.mp e;have e:(SR ds).map (fun ps=>p::ps)=some kds:=e;obtain⟨qs,h2,e⟩:=Aq.mp e;cases e;obtain⟨kvs,r1,r2,r3⟩:=JQ t h2;obtain⟨k,rfl,hk⟩:=zCR h1;cases h with
  |tup sq r=>
   cases r with
   |cons w1 r=>
    cases r with
    |cons w2 r=>
     cases r;have ek:=w1.key hk;subst ek;exact⟨(p.1,_)::kvs,⟨⟨_,rfl,sq⟩,r1⟩,by simp[r2],.cons w2 r3⟩
theorem LD.prK(I:c6 X aa σ H s): ∀{xs:List V} {us:List Value} {kvs:List (b9×V)},LD X.K H xs kvs->cG xs us-> ∃ps:List (b9×Value),KV kvs ps/\PrK X.prog X.w s.heap us ps
 |[],_,[],_,.nil=>⟨[],.nil,trivial⟩
 | _ :: _,_,p :: _,⟨⟨b,e,q⟩,r⟩,.cons h t => by
  subst e;cases h;obtain⟨ps,r1,r2⟩:=LD.prK I r t;obtain⟨its,rv,ht,_⟩:=I.tuple q;cases rv with
  |cons w1 rv=>
   cases rv with
   |cons w2 rv=>
    cases rv;exact⟨(p.1,_)::ps,.cons ⟨rfl,w2⟩ r1,⟨b,_,rfl,ht,Q3 w1⟩,r2⟩
 |[],_,_::_,h,_=>h.elim
 |_::_,_,[],h,_=>h.elim
theorem LD.len: ∀{xs:List V} {ps:List (b9×V)},LD K H xs ps->xs.length=ps.length
 |[],[],_=>rfl
 |_::_,_::_,r=>by simp[LD.len r.2]
 |[],_::_,r=>r.elim
 |_::_,[],r=>r.elim
def A1(K:As):RC:=fun xs H Q=> ∃(p:Addr) (ys:List V) (kvs:List (b9×V)),xs=[.ref p]/\X1 K H p ys/\LD K H ys kvs/\(kvs.map Ct).Nodup/\ ∀l:Addr,H l=none->Q (.ref l) (bP H l (.dK kvs))
theorem zGQ(h:X.K=K)(hc:X.calm=true):a8 X (.type "dict") (A1 K):=by
 subst h;intro aa s σ H xs us Q I r h;obtain⟨p,ys,kvs,rfl,hq,hp,nd,q⟩:=h;obtain⟨u,rfl,rx⟩:=WV r;cases rx;obtain⟨its,rv,pl,hz⟩:=I.list hq;have ag:=rv.length;have hpl:=hp.len;obtain⟨ps,r1,r2⟩:=hp.prK I rv;refine HA (I.ok.hd hc) pl (by lia) r2 fun g tk hd kept=> ?_;have hm:O0 [] kvs=kvs:=M7 (acc:=[]) (by simpa using nd);have rel:=KV.merge r1 (kvs:=[]) (vs:=[]) .nil;rw[hm] at rel;exact⟨.ref s.heap.objs.size,_,I.laid (a:=s.heap.objs.size) (o:= .dK kvs) (t':=tk) kept (Ao _) (zB3 (by lia) (beq_eq_false_iff_ne.mpr (Dg (Be I.big))) rel hd),rfl,q _ (I.hok.fresh (Ao _))⟩
noncomputable def FS:dP->Option dP
 | .lst ds=>(SR ds).bind fun kds=>if(kds.map Ct).Nodup then some (.dct (kds.map Ct) (kds.map Du)) else none
 |_=>none
def CalD(K:As)(r:RC)(o:dP->Option dP):Prop:= ∀(H:Hp) (N M:Addr->Prop) (x:V) (d c:dP) (Q:VK),b6 K N H M x d->o d=some c→
 (∀p (kvs:List (b9×V)) ds,H p=none->cY K N H (kvs.map Du) ds->c= .dct (kvs.map Ct) ds->Q (.ref p) (bP H p (.dK kvs)))->r [x] H Q
theorem zCL:CalD K (A1 K) FS:=by
 intro H N M x d c Q hx h k;cases d with
 |lst ds=>
  have h:((SR ds).bind fun kds=>if(kds.map Ct).Nodup then some (dP.dct (kds.map Ct) (kds.map Du)) else none)=some c:=h;obtain⟨kds,h1,h⟩:=Aa.mp h;have h:(if(kds.map Ct).Nodup then some (dP.dct (kds.map Ct) (kds.map Du)) else none)=some c:=h;split at h
  ·rename_i nd
   cases h;obtain⟨a,xs,rfl,sq,r⟩:=hx.lstE;obtain⟨kvs,r1,r2,r3⟩:=JQ r h1;exact⟨a,xs,kvs,rfl,sq,r1,by rw[r2];exact nd,fun l hl'=>k l kvs _ hl' r3 (by rw[r2])⟩
  ·cases h
 |_=>cases h
theorem mkDK{B:Bs}{O:Nat->Option Addr}{H1:Hp}{δ':Ev}{p:Addr}{pu:Bool}{kvs:List (b9×V)}{ds:List dP}(S:bB K ml B O H1 σ δ')(f:Fr (OA O) H H1)(s:pu=true->bR H H1)(hp:H1 p=none)(r:cY K (Nn B O) H1 (kvs.map Du) ds):ResN K ml B O H σ pu (bP H1 p (.dK kvs)) δ' p (.dct (kvs.map Ct) ds):=
 ⟨S.laid hp,f.trans (dJ hp).fr,fun z=>(s z).trans (dJ hp),.dct c0 ((r.away hp _ _ W8).same (dJ hp)),S.new hp,S.fresh hp⟩
theorem ER(hK:X.K=K)(hc:X.calm=true)(hg:Gl X "dict") (hm:X.mg "dict"=none) (hv:Bj "dict"=some (.type "dict")) (ha:PE X a (TV K ml pa ta true fa)) (hn:("dict":Str)≠ "__name__":=by decide) (hdb:(("dict":Str)==("__debug__":Str))=false:=by decide)
  (he:Ak (a::[]) X.env=(false,eval a X.env)::Ak [] X.env:=by rfl):PE X (.Call (.Name "dict" p') [a] [] pos) (TN K ml pa (f1 FS fa)):=
 (XM (zGQ hK hc) hg hm hv (cK ha aP he) hn hdb he).imp fun σ H Q h => by
  obtain⟨B,O,δ,d,δ',S,q,k⟩:=h;obtain⟨x,h1,h2⟩:=RJ q;refine⟨B,O,δ,x,δ',S,h1,fun v1 H1 R1=>zCL H1 _ _ v1 x d Q R1.rep h2 fun p kvs ds hp hr he=> ?_⟩;subst he;exact k p _ (mkDK R1.sta R1.frm R1.pur hp hr)
variable{X:Cx}{K:As}
theorem zCG:XO X (Fe .BitAnd) (rI (fun _ j=>j=1) fun i _=> .int (i % 2)):=opI fun i j _ _ _ _ _ hc q=>and_int (by
 subst hc;have e:=W.kbt_mask i 1;rw[show(2:Int) ^ 1 - 1=1 by decide,show(2:Int) ^ 1=2 by decide] at e;rw[e];exact q)
abbrev oShl:=oI G1 fun i j=> .int (i*2 ^ j.toNat)
noncomputable abbrev D4:=oI (fun _ j=>decide (0<=j)) fun i j=> .int (i/2 ^ j.toNat)
noncomputable abbrev M9:=oI (fun _ j=>decide (j=1)) fun i _=> .int (i % 2)
theorem zHV:SG K (rI CY fun i j=> .int (i*2 ^ j.toNat)) oShl:=PJ (fun i j h=>by
 have p:(2:Nat) ^ 64=18446744073709551616:=by decide
 unfold CY;rw[p];simpa[G1,and_assoc] using h) fun i j _ _ _=> .int _
theorem zHU:SG K (rI (fun _ j=>0<=j) fun i j=> .int (i/2 ^ j.toNat)) D4:=PJ (fun i j h=>of_decide_eq_true h) fun i j _ _ _=> .int _
theorem zEO:SG K (rI (fun _ j=>j=1) fun i _=> .int (i % 2)) M9:=PJ (fun i j h=>of_decide_eq_true h) fun i j _ _ _=> .int _
def OU(k:b9)(σ:List b9):Bool:=σ.any fun j=>decide (j=k)
theorem YJ{k:b9}{σ:List b9}:OU k σ=true↔k∈σ:=by
 unfold OU;rw[Ik];exact⟨fun⟨j,h1,h2⟩=>of_decide_eq_true h2▸h1,fun h=>⟨k,h,decide_eq_true rfl⟩⟩
def aD(σ:List b9)(k:b9):List b9:=if OU k σ then σ else σ++[k]
theorem DV(σ:List b9)(k:b9):(aD σ k).length<=σ.length+1:=by unfold aD;split<;>simp
theorem DW(σ:List b9)(k j:b9):j∈aD σ k↔j∈σ∨j=k:=by
 unfold aD;split
 ·rename_i h
  have h:=YJ.mp h;exact⟨.inl,fun q=>q.elim id fun e=>e▸h⟩
 ·simp
abbrev QO(prog:Bq)(w:World)(h:Heap)(S:Addr)(σ:List b9):Prop:=h.SetOf (b7 prog w) S (fun k=>OU k σ) σ.length
section
variable{prog:Bq}{w:World}{A:Cy}{R:Oh->Af->Prop}
theorem MA{h h':Heap}{S:Addr}{σ:List b9}(q:QO prog w h S σ)(k: ∀o,h.get? S=some o->h'.get? S=some o):QO prog w h' S σ:=by
 obtain⟨o,es,ep,t,e,r⟩:=q;exact⟨o,es,ep,t,k o e,r⟩
theorem zBQ{h:Heap}{a:Addr}{S:b9->Bool}{n:Nat}{σ:List b9}(q:h.SetOf (b7 prog w) a S n)(e: ∀k,S k=OU k σ)(en:n=σ.length):QO prog w h a σ:=by
 obtain rfl:S=fun k=>OU k σ:=funext e;subst en;exact q
theorem zCT{k:b9}{u:Value}(r:cL (kV k) u):u.scannable=true:=by
 cases k with
 |inl i=>obtain⟨t,e⟩:=(show∃t,u=Mq i t from r);subst e;rfl
 |inr x=>obtain⟨t,e⟩:=(show∃t,u=Mr x t from r);subst e;rfl
theorem KP{its:List Value}{l I S:Addr}(hh:A.in1.handled=none)(n1:l≠I)(n2:S≠I)(n3:S≠l)(hb:its.length+1<scanBound):
  ∀(rs:List b9) (i:Nat) (σ:List b9) (s:Af),cG (rs.map kV) (its.drop i)->i+rs.length=its.length->σ.length<=i->s.heap.IsListIter I l i->s.heap.IsList l its.toArray->QO prog w s.heap S σ→
   (∀h' tk,QO prog w h' S (rs.foldl aD σ)->(∀b o,b≠S->b≠I->s.heap.get? b=some o->h'.get? b=some o)->R (.ok (.ret .none)) {s with heap:=h',toks:=tk})→
   Ga (model prog w) A (.builtin "set.update.loop" ⟨[.ref S,.ref I],[]⟩) R s
 |[],i,σ,s,rv,hi,hσ,st,hl,hS,hR=>by
  refine Fs Kw ?_;rw[Gu Ho _];show wpAny _ A.in1 (pyNext (.ref I)>>=_) _ _ s;refine Ac (Ic hh st hl (by simp at hi;simp;lia) fun h' he=> ?_);show wpAny _ A.in1 (ret Value.none) _ _ _;exact Aj (hR h' s.toks (MA hS fun o e=>he S o n2 e) fun b o _ h2 e=>he b o h2 e)
 | k :: rs,i,σ,s,rv,hi,hσ,st,hl,hS,hR => by
  simp only[Bb] at hi;have hlt:i<its.length:=by lia
  obtain⟨r1,rv⟩:cL (kV k) its[i]/\cG (rs.map kV) (its.drop (i+1)):=by
   rw[Cw hlt] at rv;cases rv with
   |cons a b=>exact⟨a,b⟩
  refine Fs Kw ?_;rw[Gu Ho _];show wpAny _ A.in1 (pyNext (.ref I)>>=_) _ _ s;refine Ac (Hs st hl (x:=its[i]) (by simp[hlt]) fun h1 st1 sb1=> ?_);have hS1:QO prog w h1 S σ:=MA hS fun o e=>sb1.extBut S o n2 e;show wpAny _ A.in1 (holding [its[i]] (setAdd S its[i])>>=_) _ _ _;refine Ac (Ce ?_);unfold setAdd;refine Ce (Ac ((b7 prog w).pyHash (k:=k) (Q3 r1) ?_));refine wpAny_setAddHashed_of (knd:=b7 prog w) (k:=k) (Q3 r1) (zCT r1) hS1 (by lia) fun h2 sb2 hS2=> ?_;have e1:QO prog w h2 S (aD σ k):=zBQ hS2 (fun j=>by
   rw[Bool.eq_iff_iff,Er,YJ,YJ,DW,decide_eq_true_iff]) (by
   unfold aD;split<;>simp)
  have kp: ∀b o,b≠S->b≠I->s.heap.get? b=some o->h2.get? b=some o:=fun b o q1 q2 e=>by
   have:=sb1.extBut b o q2 e;rw[sb2.2 b q1];exact this
  refine Aj ⟨Nj Ho _,KP hh n1 n2 n3 hb rs (i+1) (aD σ k) _ rv (by lia) (by have:=DV σ k;lia) (st1.at fun o e=> ?_) (hl.at fun o e=>kp l o (Dg n3) n1 e) e1 fun h3 tk q1 q2=>hR h3 tk q1 fun b o g1 g2 e=>q2 b o g1 g2 (kp b o g1 g2 e)⟩;rw[sb2.2 I (Dg n2)];exact e
end
section
variable{prog:Bq}{w:World}{A:Cy}{E:Value->Af->Prop}{s:Af}
set_option maxHeartbeats 3200000 in
theorem DD{l:Addr}{its:List Value}{ks:List b9}{Q:Value->Af->Prop}(hh:A.handled=none)(hl:s.heap.IsList l its.toArray)(hv:cG (ks.map kV) its)(hb:its.length+1<scanBound)
  (h: ∀(h':Heap) (tk:Nat),QO prog w h' s.heap.objs.size (ks.foldl aD [])->(∀b o,s.heap.get? b=some o->h'.get? b=some o)->Q (.ref s.heap.objs.size) {s with heap:=h',toks:=tk}):
  wpAny (model prog w) A (call (.type "set") [.ref l]) Q E s:=by
 obtain⟨c,tl,p9⟩:=F.called_set.mro;have on:=F.called_set.made;have oz:=F.called_set.sub;refine wpAny_call (codeAny_of_tree ?_);show wpAny _ _ (callAny (.type "set") _) _ _ _;refine Aj ⟨Ng _ (by decide+kernel),Fs F.entry_type_call ?_⟩;rw[Around.under_plain (weight_type_call_type "set" [.ref l] []) rfl];have h1:=F.called_set.notType;have h2:=F.called_set.canCreate;have hct:=F.typeCall_set_1 (.ref l);repeat (any_goals (first|assumption|wp_step))
 refine Gz (code_set_new_1 (.ref l) (E:=E) (Q₁:=fun v t=> ∃b:Bool,v= .ref s.heap.objs.size/\t={s with heap:=s.heap.push {cls:= .type "set",dict:=none,data:= .set #[] 0 (.fresh 0 0 b)}}) fun b=>⟨b,rfl,rfl⟩) fun r t hr=> ?_;cases r with
 |error e=>exact hr
 |ok z=>
  cases z with
  |ret v=>
   obtain⟨b,rfl,rfl⟩:=hr;have hS:(s.heap.push ({cls:= .type "set",dict:=none,data:= .set #[] 0 (.fresh 0 0 b)}:Obj)).get? s.heap.objs.size=some ({cls:= .type "set",dict:=none,data:= .set #[] 0 (.fresh 0 0 b)}:Obj):=Au _ rfl;have hT:Shared.TypeIs {s with heap:=s.heap.push ({cls:= .type "set",dict:=none,data:= .set #[] 0 (.fresh 0 0 b)}:Obj)} (.ref s.heap.objs.size) "set":=⟨_,hS,rfl⟩;have hli:=F.called_set.init.lookup;have hbi:=F.called_set.init.bind (.ref s.heap.objs.size);repeat (any_goals (first|assumption|wp_step))
   refine Gz (codeAny_call_builtin (R:=wants (fun r t=>r= .none/\ ∃h' tk,t={s with heap:=h',toks:=tk}/\QO prog w h' s.heap.objs.size (ks.foldl aD [])/\ ∀b o,s.heap.get? b=some o->h'.get? b=some o) E) F.called_set.init.plain F.entry_set_init (check_set_init_1 hT ?_)) fun r t hr=> ?_
   ·have hl1:(s.heap.push ({cls:= .type "set",dict:=none,data:= .set #[] 0 (.fresh 0 0 b)}:Obj)).IsList l its.toArray:=hl.push _
    have hlt:l<s.heap.objs.size:=by obtain⟨o,e,_⟩:=hl;exact An e
    obtain⟨ol,hol,hcl,nl,hdl⟩:=hl;obtain⟨oq,l4,oj,j5⟩:=ol;simp only at hcl hdl;subst hcl;subst hdl;have p8:(s.heap.push ({cls:= .type "set",dict:=none,data:= .set #[] 0 (.fresh 0 0 b)}:Obj)).get? l=some {cls:= .type "list",dict:=l4,data:= .seq its.toArray nl,slots:=j5}:=Ad _ hol;have p6:=F.sub_list_set;have p7:=F.sub_list_frozenset;have hne:(Fl "list"==Fl "dict")=false:=by decide
    unfold Lu.«set.__init__» noKeywords Pj;generalize hPI:Og=PI;wp_walk;subst hPI;refine Em hl1 ?_;refine Ac (wpAny_runValue ?_);have hz:(s.heap.push ({cls:= .type "set",dict:=none,data:= .set #[] 0 (.fresh 0 0 b)}:Obj)).objs.size=s.heap.objs.size+1:=Co _ _;refine KP (its:=its) (l:=l) (by simp[hh]) (by rw[hz];lia) (by rw[hz];lia) (by lia) hb ks 0 [] _ (by simpa using hv) (by have:=hv.length;simp at this;lia) (Ao _)
     ⟨_,Au _ rfl,rfl,rfl⟩ (hl1.push _) ?_ fun h' tk q1 q2=> ?_
    ·have e:((s.heap.push ({cls:= .type "set",dict:=none,data:= .set #[] 0 (.fresh 0 0 b)}:Obj)).push {cls:= .type "list_iterator",data:= .fields #[.ref l,.int 0 0]}).get? s.heap.objs.size=some ({cls:= .type "set",dict:=none,data:= .set #[] 0 (.fresh 0 0 b)}:Obj):=Ad _ hS
     exact⟨_,#[],0,_,e,⟨rfl,rfl,rfl⟩,rfl,fun e he=>by simp at he,fun k=>by simp[OU],by decide,rfl,rfl⟩
    ·show wpAny _ _ _ _ _ _
     refine Aj ?_;show wpAny _ _ (ret Value.none) _ _ _;refine Aj ⟨rfl,h',tk,rfl,q1,fun b o e=> ?_⟩;have:=An e;exact q2 b o (by lia) (by rw[hz];lia) (Ad _ (Ad _ e))
   ·cases r with
    |error e=>exact hr
    |ok z=>
     cases z with
     |ret v=>
      obtain⟨rfl,h',tk,rfl,q1,q2⟩:=hr;repeat (any_goals (first|assumption|wp_step))
      exact h _ _ q1 q2
     |_=>exact hr.elim
  |_=>exact hr.elim
end
section
variable{X:Cx}{K:As}{ml:List Nat}{a:Expr}{pa ta:Bool}{fa:VF}{H:Hp}{pos:Pos}
def zI6(X:Cx):RC:=fun xs H Q=> ∃(p:Addr) (ks:List b9),xs=[.ref p]/\X1 X.K H p (ks.map kV)/\ks.length+1<4096/\ ∀l,H l=none->Q (.ref l) (bP H l (.ext fun h=>QO X.prog X.w h l (ks.foldl aD [])))
theorem G4(hc:X.calm=true):a8 X (.type "set") (zI6 X):=by
 intro aa s σ H xs us Q I r h;obtain⟨p,ks,rfl,hq,hn,q⟩:=h;obtain⟨u,rfl,rx⟩:=WV r;cases rx;obtain⟨its,rv,pl,hz⟩:=I.list hq;have hl:its.length=ks.length:=by rw[<- rv.length];simp
 refine DD (I.ok.hd hc) pl.isList rv (by rw[hl];exact hn) fun h' tk hS kp=> ?_;refine⟨.ref s.heap.objs.size,_,I.laid (t':=tk) kp (Ao _) (o:= .ext fun h=>QO X.prog X.w h s.heap.objs.size (ks.foldl aD [])) ⟨hS,?_,fun h1 h2 g1 g2=>MA g1 g2⟩,rfl,q _ (I.hok.fresh (Ao _))⟩;obtain⟨o,_,_,_,e,_⟩:=hS;exact⟨o,e⟩
theorem DA:a8 X (.builtin "len") (fun xs H Q=> ∃p σ,xs=[.ref p]/\H p=some (.ext fun h=>QO X.prog X.w h p σ)/\Q (.int (σ.length:Nat)) H):=by
 intro aa s σ H xs us Q I r h;obtain⟨p,S,rfl,hq,q⟩:=h;obtain⟨u,rfl,rx⟩:=WV r;cases rx;obtain⟨⟨o,es,ep,t,e1,e2,e3,e4,e5,e6,e7,e8⟩,_⟩:=I.hok p _ hq;rw[<- e8] at q;refine PySem.call_len_set e1 e2 e3 e7 ?_ ⟨.int es.size,H,I.tok _,⟨_,rfl⟩,q⟩;have:es.size<4096:=e6;lia
noncomputable def ksD:List dP->Option (List b9)
 |[]=>some []
 |d::ds=>(XX d).bind fun k=>(ksD ds).map fun ks=>k::ks
theorem zAI{N:Addr->Prop}: ∀{xs:List V} {ds:List dP} {ks:List b9},cY K N H xs ds->ksD ds=some ks->xs=ks.map kV
 |_,_,_,.nil,h=>by cases h;rfl
 |_,_,ps,@cY.cons _ _ _ v vs d ds h t,e=>by
  have e:(XX d).bind (fun p=>(ksD ds).map fun ps=>p::ps)=some ps:=e;obtain⟨p,h1,e⟩:=Aa.mp e;obtain⟨qs,h2,e⟩:=Aq.mp e;cases e;rw[Ar,<- zAI t h2];congr 1;exact h.key h1
noncomputable def WE:dP->Option dP
 | .lst ds=>(ksD ds).bind fun ks=>if ks.length+1<4096 then some (.int (ks.foldl aD []).length) else none
 |_=>none
theorem GN{p' p'' bm:Pos}(hm:X.mg "len"=none) (hm2:X.mg "set"=none) (ha:PE X a (TV K ml pa ta true fa)) (hc:X.calm=true:=by rfl) (hK:X.K=K:=by rfl) (hg:Gl X "len":=by rfl) (hg2:Gl X "set":=by rfl)
  (he:Ak (a::[]) X.env=(false,eval a X.env)::Ak [] X.env:=by rfl) (he2:Ak (Expr.Call (.Name "set" p'') [a] [] bm::[]) X.env=(false,eval (Expr.Call (.Name "set" p'') [a] [] bm) X.env)::Ak [] X.env:=by rfl):
  PE X (.Call (.Name "len" p') [.Call (.Name "set" p'') [a] [] bm] [] pos) (TV K ml pa true true (f1 WE fa)):=by
 subst hK;refine(SW DA hg hm zB6 (cK (XM (G4 hc) hg2 hm2 (by decide+kernel) (cK ha aP he) (by decide) (by decide) he) aP he2) (by decide) (by decide) he2).imp fun σ H Q h=> ?_;obtain⟨B,O,δ,d,δ',S,q,k⟩:=h;obtain⟨x,h1,h2⟩:=RJ q;refine⟨B,O,δ,x,δ',S,h1,fun v1 H1 R1=> ?_⟩;cases x with
 |lst ds=>
  have h2:((ksD ds).bind fun ks=>if ks.length+1<4096 then some (dP.int (ks.foldl aD []).length) else none)=some d:=h2;obtain⟨ks,h3,h2⟩:=Aa.mp h2;split at h2
  ·rename_i hn
   cases h2;obtain⟨a,xs,rfl,sq,r⟩:=R1.rep.lstE;have e1:=zAI r h3;subst e1;exact⟨a,ks,rfl,sq,hn,fun l hl=>⟨l,_,rfl,c0,k _ _ ⟨R1.sta.same (dJ hl),R1.frm.trans (dJ hl).fr,fun z=>(R1.pur z).trans (dJ hl),.int _⟩⟩⟩
  ·cases h2
 |_=>cases h2
end
end L2
namespace L2
open PySem
section
variable{α β:Type}{d x y z c:dP}{δ δ1 δ':Ev}{fa fb fc:VF}{o o':dP->dP->Option dP}{i j k n:Nat}{s:Sl}{b:Bool}{ds:List dP}
def q0(r:Option α)(δ:Ev):Option (α×Ev):=r.map fun c=>(c,δ)
@[simp] theorem q0_s{a:α}:q0 (some a) δ=some (a,δ):=rfl
@[simp] theorem fC_e:fC d δ=some (d,δ):=rfl
noncomputable def qV:Option Sl->Ev->Option (dP×Ev)
 |some (.va d),δ=>some (d,δ)
 |_,_=>none
noncomputable def qO:Option Sl->Ev->Option (dP×Ev)
 |some (.va d),δ=>some (d,δ)
 |some (.ow d),δ=>some (d,δ)
 |_,_=>none
@[simp] theorem fV_e:fV i δ=qV δ[i]? δ:=by unfold fV qV;split<;>simp_all
@[simp] theorem fO_e:fO i δ=qO δ[i]? δ:=by unfold fO qO;split<;>simp_all
@[simp] theorem qV_s:qV (some (.va d)) δ=some (d,δ):=rfl
@[simp] theorem qO_v:qO (some (.va d)) δ=some (d,δ):=rfl
@[simp] theorem qO_o:qO (some (.ow d)) δ=some (d,δ):=rfl
def q1(o:dP->Option dP)(r:Option (dP×Ev)):Option (dP×Ev):=r.bind fun p=>q0 (o p.1) p.2
@[simp] theorem f1_e{o:dP->Option dP}:f1 o fa δ=q1 o (fa δ):=rfl
@[simp] theorem q1_s{o:dP->Option dP}:q1 o (some (x,δ))=q0 (o x) δ:=rfl
def q2(o:dP->dP->Option dP)(r:Option (dP×Ev))(fb:VF):Option (dP×Ev):=r.bind fun p=>(fb p.2).bind fun q=>q0 (o p.1 q.1) q.2
def q2b(o:dP->dP->Option dP)(x:dP)(r:Option (dP×Ev)):Option (dP×Ev):=r.bind fun q=>q0 (o x q.1) q.2
@[simp] theorem f2_e:f2 o fa fb δ=q2 o (fa δ) fb:=rfl
@[simp] theorem q2_s:q2 o (some (x,δ)) fb=q2b o x (fb δ):=rfl
@[simp] theorem zO3:q2b o x (some (y,δ))=q0 (o x y) δ:=rfl
noncomputable def q3(o o':dP->dP->Option dP)(r:Option (dP×Ev))(fb fc:VF):Option (dP×Ev):=r.bind fun p=>(fb p.2).bind fun q=>(o p.1 q.1).bind fun z=>match z with
 | .bl true=>(fc q.2).bind fun s=>(o' q.1 s.1).map fun u=>(u,s.2)
 | .bl false=>some (.bl false,q.2)
 |_=>none
def q3b(o o':dP->dP->Option dP)(x:dP)(r:Option (dP×Ev))(fc:VF):Option (dP×Ev):=q3 o o' (some (x,[])) (fun _=>r) fc
noncomputable def q3c(o':dP->dP->Option dP)(y:dP)(δ:Ev)(fc:VF):Option dP->Option (dP×Ev)
 |some (.bl true)=>q2b o' y (fc δ)
 |some (.bl false)=>some (.bl false,δ)
 |_=>none
@[simp] theorem f3_e:f3 o o' fa fb fc δ=q3 o o' (fa δ) fb fc:=rfl
@[simp] theorem q3_s:q3 o o' (some (x,δ)) fb fc=q3b o o' x (fb δ) fc:=rfl
@[simp] theorem zO2:q3b o o' x (some (y,δ)) fc=q3c o' y δ fc (o x y):=by
 simp only[q3b,q3,At];cases o x y with
 |none=>rfl
 |some z=>cases z with
  |bl b=>cases b<;>rfl
  |_=>rfl
@[simp] theorem zO0:q3c o' y δ fc (some (.bl true))=q2b o' y (fc δ):=rfl
@[simp] theorem zO1:q3c o' y δ fc (some (.bl false))=some (.bl false,δ):=rfl
noncomputable def qc(r:Option (dP×Ev))(fs:N8):Option (List dP×Ev):=r.bind fun p=>(fs p.2).map fun q=>(p.1::q.1,q.2)
noncomputable def qcb(x:dP)(r:Option (List dP×Ev)):Option (List dP×Ev):=r.map fun q=>(x::q.1,q.2)
@[simp] theorem zMY:cP δ=some ([],δ):=rfl
@[simp] theorem zKJ{fs:N8}:dL fa fs δ=qc (fa δ) fs:=rfl
@[simp] theorem qc_s{fs:N8}:qc (some (x,δ)) fs=qcb x (fs δ):=rfl
@[simp] theorem zNL:qcb x (some (ds,δ))=some (x::ds,δ):=rfl
noncomputable def qT(g:List dP->dP)(r:Option (List dP×Ev)):Option (dP×Ev):=r.bind fun p=>if p.1.length<=16777216 then some (g p.1,p.2) else none
@[simp] theorem zMW{fs:N8}:aN fs δ=qT .tup (fs δ):=rfl
@[simp] theorem zMZ{fs:N8}:ZL fs δ=qT .lst (fs δ):=rfl
@[simp] theorem qT_s{g:List dP->dP}:qT g (some (ds,δ))=if ds.length<=16777216 then some (g ds,δ) else none:=rfl
noncomputable def qB:Option (dP×Ev)->Option (Bool×Ev)
 |some (.bl k,δ)=>some (k,δ)
 |_=>none
@[simp] theorem fB_e:fB fa δ=qB (fa δ):=by
 unfold fB qB;cases fa δ with
 |none=>rfl
 |some p=>
  obtain⟨d,e⟩:=p;cases d<;>rfl
@[simp] theorem qB_s:qB (some (.bl b,δ))=some (b,δ):=rfl
variable{tb tb':VB}{g g':VS}
noncomputable def qAnd(r:Option (Bool×Ev))(y:VB):Option (Bool×Ev):=r.bind fun p=>if p.1=true then y p.2 else some (false,p.2)
noncomputable def qOr(r:Option (Bool×Ev))(y:VB):Option (Bool×Ev):=r.bind fun p=>if p.1=true then some (true,p.2) else y p.2
noncomputable def qNot(r:Option (Bool×Ev)):Option (Bool×Ev):=r.map fun p=>(!p.1,p.2)
@[simp] theorem zN6:QQ tb tb' δ=qAnd (tb δ) tb':=rfl
@[simp] theorem zOL:JD tb tb' δ=qOr (tb δ) tb':=rfl
@[simp] theorem zN5:UF tb δ=qNot (tb δ):=rfl
@[simp] theorem LH:ZX δ=some (true,δ):=rfl
@[simp] theorem zLU:qAnd (some (true,δ)) tb=tb δ:=rfl
@[simp] theorem zLV:qAnd (some (false,δ)) tb=some (false,δ):=rfl
@[simp] theorem zNQ:qOr (some (true,δ)) tb=some (true,δ):=rfl
@[simp] theorem zNR:qOr (some (false,δ)) tb=tb δ:=rfl
@[simp] theorem zLO:qNot (some (b,δ))=some (!b,δ):=rfl
noncomputable def qA(r:Option (dP×Ev))(y:VF):Option (dP×Ev):=r.bind fun p=>match p.1 with
 | .bl true=>y p.2
 | .bl false=>some (.bl false,p.2)
 |_=>none
noncomputable def qR(r:Option (dP×Ev))(y:VF):Option (dP×Ev):=r.bind fun p=>match p.1 with
 | .bl false=>y p.2
 | .bl true=>some (.bl true,p.2)
 |_=>none
noncomputable def qN(r:Option (dP×Ev)):Option (dP×Ev):=r.bind fun p=>match p.1 with
 | .bl k=>some (.bl (!k),p.2)
 |_=>none
@[simp] theorem zN0:QR fa fb δ=qA (fa δ) fb:=rfl
@[simp] theorem zOJ:fOr fa fb δ=qR (fa δ) fb:=rfl
@[simp] theorem zMX:fNot fa δ=qN (fa δ):=rfl
@[simp] theorem qA_t:qA (some (.bl true,δ)) fb=fb δ:=rfl
@[simp] theorem qA_f:qA (some (.bl false,δ)) fb=some (.bl false,δ):=rfl
@[simp] theorem qR_t:qR (some (.bl true,δ)) fb=some (.bl true,δ):=rfl
@[simp] theorem qR_f:qR (some (.bl false,δ)) fb=fb δ:=rfl
@[simp] theorem qN_s:qN (some (.bl b,δ))=some (.bl (!b),δ):=rfl
def qI(r:Option (Bool×Ev))(x y:VF):Option (dP×Ev):=r.bind fun p=>if p.1=true then x p.2 else y p.2
@[simp] theorem zOK:fIf tb fa fb δ=qI (tb δ) fa fb:=rfl
@[simp] theorem qI_t:qI (some (true,δ)) fa fb=fa δ:=rfl
@[simp] theorem qI_f:qI (some (false,δ)) fa fb=fb δ:=rfl
def qS(r:Option Ou)(g:VS):Option Ou:=r.bind fun o=>match o with
 | .nx δ'=>g δ'
 |o=>some o
@[simp] theorem zL5:aS δ=some (.nx δ):=rfl
@[simp] theorem BF:cU g g' δ=qS (g δ) g':=rfl
@[simp] theorem qS_n:qS (some (.nx δ)) g=g δ:=rfl
@[simp] theorem qS_r:qS (some (.rt d δ)) g=some (.rt d δ):=rfl
@[simp] theorem qS_b:qS (some (.bk δ)) g=some (.bk δ):=rfl
@[simp] theorem qS_c:qS (some (.ct δ)) g=some (.ct δ):=rfl
def qJ(r:Option (Bool×Ev))(x y:VS):Option Ou:=r.bind fun p=>if p.1=true then x p.2 else y p.2
@[simp] theorem zN7:XA tb g g' δ=qJ (tb δ) g g':=rfl
@[simp] theorem qJ_t:qJ (some (true,δ)) g g'=g δ:=rfl
@[simp] theorem qJ_f:qJ (some (false,δ)) g g'=g' δ:=rfl
noncomputable def qRet(r:Option (dP×Ev)):Option Ou:=r.map fun p=> .rt p.1 p.2
def zDI(r:Option (dP×Ev)):Option Ou:=r.map fun p=> .nx p.2
@[simp] theorem zL4:cD fa δ=qRet (fa δ):=rfl
@[simp] theorem zLK:qRet (some (d,δ))=some (.rt d δ):=rfl
@[simp] theorem zJZ:NI fa δ=zDI (fa δ):=rfl
@[simp] theorem zK1:zDI (some (d,δ))=some (.nx δ):=rfl
noncomputable def qx(f:dP->Sl)(r:Option (dP×Ev)):Option (Sl×Ev):=r.map fun p=>(f p.1,p.2)
@[simp] theorem xV_e:xV fa δ=qx .va (fa δ):=rfl
@[simp] theorem xO_e:xO fa δ=qx .ow (fa δ):=rfl
@[simp] theorem qx_s{f:dP->Sl}:qx f (some (d,δ))=some (f d,δ):=rfl
noncomputable def qSet(i:Nat)(r:Option (Sl×Ev)):Option Ou:=r.bind fun p=>if i<p.2.length then some (.nx (p.2.set i p.1)) else none
@[simp] theorem zL3{x:VX}:aV i x δ=qSet i (x δ):=rfl
@[simp] theorem zLH:qSet i (some (s,δ))=if i<δ.length then some (.nx (δ.set i s)) else none:=rfl
noncomputable def qP2(i j:Nat)(r:Option (Sl×Ev))(y:VX):Option Ou:=r.bind fun p=>(y p.2).bind fun q=>if i<q.2.length/\j<q.2.length then some (.nx ((q.2.set j q.1).set i p.1)) else none
noncomputable def qP2b(i j:Nat)(s:Sl)(r:Option (Sl×Ev)):Option Ou:=r.bind fun q=>if i<q.2.length/\j<q.2.length then some (.nx ((q.2.set j q.1).set i s)) else none
@[simp] theorem zJY{x y:VX}:Q8 i j x y δ=qP2 i j (x δ) y:=rfl
@[simp] theorem zNP{y:VX}:qP2 i j (some (s,δ)) y=qP2b i j s (y δ):=rfl
@[simp] theorem zLN{s':Sl}:qP2b i j s (some (s',δ))=if i<δ.length/\j<δ.length then some (.nx ((δ.set j s').set i s)) else none:=rfl
noncomputable def qP3(i j k:Nat)(r:Option (Sl×Ev))(y z:VX):Option Ou:=r.bind fun p=>(y p.2).bind fun q=>(z q.2).bind fun r=>if i<r.2.length/\j<r.2.length/\k<r.2.length then some (.nx (((r.2.set k r.1).set j q.1).set i p.1)) else none
noncomputable def qP3b(i j k:Nat)(s:Sl)(r:Option (Sl×Ev))(z:VX):Option Ou:=r.bind fun q=>(z q.2).bind fun r=>if i<r.2.length/\j<r.2.length/\k<r.2.length then some (.nx (((r.2.set k r.1).set j q.1).set i s)) else none
noncomputable def qP3c(i j k:Nat)(s s':Sl)(r:Option (Sl×Ev)):Option Ou:=r.bind fun r=>if i<r.2.length/\j<r.2.length/\k<r.2.length then some (.nx (((r.2.set k r.1).set j s').set i s)) else none
@[simp] theorem zJX{x y z:VX}:PX i j k x y z δ=qP3 i j k (x δ) y z:=rfl
@[simp] theorem zNO{y z:VX}:qP3 i j k (some (s,δ)) y z=qP3b i j k s (y δ) z:=rfl
@[simp] theorem zLM{s':Sl}{z:VX}:qP3b i j k s (some (s',δ)) z=qP3c i j k s s' (z δ):=rfl
@[simp] theorem zLL{s' s'':Sl}:qP3c i j k s s' (some (s'',δ))=if i<δ.length/\j<δ.length/\k<δ.length then some (.nx (((δ.set k s'').set j s').set i s)) else none:=rfl
@[simp] theorem OL:gN i d δ=some (δ.set i (.va d)):=rfl
def qg(r:Option Ev)(gs:CO)(ds:List dP):Option Ev:=r.bind fun δ1=>gs ds δ1
@[simp] theorem zKI:W7 [] δ=some δ:=rfl
@[simp] theorem zJE{gg:VG}{gs:CO}:bI gg gs (d::ds) δ=qg (gg d δ) gs ds:=rfl
@[simp] theorem qg_s{gs:CO}:qg (some δ) gs ds=gs ds δ:=rfl
@[simp] theorem zOG{gs:CO}:IV n gs (.tup ds) δ=if ds.length=n then gs ds δ else none:=rfl
@[simp] theorem zOH{gs:CO}:IV n gs (.lst ds) δ=if ds.length=n then gs ds δ else none:=rfl
noncomputable def qAsg(r:Option (dP×Ev))(gg:VG):Option Ou:=r.bind fun p=>(gg p.1 p.2).map Ou.nx
@[simp] theorem zL7{gg:VG}:BE fa gg δ=qAsg (fa δ) gg:=rfl
@[simp] theorem zLT{gg:VG}:qAsg (some (d,δ)) gg=(gg d δ).map Ou.nx:=rfl
noncomputable def qM(i:Nat)(m:List dP->List dP->Option (List dP))(r:Option (List dP))(δ:Ev)(fs:N8):Option Ou:=r.bind fun _=>(fs δ).bind fun p=>(QX p.2 i).bind fun ds=>(m ds p.1).map fun ds'=> .nx (p.2.set i (.ow (.lst ds')))
noncomputable def qMb(i:Nat)(m:List dP->List dP->Option (List dP))(r:Option (List dP×Ev)):Option Ou:=r.bind fun p=>(QX p.2 i).bind fun ds=>(m ds p.1).map fun ds'=> .nx (p.2.set i (.ow (.lst ds')))
noncomputable def qMc(i:Nat)(m:List dP->List dP->Option (List dP))(es:List dP)(δ:Ev)(r:Option (List dP)):Option Ou:=r.bind fun ds=>(m ds es).map fun ds'=> .nx (δ.set i (.ow (.lst ds')))
noncomputable def qMd(i:Nat)(δ:Ev)(r:Option (List dP)):Option Ou:=r.map fun ds'=> .nx (δ.set i (.ow (.lst ds')))
@[simp] theorem zL6{m:List dP->List dP->Option (List dP)}{fs:N8}:VE i m fs δ=qM i m (QX δ i) δ fs:=rfl
@[simp] theorem qM_s{m:List dP->List dP->Option (List dP)}{fs:N8}:qM i m (some ds) δ fs=qMb i m (fs δ):=rfl
@[simp] theorem zNW{m:List dP->List dP->Option (List dP)}{es:List dP}:qMb i m (some (es,δ))=qMc i m es δ (QX δ i):=rfl
@[simp] theorem zNV{m:List dP->List dP->Option (List dP)}{es:List dP}:qMc i m es δ (some ds)=qMd i δ (m ds es):=rfl
@[simp] theorem zNU:qMd i δ (some ds)=some (.nx (δ.set i (.ow (.lst ds)))):=rfl
noncomputable def qOl:Option Sl->Option (List dP)
 |some (.ow (.lst ds))=>some ds
 |_=>none
@[simp] theorem zLY:QX δ i=qOl δ[i]? :=by unfold QX qOl;split<;>simp_all
@[simp] theorem zNS:qOl (some (.ow (.lst ds)))=some ds:=rfl
@[simp] theorem zMJ:UG ds [d]=if ds.length<16777216 then some (ds++[d]) else none:=rfl
noncomputable def qOd:Option Sl->Option (List b9×List dP)
 |some (.ow (.dct ks ds))=>some (ks,ds)
 |_=>none
@[simp] theorem zLZ:X2 δ i=qOd δ[i]? :=by unfold X2 qOd;split<;>simp_all
@[simp] theorem zNT{ks:List b9}:qOd (some (.ow (.dct ks ds)))=some (ks,ds):=rfl
noncomputable def qi(r:Option (dP×Ev)):Option (List dP×Ev):=r.bind fun p=>(YS p.1).map fun ds=>(ds,p.2)
@[simp] theorem zMU:ZZ fa δ=qi (fa δ):=rfl
@[simp] theorem qi_t:qi (some (.tup ds,δ))=some (ds,δ):=rfl
@[simp] theorem qi_l:qi (some (.lst ds,δ))=some (ds,δ):=rfl
noncomputable def qr1:Option (dP×Ev)->Option (List dP×Ev)
 |some (.int j,δ)=>if -4611686018427387904<=j/\j<4611686018427387904 then some (bZ 0 j.toNat,δ) else none
 |_=>none
@[simp] theorem zOF:HD fa δ=qr1 (fa δ):=by
 unfold HD qr1;cases fa δ with
 |none=>rfl
 |some p=>
  obtain⟨d,e⟩:=p;cases d<;>rfl
@[simp] theorem zNE{j:Int}:qr1 (some (.int j,δ))=if -4611686018427387904<=j/\j<4611686018427387904 then some (bZ 0 j.toNat,δ) else none:=rfl
noncomputable def qe(r:Option (dP×Ev)):Option (List dP×Ev):=r.bind fun p=>(YS p.1).map fun ds=>(YX 0 ds,p.2)
@[simp] theorem zKH:OR fa δ=qe (fa δ):=rfl
@[simp] theorem qe_t:qe (some (.tup ds,δ))=some (YX 0 ds,δ):=rfl
@[simp] theorem qe_l:qe (some (.lst ds,δ))=some (YX 0 ds,δ):=rfl
noncomputable def qz(r:Option (dP×Ev))(g:VF):Option (List dP×Ev):=r.bind fun p=>(g p.2).bind fun q=>(YS p.1).bind fun ds=>(YS q.1).map fun es=>(YO ds es,q.2)
noncomputable def qzb(x:dP)(r:Option (dP×Ev)):Option (List dP×Ev):=r.bind fun q=>(YS x).bind fun ds=>(YS q.1).map fun es=>(YO ds es,q.2)
@[simp] theorem zMT:DQ fa fb δ=qz (fa δ) fb:=rfl
@[simp] theorem qz_s:qz (some (x,δ)) fb=qzb x (fb δ):=rfl
@[simp] theorem zN8:qzb x (some (y,δ))=(YS x).bind fun ds=>(YS y).map fun es=>(YO ds es,δ):=rfl
@[simp] theorem zL2:YS (.tup ds)=some ds:=rfl
@[simp] theorem zED:YS (.lst ds)=some ds:=rfl
def qF(r:Option (List dP×Ev))(gg:VG)(g:VS):Option Ou:=r.bind fun p=>XW gg g p.1 p.2
@[simp] theorem IB{fi:VI}{gg:VG}:RV fi gg g δ=qF (fi δ) gg g:=rfl
@[simp] theorem qF_s{gg:VG}:qF (some (ds,δ)) gg g=XW gg g ds δ:=rfl
noncomputable def qK(ix:List Nat)(nl:Nat)(r:Option (List dP×Ev))(gg:VG)(tb:VB)(fe:VF):Option (dP×Ev):=r.bind fun p=>(aU ix.length nl gg tb fe p.1 [] (cF ix p.2)).map fun q=>(.lst q.1,Z3 ix q.2 p.2)
noncomputable def qKb(ix:List Nat)(δ:Ev)(r:Option (List dP×Ev)):Option (dP×Ev):=r.map fun q=>(.lst q.1,Z3 ix q.2 δ)
@[simp] theorem zKK{ix:List Nat}{nl:Nat}{fi:VI}{gg:VG}:bW ix nl fi gg tb fa δ=qK ix nl (fi δ) gg tb fa:=rfl
@[simp] theorem qK_s{ix:List Nat}{nl:Nat}{gg:VG}:qK ix nl (some (ds,δ)) gg tb fa=qKb ix δ (aU ix.length nl gg tb fa ds [] (cF ix δ)):=rfl
@[simp] theorem zNX{ix:List Nat}:qKb ix δ (some (ds,δ1))=some (.lst ds,Z3 ix δ1 δ):=rfl
variable{as:List AV}{fs:GY}{mF:List Nat}{F:bN}
noncomputable def qa(r:Option (dP×Ev))(fs:GY):Option (List AV×Ev):=r.bind fun p=>(fs p.2).map fun q=>(.d p.1::q.1,q.2)
noncomputable def qab(x:AV)(r:Option (List AV×Ev)):Option (List AV×Ev):=r.map fun q=>(x::q.1,q.2)
@[simp] theorem zH9:cN δ=some ([],δ):=rfl
@[simp] theorem JA:aE fa fs δ=qa (fa δ) fs:=rfl
@[simp] theorem AX:qa (some (x,δ)) fs=qab (.d x) (fs δ):=rfl
@[simp] theorem AY{a:AV}:qab a (some (as,δ))=some (a::as,δ):=rfl
def qao(j:Nat)(r:Option dP)(δ:Ev)(fs:GY):Option (List AV×Ev):=r.bind fun _=>qab (.o j) (fs δ)
@[simp] theorem aO_e:aO j fs δ=qao j (slot δ j) δ fs:=rfl
@[simp] theorem zIB:qao j (some d) δ fs=qab (.o j) (fs δ):=rfl
noncomputable def qsl:Option Sl->Option dP
 |some (.va d)=>some d
 |some (.ow d)=>some d
 |_=>none
@[simp] theorem zL1:slot δ j=qsl δ[j]? :=by unfold slot qsl;split<;>simp_all
@[simp] theorem zNC:qsl (some (.va d))=some d:=rfl
@[simp] theorem zND:qsl (some (.ow d))=some d:=rfl
@[simp] theorem zKU:W5 δ []=some []:=rfl
@[simp] theorem zKV:W5 δ (.d d::as)=(W5 δ as).map fun ds=>d::ds:=rfl
@[simp] theorem zKT:W5 δ (.o j::as)=(slot δ j).bind fun d=>(W5 δ as).map fun ds=>d::ds:=rfl
noncomputable def zDJ(n:Nat)(mF:List Nat)(F:bN)(r:Option (List AV×Ev)):Option (dP×Ev):=r.bind fun p=>(W5 p.2 p.1).bind fun ds=>if ds.length=n/\V3 mF p.1 p.2=true then(F ds).bind fun q=>if WZ mF p.1 q.1 q.2=true then some (q.1,WT p.1 mF q.2 p.2) else none else none
noncomputable def qCb(n:Nat)(mF:List Nat)(F:bN)(as:List AV)(δ:Ev)(r:Option (List dP)):Option (dP×Ev):=r.bind fun ds=>if ds.length=n/\V3 mF as δ=true then(F ds).bind fun q=>if WZ mF as q.1 q.2=true then some (q.1,WT as mF q.2 δ) else none else none
noncomputable def qCc(mF:List Nat)(as:List AV)(δ:Ev)(r:Option (dP×List dP)):Option (dP×Ev):=r.bind fun q=>if WZ mF as q.1 q.2=true then some (q.1,WT as mF q.2 δ) else none
@[simp] theorem QD:dC n mF F fs δ=zDJ n mF F (fs δ):=rfl
@[simp] theorem zBW:zDJ n mF F (some (as,δ))=qCb n mF F as δ (W5 δ as):=rfl
@[simp] theorem zID:qCb n mF F as δ (some ds)=if ds.length=n/\V3 mF as δ=true then qCc mF as δ (F ds) else none:=rfl
@[simp] theorem zIC{os:List dP}:qCc mF as δ (some (d,os))=if WZ mF as d os=true then some (d,WT as mF os δ) else none:=rfl
@[simp] theorem zKG:FO δ as i=(match as[i]? with
 |some (.o j)=>match δ[j]? with
  |some (.ow _)=>true
  |_=>false
 |_=>false):=rfl
@[simp] theorem zMN:VU []=[]:=rfl
@[simp] theorem zMO:VU (.d d::as)=VU as:=rfl
@[simp] theorem zMM:VU (.o j::as)=j::VU as:=rfl
@[simp] theorem zJO:V3 mF as δ=(mF.all (FO δ as) && decide (VU as).Nodup):=rfl
@[simp] theorem zKX:XB mF [] i=true:=rfl
@[simp] theorem zKY:XB mF (.d d::as) i=XB mF as (i+1):=rfl
@[simp] theorem zKW:XB mF (.o j::as) i=(decide (i∈mF) && XB mF as (i+1)):=rfl
@[simp] theorem zJR{os:List dP}:WZ mF as d os=((XB mF as 0 || d.hard) && (XB mF as 0 || os.all U8) && decide (mF.length=os.length)):=rfl
@[simp] theorem zLW{os:List dP}:WT as [] os δ=δ:=by cases os<;>rfl
@[simp] theorem zLX{os:List dP}{is:List Nat}:WT as (i::is) (d::os) δ=(match as[i]? with
  |some (.o j)=>WT as is os (δ.set j (.ow d))
  |_=>WT as is os δ):=rfl
@[simp] theorem zO5:CU δ=some (none,δ):=rfl
noncomputable def qpS:Option (dP×Ev)->Option (Option Int×Ev)
 |some (.int i,δ)=>some (some i,δ)
 |_=>none
@[simp] theorem zO4:FX fa δ=qpS (fa δ):=by
 unfold FX qpS;cases fa δ with
 |none=>rfl
 |some p=>
  obtain⟨d,e⟩:=p;cases d<;>rfl
@[simp] theorem zNF{i:Int}:qpS (some (.int i,δ))=some (some i,δ):=rfl
noncomputable def qSl(r:Option (dP×Ev))(fl fh:VP):Option (dP×Ev):=r.bind fun p=>(fl p.2).bind fun l=>(fh l.2).bind fun u=>(oSl p.1 l.1 u.1).map fun c=>(c,u.2)
noncomputable def qSlb(x:dP)(r:Option (Option Int×Ev))(fh:VP):Option (dP×Ev):=r.bind fun l=>(fh l.2).bind fun u=>(oSl x l.1 u.1).map fun c=>(c,u.2)
def qSlc(x:dP)(l:Option Int)(r:Option (Option Int×Ev)):Option (dP×Ev):=r.bind fun u=>q0 (oSl x l u.1) u.2
@[simp] theorem zOI{fl fh:VP}:E9 fa fl fh δ=qSl (fa δ) fl fh:=rfl
@[simp] theorem zNN{fl fh:VP}:qSl (some (x,δ)) fl fh=qSlb x (fl δ) fh:=rfl
@[simp] theorem zLG{l:Option Int}{fh:VP}:qSlb x (some (l,δ)) fh=qSlc x l (fh δ):=rfl
@[simp] theorem zLF{l u:Option Int}:qSlc x l (some (u,δ))=q0 (oSl x l u) δ:=rfl
@[simp] theorem zO9{l u:Option Int}:oSl (.tup ds) l u=some (.tup (XE ds l u)):=rfl
@[simp] theorem zOA{l u:Option Int}:oSl (.lst ds) l u=some (.lst (XE ds l u)):=rfl
noncomputable def qSt(i j:Nat):Option (dP×Ev)->Option Ou
 |some (.tup (d::ds),δ)=>some (.nx ((δ.set i (.va d)).set j (.va (.lst ds))))
 |_=>none
@[simp] theorem zJW:NK i j fa δ=qSt i j (fa δ):=by
 unfold NK qSt;cases fa δ with
 |none=>rfl
 |some p=>
  obtain⟨d,e⟩:=p;cases d with
  |tup ds=>cases ds<;>rfl
  |_=>rfl
@[simp] theorem zNM:qSt i j (some (.tup (d::ds),δ))=some (.nx ((δ.set i (.va d)).set j (.va (.lst ds)))):=rfl
noncomputable def qDg(i:Nat)(r:Option (List b9×List dP))(δ:Ev)(fk fx:VF):Option (dP×Ev):=r.bind fun _=>(fk δ).bind fun p=>(fx p.2).bind fun q=>(XX p.1).bind fun k=>(X2 q.2 i).map fun z=>((bX z.1 z.2 k).getD q.1,q.2)
noncomputable def qDgb(i:Nat)(r:Option (dP×Ev))(fx:VF):Option (dP×Ev):=r.bind fun p=>(fx p.2).bind fun q=>(XX p.1).bind fun k=>(X2 q.2 i).map fun z=>((bX z.1 z.2 k).getD q.1,q.2)
noncomputable def qDgc(i:Nat)(x:dP)(r:Option (dP×Ev)):Option (dP×Ev):=r.bind fun q=>(XX x).bind fun k=>(X2 q.2 i).map fun z=>((bX z.1 z.2 k).getD q.1,q.2)
@[simp] theorem zJI:LS i fa fb δ=qDg i (X2 δ i) δ fa fb:=rfl
@[simp] theorem zNZ{z:List b9×List dP}:qDg i (some z) δ fa fb=qDgb i (fa δ) fb:=rfl
@[simp] theorem zLS:qDgb i (some (x,δ)) fb=qDgc i x (fb δ):=rfl
@[simp] theorem zLR:qDgc i x (some (y,δ))=(XX x).bind fun k=>(X2 δ i).map fun z=>((bX z.1 z.2 k).getD y,δ):=rfl
noncomputable def qDp(i:Nat)(r:Option (dP×Ev))(fk:VF):Option Ou:=r.bind fun p=>(X2 p.2 i).bind fun _=>(fk p.2).bind fun q=>(XX q.1).bind fun k=>(X2 q.2 i).bind fun z=>if z.1.length<16777216/\z.1.Nodup then some (.nx (q.2.set i (.ow (let r:=Y0 z.1 z.2 k p.1;.dct r.1 r.2)))) else none
noncomputable def qDpb(i:Nat)(x:dP)(r:Option (List b9×List dP))(δ:Ev)(fk:VF):Option Ou:=r.bind fun _=>(fk δ).bind fun q=>(XX q.1).bind fun k=>(X2 q.2 i).bind fun z=>if z.1.length<16777216/\z.1.Nodup then some (.nx (q.2.set i (.ow (let r:=Y0 z.1 z.2 k x;.dct r.1 r.2)))) else none
noncomputable def qDpc(i:Nat)(x:dP)(r:Option (dP×Ev)):Option Ou:=r.bind fun q=>(XX q.1).bind fun k=>(X2 q.2 i).bind fun z=>if z.1.length<16777216/\z.1.Nodup then some (.nx (q.2.set i (.ow (.dct (Y0 z.1 z.2 k x).1 (Y0 z.1 z.2 k x).2)))) else none
@[simp] theorem zK0{fk fv:VF}:KL i fk fv δ=qDp i (fv δ) fk:=rfl
@[simp] theorem zNY{fk:VF}:qDp i (some (x,δ)) fk=qDpb i x (X2 δ i) δ fk:=rfl
@[simp] theorem zLQ{z:List b9×List dP}{fk:VF}:qDpb i x (some z) δ fk=qDpc i x (fk δ):=rfl
@[simp] theorem zLP:qDpc i x (some (y,δ))=(XX y).bind fun k=>(X2 δ i).bind fun z=>if z.1.length<16777216/\z.1.Nodup then some (.nx (δ.set i (.ow (.dct (Y0 z.1 z.2 k x).1 (Y0 z.1 z.2 k x).2)))) else none:=rfl
@[simp] theorem zML{i:Int}:XX (.int i)=some (.inl i):=rfl
@[simp] theorem zMK{s:Str}:XX (.str s)=some (.inr s):=rfl
noncomputable def qRun(ml:List Nat):Option Ou->Option (dP×List dP)
 |some (.rt d δ)=>(VD ml δ).map fun os=>(d,os)
 |some (.nx δ)=>(VD ml δ).map fun os=>(.non,os)
 |_=>none
theorem cR{ml:List Nat}:aI n ml g ds=qRun ml (g (cI ml n ds)):=by
 unfold aI qRun;cases g (cI ml n ds) with
 |none=>rfl
 |some o=>cases o<;>rfl
@[simp] theorem zLI{ml:List Nat}:qRun ml (some (.rt d δ))=(VD ml δ).map fun os=>(d,os):=rfl
@[simp] theorem zLJ{ml:List Nat}:qRun ml (some (.nx δ))=(VD ml δ).map fun os=>(.non,os):=rfl
def qow:Option Sl->Option dP
 |some (.ow d)=>some d
 |_=>none
@[simp] theorem zM0:VD [] δ=some []:=rfl
@[simp] theorem zM1{ml:List Nat}:VD (i::ml) δ=(qow δ[i]?).bind fun d=>(VD ml δ).map fun os=>d::os:=by
 unfold VD;rw[Qo];cases h:(δ[i]? :Option Sl) with
 |none=>rfl
 | some s => cases s with
  |no=>rfl
  |va d=>rfl
  |ow d=>
   show(Option.bind _ fun os=>some (d::os))=Option.map (fun os=>d::os) _;cases (List.mapM _ ml:Option (List dP))<;>rfl
@[simp] theorem zNG:qow (some (.ow d))=some d:=rfl
end
section
variable{i j:Int}{x y:Str}{ds es:List dP}
@[simp] theorem oI_e{C:Int->Int->Bool}{g:Int->Int->dP}:oI C g (.int i) (.int j)=if C i j=true then some (g i j) else none:=rfl
@[simp] theorem zKB:a6 (.int i) (.int j)=some (.int (i+j)):=rfl
@[simp] theorem zK9:a6 (.tup ds) (.tup es)=if ds.length+es.length<=16777216 then some (.tup (ds++es)) else none:=rfl
@[simp] theorem zKA:a6 (.lst ds) (.lst es)=if ds.length+es.length<=16777216 then some (.lst (ds++es)) else none:=rfl
@[simp] theorem zOB{g:Int->Int->Int}:o2I g (.int i) (.int j)=some (.int (g i j)):=rfl
@[simp] theorem zM5:aR (.tup ds)=some (.int ds.length):=rfl
@[simp] theorem zM6:aR (.lst ds)=some (.int ds.length):=rfl
@[simp] theorem zKC:NA (.tup ds)=some (.lst ds):=rfl
@[simp] theorem zKD:NA (.lst ds)=some (.lst ds):=rfl
@[simp] theorem zIX:XF (.tup ds)=some (.tup ds):=rfl
@[simp] theorem zIY:XF (.lst ds)=some (.tup ds):=rfl
@[simp] theorem zM7:cZ (.tup ds) (.int i)=V1 ds i:=rfl
@[simp] theorem zM8:cZ (.lst ds) (.int i)=V1 ds i:=rfl
@[simp] theorem zKF{ks:List b9}:cZ (.dct ks ds) (.int i)=bX ks ds (.inl i):=rfl
@[simp] theorem zKE{ks:List b9}:cZ (.dct ks ds) (.str x)=bX ks ds (.inr x):=rfl
@[simp] theorem zO7:ND (.int i)=true:=rfl
@[simp] theorem zO6:ND .non=true:=rfl
@[simp] theorem zO8{b:Bool}:ND (.bl b)=true:=rfl
@[simp] theorem zMS:QU "int" "bool"=some false:=by decide+kernel
@[simp] theorem zMR:QU "int" "int"=some true:=by decide+kernel
@[simp] theorem zMQ:QU "tuple" "tuple"=some true:=by decide+kernel
@[simp] theorem zMP:QU "str" "str"=some true:=by decide+kernel
@[simp] theorem zMC{n:String}:T5 (.int i) (.ty n)=(QU "int" n).map dP.bl:=rfl
@[simp] theorem zM9{n:String}:T5 (.tup ds) (.ty n)=(QU "tuple" n).map dP.bl:=rfl
@[simp] theorem zMB{n:String}:T5 (.lst ds) (.ty n)=(QU "list" n).map dP.bl:=rfl
@[simp] theorem zMA{n:String}:T5 (.str x) (.ty n)=(QU "str" n).map dP.bl:=rfl
@[simp] theorem zMF:J5 .non .non=some (.bl true):=rfl
@[simp] theorem zMG:J5 (.int i) .non=some (.bl false):=rfl
@[simp] theorem zME:J5 (.str x) .non=some (.bl false):=rfl
@[simp] theorem zMD:J5 (.tup ds) .non=some (.bl false):=rfl
end
section
variable{d x:dP}{δ δ1:Ev}{r acc:List dP}{gg:VG}{tb:VB}{fe:VF}{n nl:Nat}{g:VS}
noncomputable def qk1(n nl:Nat)(gg:VG)(tb:VB)(fe:VF)(r acc:List dP)(o:Option Ev):Option (List dP×Ev):=o.bind fun δ1=>(tb δ1).bind fun p=>if p.1=true then(fe p.2).bind fun q=>if acc.length<16777216 then aU n nl gg tb fe r (acc++[q.1]) (q.2.take n) else none else aU n nl gg tb fe r acc (p.2.take n)
noncomputable def qk2(n nl:Nat)(gg:VG)(tb:VB)(fe:VF)(r acc:List dP)(o:Option (Bool×Ev)):Option (List dP×Ev):=o.bind fun p=>if p.1=true then(fe p.2).bind fun q=>if acc.length<16777216 then aU n nl gg tb fe r (acc++[q.1]) (q.2.take n) else none else aU n nl gg tb fe r acc (p.2.take n)
noncomputable def qk3(n nl:Nat)(gg:VG)(tb:VB)(fe:VF)(r acc:List dP)(o:Option (dP×Ev)):Option (List dP×Ev):=o.bind fun q=>if acc.length<16777216 then aU n nl gg tb fe r (acc++[q.1]) (q.2.take n) else none
@[simp] theorem zKN:aU n nl gg tb fe [] acc δ=some (acc,δ):=rfl
@[simp] theorem SM:aU n nl gg tb fe (d::r) acc δ=qk1 n nl gg tb fe r acc (gg d (δ++PC nl)):=rfl
@[simp] theorem KG:qk1 n nl gg tb fe r acc (some δ)=qk2 n nl gg tb fe r acc (tb δ):=rfl
@[simp] theorem AZ:qk2 n nl gg tb fe r acc (some (true,δ))=qk3 n nl gg tb fe r acc (fe δ):=rfl
@[simp] theorem zDH:qk2 n nl gg tb fe r acc (some (false,δ))=aU n nl gg tb fe r acc (δ.take n):=rfl
@[simp] theorem A0:qk3 n nl gg tb fe r acc (some (x,δ))=if acc.length<16777216 then aU n nl gg tb fe r (acc++[x]) (δ.take n) else none:=rfl
def qf1(gg:VG)(g:VS)(r:List dP)(o:Option Ev):Option Ou:=o.bind fun δ1=>(g δ1).bind (again (XW gg g r))
def qf2(gg:VG)(g:VS)(r:List dP)(o:Option Ou):Option Ou:=o.bind (again (XW gg g r))
@[simp] theorem zMV:XW gg g [] δ=some (.nx δ):=rfl
@[simp] theorem TL:XW gg g (d::r) δ=qf1 gg g r (gg d δ):=rfl
@[simp] theorem PP:qf1 gg g r (some δ)=qf2 gg g r (g δ):=rfl
@[simp] theorem PQ:qf2 gg g r (some (.nx δ))=XW gg g r δ:=rfl
@[simp] theorem zNI:qf2 gg g r (some (.ct δ))=XW gg g r δ:=rfl
@[simp] theorem zNJ:qf2 gg g r (some (.bk δ))=some (.nx δ):=rfl
@[simp] theorem zNH:qf2 gg g r (some (.rt d δ))=some (.rt d δ):=rfl
@[simp] theorem zKR{ss:Ev}:Z3 [] ss δ=δ:=by cases ss<;>rfl
@[simp] theorem zKQ{i:Nat}{is:List Nat}{ss:Ev}:Z3 (i::is) (.ow d::ss) δ=Z3 is ss (δ.set i (.ow d)):=rfl
@[simp] theorem zKP{i:Nat}{is:List Nat}{ss:Ev}:Z3 (i::is) (.va d::ss) δ=Z3 is ss δ:=rfl
@[simp] theorem zKO{i:Nat}{is:List Nat}{ss:Ev}:Z3 (i::is) (.no::ss) δ=Z3 is ss δ:=rfl
end
@[simp] theorem zA7:PC 1=[.no]:=rfl
@[simp] theorem J1:PC 2=[.no,.no]:=rfl
@[simp] theorem zOC:PC 3=[.no,.no,.no]:=rfl
@[simp] theorem zLC{i:Int}:bZ i 0=[]:=rfl
@[simp] theorem zLB:bZ 0 1=[.int 0]:=rfl
@[simp] theorem zLA:bZ 0 2=[.int 0,.int 1]:=rfl
@[simp] theorem zL9:bZ 0 3=[.int 0,.int 1,.int 2]:=rfl
@[simp] theorem zL8:bZ 0 4=[.int 0,.int 1,.int 2,.int 3]:=rfl
theorem XD{α:Type}{xs:List α}{i:Int}(h0:0<=i)(h1:i<xs.length):V1 xs i=xs[i.toNat]? :=by
 unfold V1 ixN;rw[if_pos h0,if_pos h1];rfl
theorem G0{α:Type}{xs:List α}{i:Int}(h0:0<=i)(h1:i<xs.length): ∃x∈xs,V1 xs i=some x:=by
 rw[XD h0 h1];have h:i.toNat<xs.length:=by lia
 exact⟨xs[i.toNat],Gx _,Eh h⟩
section
variable{F:bN}{fa fb fc:VF}{δ:Ev}{x y z d o:dP}{j:Nat}
noncomputable def EB(δ:Ev):Option (dP×List dP)->Option (dP×Ev)
 |some (d,[])=>some (d,δ)
 |_=>none
@[simp] theorem zNK:EB δ (some (d,[]))=some (d,δ):=rfl
theorem G2{n:Nat}{ds:List dP}{as:List AV}(h:W5 δ as=some ds)(hn:ds.length=n)(hj:VU as=[])(ha:XB [] as 0=true):qCb n [] F as δ (some ds)=EB δ (F ds):=by
 have hc:V3 [] as δ=true:=by simp[hj]
 rw[zID,if_pos ⟨hn,hc⟩];cases F ds with
 |none=>rfl
 |some q=>
  obtain⟨r,os⟩:=q;rw[zIC];cases os with
  |nil=>simp[ha,EB]
  |cons o os=>simp[EB]
def qx1(F:bN)(r:Option (dP×Ev)):Option (dP×Ev):=r.bind fun p=>EB p.2 (F [p.1])
@[simp] theorem zN9:qx1 F (some (x,δ))=EB δ (F [x]):=rfl
@[simp high] theorem call1:dC 1 [] F (aE fa cN) δ=qx1 F (fa δ):=by
 rw[QD,JA];cases fa δ with
 |none=>rfl
 |some p=>exact G2 (as:=[.d p.1]) rfl rfl rfl rfl
noncomputable def qx2(F:bN)(r:Option (dP×Ev))(fb:VF):Option (dP×Ev):=r.bind fun p=>(fb p.2).bind fun q=>EB q.2 (F [p.1,q.1])
noncomputable def qx2b(F:bN)(x:dP)(r:Option (dP×Ev)):Option (dP×Ev):=r.bind fun q=>EB q.2 (F [x,q.1])
@[simp] theorem zI8:qx2 F (some (x,δ)) fb=qx2b F x (fb δ):=rfl
@[simp] theorem zLE:qx2b F x (some (y,δ))=EB δ (F [x,y]):=rfl
@[simp high] theorem call2:dC 2 [] F (aE fa (aE fb cN)) δ=qx2 F (fa δ) fb:=by
 rw[QD,JA];cases fa δ with
 |none=>rfl
 |some p=>
  rw[AX,JA,zI8];cases fb p.2 with
  |none=>rfl
  |some q=>exact G2 (as:=[.d p.1,.d q.1]) rfl rfl rfl rfl
noncomputable def qx3(F:bN)(r:Option (dP×Ev))(fb fc:VF):Option (dP×Ev):=r.bind fun p=>(fb p.2).bind fun q=>(fc q.2).bind fun s=>EB s.2 (F [p.1,q.1,s.1])
noncomputable def qx3b(F:bN)(x:dP)(r:Option (dP×Ev))(fc:VF):Option (dP×Ev):=r.bind fun q=>(fc q.2).bind fun s=>EB s.2 (F [x,q.1,s.1])
noncomputable def qx3c(F:bN)(x y:dP)(r:Option (dP×Ev)):Option (dP×Ev):=r.bind fun s=>EB s.2 (F [x,y,s.1])
@[simp] theorem zI7:qx3 F (some (x,δ)) fb fc=qx3b F x (fb δ) fc:=rfl
@[simp] theorem zEU:qx3b F x (some (y,δ)) fc=qx3c F x y (fc δ):=rfl
@[simp] theorem zLD:qx3c F x y (some (z,δ))=EB δ (F [x,y,z]):=rfl
@[simp high] theorem call3:dC 3 [] F (aE fa (aE fb (aE fc cN))) δ=qx3 F (fa δ) fb fc:=by
 rw[QD,JA];cases fa δ with
 |none=>rfl
 |some p=>
  rw[AX,JA,zI7];cases fb p.2 with
  |none=>rfl
  |some q=>
   rw[AX,JA,zEU];cases fc q.2 with
   |none=>rfl
   |some s=>exact G2 (as:=[.d p.1,.d q.1,.d s.1]) rfl rfl rfl rfl
noncomputable def qw3(j:Nat)(δ:Ev):Option (dP×List dP)->Option (dP×Ev)
 |some (r,[o])=>some (r,δ.set j (.ow o))
 |_=>none
noncomputable def qw2(F:bN)(j:Nat)(x y:dP)(δ:Ev):Option Sl->Option (dP×Ev)
 |some (.ow d)=>qw3 j δ (F [x,d,y])
 |_=>none
def qwb(F:bN)(j:Nat)(x:dP)(r:Option (dP×Ev)):Option (dP×Ev):=r.bind fun q=>qw2 F j x q.1 q.2 q.2[j]?
def qwa(F:bN)(j:Nat)(x:dP)(δ:Ev)(fb:VF)(s:Option dP):Option (dP×Ev):=s.bind fun _=>qwb F j x (fb δ)
def qw(F:bN)(j:Nat)(r:Option (dP×Ev))(fb:VF):Option (dP×Ev):=r.bind fun p=>qwa F j p.1 p.2 fb (slot p.2 j)
@[simp] theorem zNA:qw3 j δ (some (x,[o]))=some (x,δ.set j (.ow o)):=rfl
@[simp] theorem zNB:qw2 F j x y δ (some (.ow d))=qw3 j δ (F [x,d,y]):=rfl
@[simp] theorem zI9:qwb F j x (some (y,δ))=qw2 F j x y δ δ[j]? :=rfl
@[simp] theorem zIA:qwa F j x δ fb (some d)=qwb F j x (fb δ):=rfl
@[simp] theorem qw_s:qw F j (some (x,δ)) fb=qwa F j x δ fb (slot δ j):=rfl
@[simp high] theorem callO:dC 3 [1] F (aE fa (aO j (aE fb cN))) δ=qw F j (fa δ) fb:=by
 rw[QD,JA];cases fa δ with
 |none=>rfl
 |some p=>
  obtain⟨x,δ1⟩:=p;rw[AX,aO_e,qw_s];cases h:slot δ1 j with
  |none=>rfl
  |some d0=>
   rw[zIB,JA,zIA];cases fb δ1 with
   |none=>rfl
   |some q=>
    obtain⟨y,δ2⟩:=q;rw[zI9,AX,zH9,AY,AY,AY,zBW];cases h2:δ2[j]? with
    |none=>simp[h2,qsl,qCb,qw2]
    |some s=>
     cases s with
     |no=>simp[h2,qsl,qCb,qw2]
     |va d=>simp[h2,qw2]
     |ow d=>
      simp[h2];cases F [x,d,y] with
      |none=>rfl
      |some r=>
       obtain⟨v,os⟩:=r;cases os with
       |nil=>simp[qw3]
       |cons o os=>
        cases os with
        |nil=>simp
        |cons o2 os=>simp[qw3]
end
def UY:dP:= .int 999
def EY:dP:= .tup [.str "plus",.str "minus",.str "times",.str "least",.str "most",.str "less",.str "over"]
def UX:dP:= .int 64
def UW:dP:= .int 40
def V2:dP:= .int 63
def SK:dP:= .tup [.str "row",.str "row"]
def UC:dP:= .dct [.inr "number",.inr "pick",.inr "load",.inr "take",.inr "store",.inr "put"] [.tup [.str "word"],.tup [.str "row",.str "row",.str "row"],.tup [.str "place"],.tup [.str "place",.str "row",.str "row"],.tup [.str "place",.str "row"],.tup [.str "place",.str "row",.str "row"]]
def UJ:dP:= .tup [.str "load",.str "take"]
def Y9:dP:= .tup [.str "store",.str "put"]
def X8:dP:= .int 2
def XU:dP:= .int 4
def YV:dP:= .int 8
def TQ:VS:=
   (cU (XA (JD (fB (f2 T5 (fV 0) (fC (.ty "bool")))) (UF (fB (f2 T5 (fV 0) (fC (.ty "int"))))))
   (cD (fC (.bl false)))
   aS)
   (cD (f3 oLe oLe (fV 1) (fV 0) (fV 2))))
def b8:bN:=aI 3 [] TQ
def OP:VS:=
   (cU (XA (fB (f2 (bE false) (fV 0) (fC EY)))
   (cD (fC SK))
   aS)
   (cD (f2 zDN (fC UC) (fV 0))))
def bH:bN:=aI 1 [] OP
def V8:VS:=
   (cD (f2 (bE true) (f2 cZ (fV 0) (fC (.int 0))) (fC Y9)))
def ZH:bN:=aI 1 [] V8
def WA:VS:=
   (cD (fIf (JD (fB (f2 (bE false) (f2 cZ (fV 0) (fC (.int 0))) (fC UJ))) (fB (f2 (bE false) (f2 cZ (fV 0) (fC (.int 0))) (fC Y9)))) (f2 cZ (fV 0) (fC (.int 1))) (fC .non)))
def Z9:bN:=aI 1 [] WA
def OO:VS:=
   (cU (NK 1 2 (fV 0))
   (cD (bW [] 2 (DQ (dC 1 [] bH (aE (fV 1) cN)) (fV 2)) (IV 2 (bI (gN 0) (bI (gN 1) W7))) (fB (f2 YC (fV 0) (fC (.str "row")))) (fV 1))))
def Z8:bN:=aI 3 [] OO
def TZ:VS:=
   (cD (QR (dC 3 [] b8 (aE (fV 0) (aE (fC (.int 0)) (aE (f2 PF (f1 aR (fV 1)) (fC (.int 1))) cN)))) (f2 cZ (fV 1) (fV 0))))
def YF:bN:=aI 2 [] TZ
def OM:VS:=
   (cU (XA (fB (f2 YC (fV 0) (fC (.str "word"))))
   (cD (dC 3 [] b8 (aE (fV 1) (aE (fC (.int 0)) (aE (fC UY) cN)))))
   aS)
   (cU (XA (fB (f2 YC (fV 0) (fC (.str "place"))))
   (cD (dC 3 [] b8 (aE (fV 1) (aE (fC (.int 0)) (aE (fC V2) cN)))))
   aS)
   (cD (dC 2 [] YF (aE (fV 1) (aE (fV 2) cN))))))
def WY:bN:=aI 3 [] OM
def ON:VS:=
   (cU (XA (JD (UF (fB (f2 T5 (fV 0) (fC (.ty "tuple"))))) (fB (f2 YC (f1 aR (fV 0)) (fC (.int 0)))))
   (cD (fC (.bl false)))
   aS)
   (cU (NK 2 3 (fV 0))
   (cU (aV 4 (xV (fIf (fB (f2 T5 (fV 2) (fC (.ty "str")))) (dC 1 [] bH (aE (fV 2) cN)) (fC .non))))
   (cU (XA (JD (fB (f2 J5 (fV 4) (fC .non))) (fB (f2 TJ (f1 aR (fV 4)) (f1 aR (fV 3)))))
   (cD (fC (.bl false)))
   aS)
   (cD (f1 HL (bW [1] 2 (DQ (fV 4) (fV 3)) (IV 2 (bI (gN 1) (bI (gN 2) W7))) ZX (dC 3 [] WY (aE (fV 1) (aE (fV 2) (aE (fV 0) cN)))))))))))
def WP:bN:=aI 5 [] ON
def YU:VS:=
   (cU (XA (UF (fB (dC 2 [] WP (aE (fV 4) (aO 3 cN)))))
   (cD (fC (.bl false)))
   aS)
   (VE 3 UG (dL (dC 1 [] ZH (aE (fV 4) cN)) cP)))
def TM:VS:=
   (cU (XA (JD (UF (fB (f2 T5 (fV 0) (fC (.ty "tuple"))))) (fB (f2 TJ (f1 aR (fV 0)) (fC (.int 2)))))
   (cD (fC (.bl false)))
   aS)
   (cU (BE (fV 0) (IV 2 (bI (gN 1) (bI (gN 2) W7))))
   (cU (XA (UF (fB (dC 3 [] b8 (aE (fV 1) (aE (fC (.int 0)) (aE (fC UX) cN))))))
   (cD (fC (.bl false)))
   aS)
   (cU (XA (JD (UF (fB (f2 T5 (fV 2) (fC (.ty "tuple"))))) (fB (f2 oGt (f1 aR (fV 2)) (fC UW))))
   (cD (fC (.bl false)))
   aS)
   (cU (aV 3 (xO (ZL cP)))
   (cU (RV (ZZ (fV 2)) (gN 4)
   YU)
   (cD (fC (.bl true)))))))))
def ZA:bN:=aI 5 [] TM
def V6:VS:=
   (cD (dC 3 [] b8 (aE (fV 0) (aE (fC X8) (aE (fC XU) cN)))))
def ZP:bN:=aI 1 [] V6
def V9:VS:=
   (cU (aV 3 (xV (f2 cZ (f2 cZ (fV 0) (fV 1)) (fC (.int 0)))))
   (cU (XA (JD (fB (f2 oGe (fV 1) (fV 2))) (JD (fB (f2 YC (fV 3) (fC (.str "number")))) (fB (f2 TJ (f2 cZ (f2 cZ (fV 0) (fV 2)) (fC (.int 0))) (fV 3)))))
   (cD (fC (.bl false)))
   aS)
   (cU (aV 4 (xV (dC 1 [] Z9 (aE (f2 cZ (fV 0) (fV 1)) cN))))
   (cD (fOr (f2 J5 (fV 4) (fC .non)) (f2 YC (dC 1 [] Z9 (aE (f2 cZ (fV 0) (fV 2)) cN)) (f2 a6 (fV 4) (fC (.int 1)))))))))
def Z7:bN:=aI 5 [] V9
def RL:VS:=
   (cU (aV 3 (xV (f2 cZ (fV 0) (fC (.int 1)))))
   (cU (XA (JD (UF (fB (f2 T5 (fV 2) (fC (.ty "tuple"))))) (fB (f2 TJ (f1 aR (fV 2)) (fV 1))))
   (cD (fC (.bl false)))
   aS)
   (cU (XA (UF (fB (f1 HL (bW [3] 1 (ZZ (fV 2)) (gN 1) ZX (dC 3 [] b8 (aE (fV 1) (aE (fC (.int 0)) (aE (f2 PF (f1 aR (fV 0)) (fC (.int 1))) cN))))))))
   (cD (fC (.bl false)))
   aS)
   (cU (XA (UF (fB (f1 HL (bW [3] 2 (DQ (fV 2) (E9 (fV 2) (FX (fC (.int 1))) CU)) (IV 2 (bI (gN 1) (bI (gN 2) W7))) ZX (dC 3 [] Z7 (aE (fV 0) (aE (fV 1) (aE (fV 2) cN))))))))
   (cD (fC (.bl false)))
   aS)
   (cD (fNot (f1 oAny (W0 [2,3] 2 (ZZ (fV 2)) (gN 2) ZX (ZZ (dC 1 [] Z8 (aE (f2 cZ (fV 1) (fV 2)) cN))) (gN 3) ZX (f2 (bE false) (fV 3) (fV 0))))))))))
def Z0:bN:=aI 4 [] RL
def W3:VS:=
   (cD (W0 [] 2 (ZZ (fV 0)) (gN 0) ZX (ZZ (fV 0)) (gN 1) ZX (fV 1)))
def Z1:bN:=aI 1 [] W3
def U4:VS:=
   (cU (XA (JD (UF (fB (f2 T5 (fV 2) (fC (.ty "tuple"))))) (UF (fB (f1 HL (bW [0,1] 1 (ZZ (fV 2)) (gN 2) ZX (dC 3 [] Z0 (aE (fV 0) (aE (fV 1) (aE (fV 2) cN)))))))))
   (cD (fC (.bl false)))
   aS)
   (cU (aV 3 (xV (dC 1 [] Z1 (aE (fV 2) cN))))
   (cD (QR (f2 YC (f1 WE (fV 3)) (f1 aR (fV 3))) (f2 YC (f1 NA (fV 2)) (f1 WF (fV 2)))))))
def Y6:bN:=aI 4 [] U4
def YB:VS:=
   (cU (XA (UF (fB (dC 1 [] ZA (aE (fV 0) cN))))
   (fun _=>none)
   aS)
   (XA (UF (fB (dC 1 [] ZP (aE (fV 1) cN))))
   (fun _=>none)
   aS))
def bV:bN:=aI 2 [] YB
def RM:VS:=
   (cU (NI (dC 2 [] bV (aE (fV 0) (aE (fV 1) cN))))
   (cD (dC 3 [] Y6 (aE (fV 0) (aE (fV 1) (aE (fV 2) cN))))))
def Y7:bN:=aI 3 [] RM
def U3:VS:=
   (cU (NI (dC 2 [] bV (aE (fV 0) (aE (fV 1) cN))))
   (XA (fB (f2 oGt (f1 aR (f2 cZ (fV 0) (fC (.int 1)))) (fC YV)))
   (fun _=>none)
   aS))
def Y5:bN:=aI 2 [] U3
def ZB:VS:=
   (cU (aV 5 (xV (W0 [2] 2 (ZZ (fV 3)) (gN 1) ZX (CP (f2 a6 (f2 cZ (fV 1) (f1 PD (fC (.int 1)))) (fC (.int 1))) (fV 0)) (gN 2) ZX (f2 a6 (fV 1) (aN (dL (fV 2) cP))))))
   (aV 3 (xV (bW [0,4] 1 (ZZ (fV 5)) (gN 2) (fB (dC 3 [] Z0 (aE (fV 0) (aE (fV 1) (aE (fV 2) cN))))) (fV 2)))))
def U2:VS:=
   (cU (aV 2 (xV (f1 aR (f2 cZ (fV 0) (fC (.int 1))))))
   (cU (aV 3 (xV (bW [] 1 (HD (fV 2)) (gN 0) ZX (aN (dL (fV 0) cP)))))
   (cU (RV (CP (fC (.int 2)) (f2 a6 (fV 1) (fC (.int 1)))) (gN 4)
   ZB)
   (cD (fV 3)))))
def Y4:bN:=aI 6 [] U2
def LV:VS:=
   (cU (NI (dC 2 [] Y5 (aE (fV 0) (aE (fV 1) cN))))
   (cD (dC 2 [] Y4 (aE (fV 0) (aE (fV 1) cN)))))
def V0:bN:=aI 2 [] LV
def VW:VS:=
   (aV 2 (xV (f2 FT (fV 2) (fC (.int 1000003)))))
def W1:VS:=
   (cU (XA (fB (f2 oLt (fV 1) (f1 aR (fV 0))))
   (cD (f2 cZ (fV 0) (fV 1)))
   aS)
   (cU (XA (fB (f2 YC (fV 0) (ZL cP)))
   (cD (fC (.int 0)))
   aS)
   (cU (aV 2 (xV (f2 cZ (fV 0) (f2 L1 (fV 1) (f1 aR (fV 0))))))
   (cU (RV (HD (f2 oMin (f2 FT (fV 1) (f1 aR (fV 0))) (fC (.int 60)))) (gN 3)
   VW)
   (cD (f2 a6 (f2 a6 (f2 PH (f2 cZ (fV 0) (f2 L1 (fV 1) (f1 aR (fV 0)))) (fC (.int 31))) (fV 1)) (f2 PH (fV 2) (fC (.int 101)))))))))
def aX:bN:=aI 4 [] W1
def U5:VS:=
   (cU (aV 3 (xV (f2 L1 (f2 a6 (f2 a6 (f2 PH (dC 2 [] aX (aE (fV 0) (aE (fV 1) cN))) (fC (.int 1103515245))) (f2 PH (fC (.int 7919)) (fV 1))) (fC (.int 12345))) (fC (.int 2147483647)))))
   (cD (f2 L1 (f2 L1 (f2 L1 (f2 oPow (fV 3) (fC (.int 5))) (fC (.int 2147483647))) (fC (.int 999983))) (fV 2))))
def Y8:bN:=aI 4 [] U5
def TR:VS:=
   (cU (VE 1 UG (dL (fC (.int 0)) cP))
   (cD (dC 3 [] Y8 (aE (fV 0) (aE (f1 aR (fO 1)) (aE (fV 2) cN))))))
def cT:bN:=aI 3 [1] TR
def TW:VS:=
   (cD (f2 cZ (fV 2) (dC 3 [1] cT (aE (fV 0) (aO 1 (aE (f1 aR (fV 2)) cN))))))
def cC:bN:=aI 3 [1] TW
def U6:VS:=
   (cU (KL 2 (fV 3) (f2 L1 (f2 a6 (LS 2 (fV 3) (dC 3 [1] cT (aE (fV 0) (aO 1 (aE (fV 4) cN))))) (dC 3 [1] cC (aE (fV 0) (aO 1 (aE (ZL (dL (fC (.int 1)) (dL (fC (.int 1)) (dL (fC (.int 1)) (dL (fC (.int 0)) (dL (fC (.int 3)) cP)))))) cN))))) (fV 4)))
   (cD (f2 cZ (fO 2) (fV 3))))
def bC:bN:=aI 5 [1,2] U6
def RO:VS:=
   (cU (aV 5 (xV (dC 3 [1] cT (aE (fV 0) (aO 1 (aE (fC (.int 13)) cN))))))
   (cU (XA (JD (fB (f2 YC (fV 2) (ZL cP))) (fB (f2 YC (fV 5) (fC (.int 0)))))
   (cU (XA (fB (f2 YC (dC 3 [1] cT (aE (fV 0) (aO 1 (aE (fC (.int 2)) cN)))) (fC (.int 0))))
   (cD (aN (dL (fC (.str "number")) (dL (dC 3 [1] cC (aE (fV 0) (aO 1 (aE (ZL (dL (fC (.int 0)) (dL (fC (.int 1)) (dL (fC (.int 2)) (dL (fC (.int 5)) (dL (fC (.int 999)) (dL (dC 3 [1] cT (aE (fV 0) (aO 1 (aE (fC (.int 1000)) cN)))) cP))))))) cN)))) cP))))
   aS)
   (cD (aN (dL (fC (.str "load")) (dL (dC 5 [1,2] bC (aE (fV 0) (aO 1 (aO 3 (aE (fC (.str "load")) (aE (fV 4) cN)))))) cP)))))
   aS)
   (cU (BE (bW [0,1,2] 1 (HD (fC (.int 3))) (gN 3) ZX (f2 cZ (fV 2) (f2 oMax (fC (.int 0)) (f2 PF (f2 PF (f1 aR (fV 2)) (fC (.int 1))) (dC 3 [1] cT (aE (fV 0) (aO 1 (aE (fC (.int 6)) cN)))))))) (IV 3 (bI (gN 6) (bI (gN 7) (bI (gN 8) W7)))))
   (cU (XA (fB (f2 (bE false) (fV 5) (aN (dL (fC (.int 1)) (dL (fC (.int 2)) cP)))))
   (cD (aN (dL (fC (.str "load")) (dL (dC 5 [1,2] bC (aE (fV 0) (aO 1 (aO 3 (aE (fC (.str "load")) (aE (fV 4) cN)))))) cP))))
   aS)
   (cU (XA (fB (f2 YC (fV 5) (fC (.int 3))))
   (cD (aN (dL (fC (.str "take")) (dL (dC 5 [1,2] bC (aE (fV 0) (aO 1 (aO 3 (aE (fC (.str "take")) (aE (fV 4) cN)))))) (dL (fV 8) (dL (fV 6) cP))))))
   aS)
   (cU (XA (fB (f2 (bE false) (fV 5) (aN (dL (fC (.int 4)) (dL (fC (.int 5)) cP)))))
   (cD (aN (dL (fC (.str "store")) (dL (dC 5 [1,2] bC (aE (fV 0) (aO 1 (aO 3 (aE (fC (.str "store")) (aE (fV 4) cN)))))) (dL (fV 6) cP)))))
   aS)
   (cU (XA (fB (f2 YC (fV 5) (fC (.int 6))))
   (cD (aN (dL (fC (.str "put")) (dL (dC 5 [1,2] bC (aE (fV 0) (aO 1 (aO 3 (aE (fC (.str "put")) (aE (fV 4) cN)))))) (dL (fV 6) (dL (fV 8) cP))))))
   aS)
   (cU (XA (fB (f2 YC (fV 5) (fC (.int 7))))
   (cD (aN (dL (fC (.str "pick")) (dL (fV 8) (dL (fV 6) (dL (fV 7) cP))))))
   aS)
   (cD (aN (dL (f2 cZ (ZL (dL (fC (.str "over")) (dL (fC (.str "plus")) (dL (fC (.str "minus")) (dL (fC (.str "times")) (dL (fC (.str "least")) (dL (fC (.str "most")) (dL (fC (.str "less")) cP)))))))) (dC 3 [1] cT (aE (fV 0) (aO 1 (aE (fC (.int 7)) cN))))) (dL (fV 6) (dL (fV 7) cP)))))))))))))
def XI:bN:=aI 9 [1,3] RO
def ZI:VS:=
   (cU (aV 10 (xV (f2 a6 (f2 HM (fV 3) (fV 9)) (dC 3 [1] cC (aE (fV 0) (aO 1 (aE (ZL (dL (fC (.int 1)) (dL (fC (.int 1)) (dL (fC (.int 1)) (dL (fC (.int 1)) (dL (f1 PD (fC (.int 1))) (dL (fC (.int 0)) (dL (fC (.int 2)) cP)))))))) cN)))))))
   (VE 8 UG (dL (fIf (QQ (fB (f3 oLe oLt (fC (.int 0)) (fV 10) (f1 aR (fV 3)))) (fB (f2 TJ (f2 cZ (fV 3) (fV 10)) (f2 PF (f1 aR (fV 2)) (fC (.int 1)))))) (f2 cZ (fV 3) (fV 10)) (fV 9)) cP)))
def V7:VS:=
   (cU (aV 6 (xV (f2 cZ (fV 2) (f1 PD (fC (.int 1))))))
   (cU (aV 7 (xV (fIf (fB (f2 (bE false) (f2 cZ (fV 6) (fC (.int 0))) (aN (dL (fC (.str "load")) (dL (fC (.str "take")) (dL (fC (.str "store")) (dL (fC (.str "put")) cP))))))) (fC (.int 2)) (fC (.int 1)))))
   (cU (aV 8 (xO (ZL cP)))
   (cU (RV (ZZ (E9 (fV 6) (FX (fV 7)) CU)) (gN 9)
   ZI)
   (cU (XA (fB (f2 YC (fV 7) (fC (.int 1))))
   (cD (f2 a6 (E9 (fV 6) CU (FX (fC (.int 1)))) (f1 XF (fO 8))))
   aS)
   (cU (KL 4 (f2 cZ (fV 6) (fC (.int 0))) (f2 L1 (f2 a6 (f2 cZ (fV 6) (fC (.int 1))) (fC (.int 1))) (fV 5)))
   (cD (f2 a6 (aN (dL (f2 cZ (fV 6) (fC (.int 0))) (dL (f2 cZ (fO 4) (f2 cZ (fV 6) (fC (.int 0)))) cP))) (f1 XF (fO 8))))))))))
def Z6:bN:=aI 11 [1,4] V7
def ZJ:VS:=
   (XA (QQ (fB (f2 oLt (f1 aR (fO 4)) (fV 2))) (fB (f2 TJ (f2 cZ (f2 cZ (fO 4) (f1 PD (fC (.int 1)))) (fC (.int 0))) (fC (.str "number")))))
   (cU (VE 4 UG (dL (dC 6 [1,4] Z6 (aE (fV 0) (aO 1 (aO 4 (aO 5 (aO 6 (aE (fV 3) cN))))))) cP))
   (XA (fB (f2 (bE true) (f2 cZ (f2 cZ (fO 4) (f1 PD (fC (.int 1)))) (fC (.int 0))) (aN (dL (fC (.str "store")) (dL (fC (.str "put")) cP)))))
   (VE 5 UG (dL (f2 PF (f1 aR (fO 4)) (fC (.int 1))) cP))
   aS))
   aS)
def XT:VS:=
   (cU (VE 4 UG (dL (dC 5 [1,3] XI (aE (fV 0) (aO 1 (aO 5 (aO 6 (aE (fV 3) cN)))))) cP))
   (cU (XA (fB (f2 (bE true) (f2 cZ (f2 cZ (fO 4) (f1 PD (fC (.int 1)))) (fC (.int 0))) (aN (dL (fC (.str "store")) (dL (fC (.str "put")) cP)))))
   (VE 5 UG (dL (f2 PF (f1 aR (fO 4)) (fC (.int 1))) cP))
   aS)
   (RV (HD (dC 3 [1] cC (aE (fV 0) (aO 1 (aE (ZL (dL (fC (.int 0)) (dL (fC (.int 1)) (dL (fC (.int 1)) (dL (fC (.int 2)) (dL (fC (.int 3)) cP)))))) cN))))) (gN 7)
   ZJ)))
def TY:VS:=
   (cU (PX 4 5 6 (xO (ZL cP)) (xO (ZL cP)) (xO (fC (.dct [] []))))
   (cU (T8 (fB (f2 oLt (f1 aR (fO 4)) (fV 2)))
   XT)
   (cD (f1 XF (fO 4)))))
def YE:bN:=aI 8 [1] TY
def Q2:VS:=
   (cU (XA (fB (f2 YC (f2 cZ (fV 0) (fC (.int 0))) (fC (.str "number"))))
   (cD (ZL cP))
   aS)
   (cD (fIf (fB (f2 (bE false) (f2 cZ (fV 0) (fC (.int 0))) (aN (dL (fC (.str "load")) (dL (fC (.str "take")) (dL (fC (.str "store")) (dL (fC (.str "put")) cP))))))) (f1 NA (E9 (fV 0) (FX (fC (.int 2))) CU)) (f1 NA (E9 (fV 0) (FX (fC (.int 1))) CU)))))
def cB:bN:=aI 1 [] Q2
def RN:VS:=
   (cU (aV 2 (xV (f2 cZ (f2 cZ (fV 0) (fC (.int 1))) (fV 1))))
   (cU (XA (fB (f2 (bE false) (f2 cZ (fV 2) (fC (.int 0))) (aN (dL (fC (.str "load")) (dL (fC (.str "take")) (dL (fC (.str "store")) (dL (fC (.str "put")) cP)))))))
   (cD (f2 oGe (f2 cZ (fV 2) (fC (.int 1))) (f2 cZ (fV 0) (fC (.int 0)))))
   aS)
   (cD (QR (f2 YC (f2 cZ (fV 2) (fC (.int 0))) (fC (.str "over"))) (f2 (bE true) (E9 (f2 cZ (f2 cZ (fV 0) (fC (.int 1))) (f2 cZ (fV 2) (fC (.int 2)))) CU (FX (fC (.int 2)))) (bW [] 1 (CP (fC (.int 1)) (fC (.int 1000))) (gN 0) ZX (aN (dL (fC (.str "number")) (dL (fV 0) cP)))))))))
def ZG:bN:=aI 3 [] RN
def XR:VS:=
   (cU (aV 7 (xV (bW [] 1 (ZZ (aN (dL (fV 6) (dL (fV 4) cP)))) (gN 0) (fB (f2 (bE false) (f2 cZ (fV 0) (fC (.int 0))) (aN (dL (fC (.str "store")) (dL (fC (.str "put")) cP))))) (fV 0))))
   (cU (aV 8 (xO (ZL (dL (f2 (bE false) (fV 5) (dC 1 [] cB (aE (fV 4) cN))) (dL (QR (dC 2 [] ZG (aE (fV 0) (aE (fV 5) cN))) (dC 2 [] ZG (aE (fV 0) (aE (fV 3) cN)))) cP)))))
   (cU (VE 8 UG (dL (QR (f2 (bE false) (f2 cZ (fV 6) (fC (.int 0))) (fV 2)) (QR (f2 (bE false) (f2 cZ (fV 4) (fC (.int 0))) (fV 2)) (QR (f2 YC (f2 cZ (fV 6) (fC (.int 1))) (f2 cZ (fV 4) (fC (.int 1)))) (f2 TJ (fV 7) (ZL cP))))) cP))
   (cU (VE 8 UG (dL (QR (dC 2 [] ZG (aE (fV 0) (aE (fV 5) cN))) (f2 (bE false) (f2 cZ (fV 4) (fC (.int 0))) (aN (dL (fC (.str "store")) (dL (fC (.str "put")) cP))))) cP))
   (cU (VE 8 UG (dL (QR (dC 2 [] ZG (aE (fV 0) (aE (fV 3) cN))) (f2 (bE false) (f2 cZ (fV 6) (fC (.int 0))) (aN (dL (fC (.str "store")) (dL (fC (.str "put")) cP))))) cP))
   (XA (fB (f2 (bE false) (fC (.bl true)) (fO 8)))
   (VE 1 UG (dL (aN (dL (fV 5) (dL (fV 3) cP))) cP))
   aS))))))
def XS:VS:=
   (RV (OR (E9 (f2 cZ (fV 0) (fC (.int 1))) CU (FX (fV 3)))) (IV 2 (bI (gN 5) (bI (gN 6) W7)))
   XR)
def TU:VS:=
   (cU (Q8 1 2 (xO (ZL cP)) (xV (aN (dL (fC (.str "load")) (dL (fC (.str "take")) (dL (fC (.str "store")) (dL (fC (.str "put")) cP)))))))
   (cU (RV (OR (f2 cZ (fV 0) (fC (.int 1)))) (IV 2 (bI (gN 3) (bI (gN 4) W7)))
   XS)
   (cD (f1 WF (fO 1)))))
def YD:bN:=aI 9 [] TU
def aL:VS:=
   (cU (aV 6 (xV (bW [3,4] 1 (ZZ (fO 4)) (gN 2) (fB (f2 YC (bW [1,2] 2 (ZZ (fV 0)) (IV 2 (bI (gN 2) (bI (gN 3) W7))) (QQ (fB (f2 YC (fV 3) (fV 1))) (fB (f2 (bE false) (fV 2) (fO 0)))) (fC (.int 1))) (ZL cP))) (fV 2))))
   (cU (VE 5 UG (dL (dC 3 [1] cC (aE (fV 0) (aO 1 (aE (fV 6) cN)))) cP))
   (VE 4 mRem (dL (f2 cZ (fO 5) (f1 PD (fC (.int 1)))) cP))))
def YY:VS:=
   (cU (PX 3 4 5 (xV (dC 1 [] YD (aE (fV 2) cN))) (xO (UN (f1 aR (f2 cZ (fV 2) (fC (.int 1)))))) (xO (ZL cP)))
   (cU (T8 (fB (f2 TJ (fO 4) (ZL cP)))
   aL)
   (cD (fO 5))))
def bA:bN:=aI 7 [1] YY
def bF:VS:=
   (cU (XA (fB (f2 YC (f2 cZ (fV 0) (fC (.int 0))) (fC (.str "number"))))
   (cD (fV 0))
   aS)
   (cU (aV 2 (xV (fIf (fB (f2 (bE false) (f2 cZ (fV 0) (fC (.int 0))) (aN (dL (fC (.str "load")) (dL (fC (.str "take")) (dL (fC (.str "store")) (dL (fC (.str "put")) cP))))))) (fC (.int 2)) (fC (.int 1)))))
   (cD (f2 a6 (E9 (fV 0) CU (FX (fV 2))) (f1 XF (bW [1] 1 (ZZ (E9 (fV 0) (FX (fV 2)) CU)) (gN 1) ZX (f2 cZ (fV 0) (fV 1))))))))
def cS:bN:=aI 3 [] bF
def W6:VS:=
   (cU (aV 3 (xV (dC 3 [1] cC (aE (fV 0) (aO 1 (aE (ZL (dL (fC (.int 3)) (dL (fC (.int 6)) (dL (fC (.int 9)) (dL (fC (.int 64)) cP))))) cN))))))
   (cU (aV 4 (xV (dC 3 [1] cC (aE (fV 0) (aO 1 (aE (ZL (dL (fC (.int 0)) (dL (fV 3) (dL (fV 3) (dL (dC 3 [1] cT (aE (fV 0) (aO 1 (aE (f2 a6 (fV 3) (fC (.int 1))) cN)))) cP))))) cN))))))
   (cU (aV 5 (xV (aN (dL (fV 4) (dL (dC 4 [1] YE (aE (fV 0) (aO 1 (aE (dC 3 [1] cT (aE (fV 0) (aO 1 (aE (f2 a6 (fV 2) (fC (.int 1))) cN)))) (aE (fV 3) cN))))) cP)))))
   (cU (XA (fB (f2 oGt (dC 3 [1] cT (aE (fV 0) (aO 1 (aE (fC (.int 3)) cN)))) (fC (.int 0))))
   (cD (fV 5))
   aS)
   (cU (aV 6 (xV (dC 3 [1] bA (aE (fV 0) (aO 1 (aE (fV 5) cN))))))
   (cU (aV 7 (xV (f1 FS (bW [] 2 (OR (fV 6)) (IV 2 (bI (gN 0) (bI (gN 1) W7))) ZX (aN (dL (fV 1) (dL (fV 0) cP)))))))
   (cD (aN (dL (fV 4) (dL (f1 XF (bW [5,7] 1 (ZZ (fV 6)) (gN 2) ZX (dC 2 [] cS (aE (f2 cZ (f2 cZ (fV 0) (fC (.int 1))) (fV 2)) (aE (fV 1) cN))))) cP))))))))))
def aC:bN:=aI 8 [1] W6
def W2:VS:=
   (cU (aV 3 (xV (bW [0] 1 (ZZ (fV 2)) (gN 1) ZX (f2 cZ (f2 cZ (fV 0) (fC (.int 1))) (fV 1)))))
   (cU (XA (JD (fB (f2 TJ (f1 aR (fV 2)) (fV 1))) (JD (fB (f2 TJ (f1 WE (bW [] 1 (ZZ (fV 3)) (gN 0) ZX (f2 cZ (fV 0) (fC (.int 0))))) (fC (.int 1)))) (fB (f2 YC (f2 cZ (f2 cZ (fV 3) (fC (.int 0))) (fC (.int 0))) (fC (.str "number"))))))
   (cD (fC (.bl false)))
   aS)
   (cU (XA (fB (f2 (bE false) (f2 cZ (f2 cZ (fV 3) (fC (.int 0))) (fC (.int 0))) (aN (dL (fC (.str "load")) (dL (fC (.str "take")) (dL (fC (.str "store")) (dL (fC (.str "put")) cP)))))))
   (XA (fB (f2 TJ (bW [] 1 (ZZ (fV 3)) (gN 0) ZX (f2 cZ (fV 0) (fC (.int 1)))) (bW [3] 1 (HD (fV 1)) (gN 1) ZX (f2 a6 (f2 cZ (f2 cZ (fV 0) (fC (.int 0))) (fC (.int 1))) (fV 1)))))
   (cD (fC (.bl false)))
   aS)
   aS)
   (cD (f2 YC (bW [2] 1 (ZZ (fV 3)) (gN 1) (fB (f2 TJ (bW [0] 1 (ZZ (dC 1 [] cB (aE (fV 1) cN))) (gN 1) (fB (f2 (bE false) (fV 1) (fV 0))) (fV 1)) (ZL cP))) (fV 1)) (ZL cP))))))
def aM:bN:=aI 4 [] W2
def SJ:VS:=
   (cU (aV 6 (xV (f1 XF (bW [5] 1 (HD (f1 aR (f2 cZ (fV 2) (fC (.int 1))))) (gN 1) (fB (f2 YC (f2 M9 (f2 D4 (fV 0) (fV 1)) (fC (.int 1))) (fC (.int 1)))) (fV 1)))))
   (XA (QQ (fB (f2 YC (f1 aR (fV 6)) (fV 3))) (fB (dC 3 [] aM (aE (fV 2) (aE (fV 3) (aE (fV 6) cN))))))
   (VE 4 UG (dL (fV 6) cP))
   aS))
def zAW:VS:=
   (cU (aV 1 (xO (ZL cP)))
   (cU (Q8 2 3 (xV (dC 3 [1] aC (aE (fV 0) (aO 1 (aE (fC (.int 8)) cN))))) (xV (f2 a6 (fC (.int 2)) (dC 3 [1] cT (aE (fV 0) (aO 1 (aE (fC (.int 3)) cN)))))))
   (cU (aV 4 (xO (ZL cP)))
   (cU (RV (HD (f2 oShl (fC (.int 1)) (f1 aR (f2 cZ (fV 2) (fC (.int 1)))))) (gN 5)
   SJ)
   (cU (XA (fB (f2 TJ (dC 2 [] V0 (aE (fV 2) (aE (fV 3) cN))) (f1 WF (fO 4))))
   (cD (fC (.bl false)))
   aS)
   (cD (f2 YC (bW [2,3] 1 (ZZ (fO 4)) (gN 2) (fB (f2 NC (dC 3 [] Y7 (aE (fV 0) (aE (fV 1) (aE (aN (dL (fV 2) cP)) cN)))) (fC (.bl true)))) (fV 2)) (ZL cP))))))))
def ML:bN:=aI 7 [] zAW
end L2
namespace RR
open PySem L2
structure Txt(K:As)(mg:Str->Option Value):Prop where
 fnm: ∀x a,Ol K mainGlobals x=some (some (.ref a))->mg x=some (.ref a)
 n_len:mg "len"=none
 n_range:mg "range"=none
 n_min:mg "min"=none
 n_max:mg "max"=none
 U9:mg "list"=none
 n_tuple:mg "tuple"=none
 n_sorted:mg "sorted"=none
 n_isinstance:mg "isinstance"=none
 n_bool:mg "bool"=none
 n_int:mg "int"=none
 n_str:mg "str"=none
 n_enumerate:mg "enumerate"=none
 n_zip:mg "zip"=none
 n_all:mg "all"=none
 n_any:mg "any"=none
 n_dict:mg "dict"=none
 n_set:mg "set"=none
 v_DEEDS: ∃u v,mg "DEEDS"=some u/\cL v u/\ ∀N H M,b6 K N H M v EY
 v_DEED_PARTS: ∃u v,mg "DEED_PARTS"=some u/\cL v u/\ ∀N H M,b6 K N H M v SK
 v_LEAST_LANES: ∃u v,mg "LEAST_LANES"=some u/\cL v u/\ ∀N H M,b6 K N H M v X8
 v_MOST_LANES: ∃u v,mg "MOST_LANES"=some u/\cL v u/\ ∀N H M,b6 K N H M v XU
 v_MOST_PLACE: ∃u v,mg "MOST_PLACE"=some u/\cL v u/\ ∀N H M,b6 K N H M v V2
 v_MOST_ROWS: ∃u v,mg "MOST_ROWS"=some u/\cL v u/\ ∀N H M,b6 K N H M v UW
 v_MOST_SURE: ∃u v,mg "MOST_SURE"=some u/\cL v u/\ ∀N H M,b6 K N H M v UX
 v_MOST_TRIED_ROWS: ∃u v,mg "MOST_TRIED_ROWS"=some u/\cL v u/\ ∀N H M,b6 K N H M v YV
 v_MOST_WORD: ∃u v,mg "MOST_WORD"=some u/\cL v u/\ ∀N H M,b6 K N H M v UY
 v_OTHER_PARTS: ∃u v,mg "OTHER_PARTS"=some u/\cL v u/\ ∀N H M,b6 K N H M v UC
 v_READERS: ∃u v,mg "READERS"=some u/\cL v u/\ ∀N H M,b6 K N H M v UJ
 v_WRITERS: ∃u v,mg "WRITERS"=some u/\cL v u/\ ∀N H M,b6 K N H M v Y9
section
variable{P:Bq}{w:World}{K:As}{mg:Str->Option Value}{base:Heap}{f:Addr}{fd:Gd}
noncomputable abbrev Nx0:List Str:=["thing","low","high"]
abbrev Qx0:List Str:=["thing","low","high"]
theorem zHT:cW Nx0 Qx0 (dF (top 8)):=ZS
theorem zIV(F:W9 K "is_whole" "is_whole" (top 8) f fd) (T:Txt K mg):
  aW P w K mg base CX0 1 f fd Qx0 (spV K [] 3 b8):=
 VA P w K mg base Nx0 Qx0 0 TQ [] F zHT fun _ _ _ _ _ _ hr hu hu1=>by
  refine(dM ?_ (dI ?_))
  ·exact(bY (UA (WX (ZU (K1 T.n_isinstance (vv 0) (vty T.n_bool zD4))) (XH (YN (ZU (K1 T.n_isinstance (vv 0) (vty T.n_int zH3)))))))
   (dI (c9 YR))
   cX)
  ·exact(c9 (B5 AB AB s_le s_le (vv 1) (vv 0) (vv 2)))
abbrev Nx1:List Str:=["deed"]
abbrev Qx1:List Str:=["deed"]
theorem zHS:cW Nx1 Qx1 (dF (top 17)):=ZS
theorem zIU(F:W9 K "parts_of" "parts_of" (top 17) f fd) (T:Txt K mg):
  aW P w K mg base CX0 1 f fd Qx1 (spV K [] 1 bH):=
 VA P w K mg base Nx1 Qx1 0 OP [] F zHS fun _ _ _ _ _ _ hr hu hu1=>by
  refine(dM ?_ (dI ?_))
  ·exact (bY (cH (WR (K := K) rfl hu) (ZW (neg := false)) (vv 0) (aK (by rfl) T.v_DEEDS) (by with_unfolding_all rfl))
   (dI (c9 (aK (by rfl) T.v_DEED_PARTS)))
   cX)
  ·exact(c9 (zBI rfl hu1 (aK (by rfl) T.v_OTHER_PARTS) (vv 0) ⟨rfl,rfl,rfl,rfl⟩))
abbrev Nx2:List Str:=["row"]
abbrev Qx2:List Str:=["row"]
theorem zHR:cW Nx2 Qx2 (dF (top 18)):=ZS
theorem zIT(F:W9 K "makes_word" "makes_word" (top 18) f fd) (T:Txt K mg):
  aW P w K mg base CX0 1 f fd Qx2 (spV K [] 1 ZH):=
 VA P w K mg base Nx2 Qx2 0 V8 [] F zHR fun _ _ _ _ _ _ hr hu hu1=>by exact(dI (c9 (X4 (QG (K:=K) rfl hu) (ZW (neg:=true)) (Z5 hu1 (vv 0) dN) (aK (by rfl) T.v_WRITERS) (by with_unfolding_all rfl))))
abbrev Nx3:List Str:=["row"]
abbrev Qx3:List Str:=["row"]
theorem zHQ:cW Nx3 Qx3 (dF (top 19)):=ZS
theorem zIS(F:W9 K "place_of" "place_of" (top 19) f fd) (T:Txt K mg):
  aW P w K mg base CX0 1 f fd Qx3 (spV K [] 1 Z9):=
 VA P w K mg base Nx3 Qx3 0 WA [] F zHQ fun _ _ _ _ _ _ hr hu hu1=>by exact(dI (c9 (NU (UA (WX (cH (WR (K:=K) rfl hu) (ZW (neg:=false)) (Z5 hu1 (vv 0) dN) (aK (by rfl) T.v_READERS) (by with_unfolding_all rfl)) (XH (cH (WR (K:=K) rfl hu) (ZW (neg:=false)) (Z5 hu1 (vv 0) dN) (aK (by rfl) T.v_WRITERS) (by with_unfolding_all rfl))))) (Z5 hu1 (vv 0) dN) MF)))
abbrev Nx4:List Str:=["row","deed","rest"]
abbrev Qx4:List Str:=["row"]
theorem zDA:cW Nx4 Qx4 (dF (top 20)):=ZS
theorem zIR(F:W9 K "names_of" "names_of" (top 20) f fd) (T:Txt K mg) (fo:cM P w K mg base "parts_of" 1 Qx1 [] bH f_x1):
  aW P w K mg base CX0 2 f fd Qx4 (spV K [] 1 Z8):=
 VA P w K mg base Nx4 Qx4 1 OO [] F zDA fun _ _ _ _ _ _ hr hu hu1=>by
  refine(dM ?_ (dI ?_))
  ·exact(GQ (i:=1) (j:=2) rfl rfl zDA.nd rfl rfl (by decide) (Md rfl) (Md rfl) (vv 0))
  ·exact(c9 (cQ (bQ ["part","given"] [] 2 (IS rfl (by rfl) T.n_zip (dG (cA fo hr (dH (vv 1) dE))) (vv 2)) (fun hn _ _ _ _=>⟨(WO (K:=K) rfl rfl (bU (c7 hn) (bU (c7 hn) XZ))),(WM (WW hu (vv 0) c8)),(vv 1)⟩))))
abbrev Nx5:List Str:=["thing","able"]
abbrev Qx5:List Str:=["thing","able"]
theorem zHP:cW Nx5 Qx5 (dF (top 21)):=ZS
theorem zIQ(F:W9 K "may_name" "may_name" (top 21) f fd) (T:Txt K mg) (bh:cM P w K mg base "is_whole" 1 Qx0 [] b8 f_x0):
  aW P w K mg base CX0 2 f fd Qx5 (spV K [] 2 YF):=
 VA P w K mg base Nx5 Qx5 1 TZ [] F zHP fun _ _ _ _ _ _ hr hu hu1=>by exact(dI (c9 (WN (cA bh hr (dH (vv 0) (dH dN (dH (dG (ZE T6 PY (Y2 T.n_len (vv 1)) dN)) dE)))) (VM (Z5 hu1 (vv 1) (vv 0))))))
abbrev Nx6:List Str:=["part","thing","able"]
abbrev Qx6:List Str:=["part","thing","able"]
theorem zHO:cW Nx6 Qx6 (dF (top 22)):=ZS
theorem zIP(F:W9 K "fits" "fits" (top 22) f fd) (T:Txt K mg) (bh:cM P w K mg base "is_whole" 1 Qx0 [] b8 f_x0) (jg:cM P w K mg base "may_name" 2 Qx5 [] YF f_x5):
  aW P w K mg base CX0 3 f fd Qx6 (spV K [] 3 WY):=
 VA P w K mg base Nx6 Qx6 2 OM [] F zHO fun _ _ _ _ _ _ hr hu hu1=>by
  refine(dM ?_ (dM ?_ (dI ?_)))
  ·exact(bY (WW hu (vv 0) c8)
   (dI (c9 (cA bh hr (dH (vv 1) (dH dN (dH (dG (aK (by rfl) T.v_MOST_WORD)) dE))))))
   cX)
  ·exact(bY (WW hu (vv 0) c8)
   (dI (c9 (cA bh hr (dH (vv 1) (dH dN (dH (dG (aK (by rfl) T.v_MOST_PLACE)) dE))))))
   cX)
  ·exact(c9 (cA jg hr (dH (vv 1) (dH (vv 2) dE))))
noncomputable abbrev Nx7:List Str:=["thing","able","deed","rest","parts"]
abbrev Qx7:List Str:=["thing","able"]
theorem BO:cW Nx7 Qx7 (dF (top 23)):=ZS
theorem zIO(F:W9 K "is_row" "is_row" (top 23) f fd) (T:Txt K mg) (fo:cM P w K mg base "parts_of" 1 Qx1 [] bH f_x1) (jf:cM P w K mg base "fits" 3 Qx6 [] WY f_x6):
  aW P w K mg base CX0 4 f fd Qx7 (spV K [] 2 WP):=
 VA P w K mg base Nx7 Qx7 3 ON [] F BO fun _ _ _ _ _ _ hr hu hu1=>by
  refine(dM ?_ (dM ?_ (dM ?_ (dM ?_ (dI ?_)))))
  ·exact(bY (UA (WX (YN (ZU (K1 T.n_isinstance (vv 0) (vty T.n_tuple ZQ)))) (XH (WW hu (Y2 T.n_len (vv 0)) dN))))
   (dI (c9 YR))
   cX)
  ·exact(GQ (i:=2) (j:=3) rfl rfl BO.nd rfl rfl (by decide) (Md rfl) (Md rfl) (vv 0))
  ·exact(bL BO.nd (aF (dG (NU (ZU (K1 T.n_isinstance (vv 2) (vty T.n_str zH0))) (cA fo hr (dH (vv 2) dE)) MF))))
  ·exact(bY (UA (WX (cH AA zDB (vv 4) MF (bD _)) (XH (cH (RQ (K:=K) rfl hu) RW (Y2 T.n_len (vv 4)) (Y2 T.n_len (vv 3)) (bD _)))))
   (dI (c9 YR))
   cX)
  ·exact(c9 (NS (kAll (K:=K) rfl rfl) GB (by rfl) T.n_all LI (cQ (bQ ["able","part","given"] [1] 2 (IS rfl (by rfl) T.n_zip (vv 4) (vv 3)) (fun hn _ _ _ _=>⟨(WO (K:=K) rfl rfl (bU (c7 hn) (bU (c7 hn) XZ))),aJ,(dG (cA jf hr (dH (vv 1) (dH (vv 2) (dH (vv 0) dE)))))⟩)))))
noncomputable abbrev Nx8:List Str:=["thing","sure","rows","able","row"]
abbrev Qx8:List Str:=["thing"]
theorem KN:cW Nx8 Qx8 (dF (top 24)):=ZS
theorem zIN(F:W9 K "is_block" "is_block" (top 24) f fd) (T:Txt K mg) (bh:cM P w K mg base "is_whole" 1 Qx0 [] b8 f_x0) (ji:cM P w K mg base "makes_word" 1 Qx2 [] ZH f_x2) (je:cM P w K mg base "is_row" 4 Qx7 [] WP f_x7):
  aW P w K mg base CX0 5 f fd Qx8 (spV K [] 1 ZA):=
 VA P w K mg base Nx8 Qx8 4 TM [] F KN fun _ _ _ _ _ _ hr hu hu1=>by
  refine(dM ?_ (dM ?_ (dM ?_ (dM ?_ (dM ?_ (dM ?_ (dI ?_)))))))
  ·exact(bY (UA (WX (YN (ZU (K1 T.n_isinstance (vv 0) (vty T.n_tuple ZQ)))) (XH (cH (RQ (K:=K) rfl hu) RW (Y2 T.n_len (vv 0)) dN (bD _)))))
   (dI (c9 YR))
   cX)
  ·exact(CD (vv 0) (WO (K:=K) rfl rfl (bU (c7 KN.nd) (bU (c7 KN.nd) XZ))))
  ·exact (bY (YN (ZU (cA bh hr (dH (vv 1) (dH dN (dH (dG (aK (by rfl) T.v_MOST_SURE)) dE))))))
   (dI (c9 YR))
   cX)
  ·exact (bY (UA (WX (YN (ZU (K1 T.n_isinstance (vv 2) (vty T.n_tuple ZQ)))) (XH (cH zA1 s_gt (Y2 T.n_len (vv 2)) (aK (by rfl) T.v_MOST_ROWS) (bD _)))))
   (dI (c9 YR))
   cX)
  ·exact(bL KN.nd (VO (a7 (cV dD))))
  ·exact(VN Ea rfl (aB rfl (vv 2)) (c7 KN.nd)
   (dM (bY (YN (ZU (cA je hr (dH (vv 4) (bT (pv 3) dE)))))
   (dI (c9 YR))
   cX)
   (dI (Y3 (K:=K) rfl Bm Bn bK YK (pv 3) (cV (dO (cA ji hr (dH (vv 4) dE)) dD))))))
  ·exact(c9 YR)
abbrev Nx9:List Str:=["thing"]
abbrev Qx9:List Str:=["thing"]
theorem zHN:cW Nx9 Qx9 (dF (top 28)):=ZS
theorem zIM(F:W9 K "is_lanes" "is_lanes" (top 28) f fd) (T:Txt K mg) (bh:cM P w K mg base "is_whole" 1 Qx0 [] b8 f_x0):
  aW P w K mg base CX0 2 f fd Qx9 (spV K [] 1 ZP):=
 VA P w K mg base Nx9 Qx9 1 V6 [] F zHN fun _ _ _ _ _ _ hr hu hu1=>by exact(dI (c9 (cA bh hr (dH (vv 0) (dH (dG (aK (by rfl) T.v_LEAST_LANES)) (dH (dG (aK (by rfl) T.v_MOST_LANES)) dE))))))
noncomputable abbrev Nx10:List Str:=["rows","first","second","deed","place"]
abbrev Qx10:List Str:=["rows","first","second"]
theorem ID:cW Nx10 Qx10 (dF (top 29)):=ZS
theorem zGB(F:W9 K "may_follow" "may_follow" (top 29) f fd) (T:Txt K mg) (ik:cM P w K mg base "place_of" 1 Qx3 [] Z9 f_x3):
  aW P w K mg base CX0 2 f fd Qx10 (spV K [] 3 Z7):=
 VA P w K mg base Nx10 Qx10 1 V9 [] F ID fun _ _ _ _ _ _ hr hu hu1=>by
  refine(dM ?_ (dM ?_ (dM ?_ (dI ?_))))
  ·exact(bL ID.nd (aF (dG (Z5 hu1 (Z5 hu1 (vv 0) (vv 1)) dN))))
  ·exact(bY (UA (WX (cH zDL s_ge (vv 1) (vv 2) (bD _)) (WX (WW hu (vv 3) c8) (XH (cH (RQ (K:=K) rfl hu) RW (Z5 hu1 (Z5 hu1 (vv 0) (vv 2)) dN) (vv 3) (bD _))))))
   (dI (c9 YR))
   cX)
  ·exact(bL ID.nd (aF (dG (cA ik hr (dH (dG (Z5 hu1 (vv 0) (vv 1))) dE)))))
  ·exact(c9 (zHC (X4 AA zDB (vv 4) MF (bD _)) (VM (veq hu (cA ik hr (dH (dG (Z5 hu1 (vv 0) (vv 2))) dE)) (aT (YQ (K:=K) rfl) ZY (vv 4) dN)))))
noncomputable abbrev Nx11:List Str:=["block","lanes","thing","rows"]
abbrev C1:List Str:=["block","lanes","thing"]
theorem BI:cW Nx11 C1 (dF (top 30)):=ZS
theorem zGA(F:W9 K "is_pack" "is_pack" (top 30) f fd) (T:Txt K mg) (bh:cM P w K mg base "is_whole" 1 Qx0 [] b8 f_x0) (jh:cM P w K mg base "names_of" 2 Qx4 [] Z8 f_x4) (i6:cM P w K mg base "may_follow" 2 Qx10 [] Z7 f_x10):
  aW P w K mg base CX0 3 f fd C1 (spV K [] 3 Z0):=
 VA P w K mg base Nx11 C1 2 RL [] F BI fun _ _ _ _ _ _ hr hu hu1=>by
  refine(dM ?_ (dM ?_ (dM ?_ (dM ?_ (dI ?_)))))
  ·exact(bL BI.nd (aF (dG (Z5 hu1 (vv 0) dN))))
  ·exact(bY (UA (WX (YN (ZU (K1 T.n_isinstance (vv 2) (vty T.n_tuple ZQ)))) (XH (cH (RQ (K:=K) rfl hu) RW (Y2 T.n_len (vv 2)) (vv 1) (bD _)))))
   (dI (c9 YR))
   cX)
  ·exact (bY (YN (ZU (NS (kAll (K := K) rfl rfl) GB (by rfl) T.n_all LI (cQ (bQ ["rows","row"] [3] 1 (aB rfl (vv 2)) (fun hn _ _ _ _ => ⟨(c7 hn),aJ,(dG (cA bh hr (dH (vv 1) (dH dN (dH (dG (ZE T6 PY (Y2 T.n_len (vv 0)) dN)) dE)))))⟩))))))
   (dI (c9 YR))
   cX)
  ·exact (bY (YN (ZU (NS (kAll (K := K) rfl rfl) GB (by rfl) T.n_all LI (cQ (bQ ["rows","first","second"] [3] 2 (IS rfl (by rfl) T.n_zip (vv 2) (dG (TC rfl (vv 2) (TF dN) TD))) (fun hn _ _ _ _ => ⟨(WO (K := K) rfl rfl (bU (c7 hn) (bU (c7 hn) XZ))),aJ,(dG (cA i6 hr (dH (vv 0) (dH (vv 1) (dH (vv 2) dE)))))⟩))))))
   (dI (c9 YR))
   cX)
  ·exact(c9 (zE1 (NS (kAny (K:=K) rfl rfl) zI2 (by rfl) T.n_any zH4 (cQ (K2 (N':=["thing","rows","row","name"]) (ix:=[2,3]) (nl:=2) rfl rfl (by rfl) rfl (by decide) (aB rfl (vv 2)) (fun cl s1 H1 fp=>⟨(c7 (show(["thing","rows","row","name"]:List Str).Nodup by decide+kernel)),aJ,(aB rfl (dG (cA jh hr (dH (dG (Z5 hu1 (vv 1) (vv 2))) dE)))),(c7 (show(["thing","rows","row","name"]:List Str).Nodup by decide+kernel)),aJ,(dG (X4 (WR (K:=K) rfl hu) (ZW (neg:=false)) (vv 3) (vv 0) (by with_unfolding_all rfl)))⟩))))))
abbrev Nx12:List Str:=["tuples"]
abbrev Qx12:List Str:=["tuples"]
theorem zEM:cW Nx12 Qx12 (dF (top 31)):=ZS
theorem zG9(F:W9 K "rows_within" "rows_within" (top 31) f fd) (T:Txt K mg):
  aW P w K mg base CX0 1 f fd Qx12 (spV K [] 1 Z1):=
 VA P w K mg base Nx12 Qx12 0 W3 [] F zEM fun _ _ _ _ _ _ hr hu hu1=>by exact(dI (c9 (cQ (K2 (N':=["rows","row"]) (ix:=[]) (nl:=2) rfl rfl (by rfl) rfl (by decide) (aB rfl (vv 0)) (fun cl s1 H1 fp=>⟨(c7 (show(["rows","row"]:List Str).Nodup by decide+kernel)),aJ,(aB rfl (vv 0)),(c7 (show(["rows","row"]:List Str).Nodup by decide+kernel)),aJ,(vv 1)⟩)))))
noncomputable abbrev Nx13:List Str:=["block","lanes","thing","packed"]
abbrev Qx13:List Str:=["block","lanes","thing"]
theorem BJ:cW Nx13 Qx13 (dF (top 32)):=ZS
theorem zG8(F:W9 K "fits_plan" "fits_plan" (top 32) f fd) (T:Txt K mg) (d7:cM P w K mg base "is_pack" 3 C1 [] Z0 f_x11) (i5:cM P w K mg base "rows_within" 1 Qx12 [] Z1 f_x12):
  aW P w K mg base CX0 4 f fd Qx13 (spV K [] 3 Y6):=
 VA P w K mg base Nx13 Qx13 3 U4 [] F BJ fun _ _ _ _ _ _ hr hu hu1=>by
  refine(dM ?_ (dM ?_ (dI ?_)))
  ·exact (bY (UA (WX (YN (ZU (K1 T.n_isinstance (vv 2) (vty T.n_tuple ZQ)))) (XH (YN (ZU (NS (kAll (K := K) rfl rfl) GB (by rfl) T.n_all LI (cQ (bQ ["block","lanes","pack"] [0,1] 1 (aB rfl (vv 2)) (fun hn _ _ _ _ => ⟨(c7 hn),aJ,(dG (cA d7 hr (dH (vv 0) (dH (vv 1) (dH (vv 2) dE)))))⟩)))))))))
   (dI (c9 YR))
   cX)
  ·exact(bL BJ.nd (aF (dG (cA i5 hr (dH (vv 2) dE)))))
  ·exact(c9 (WN (veq hu (GN T.n_len T.n_set (vv 3)) (Y2 T.n_len (vv 3))) (VM (veq hu (cQ (CA (HG (K:=K) rfl) U9 (by rfl) T.U9 P9 (vv 2))) (cQ (B9 (HH (K:=K) rfl) LZ (by rfl) T.n_sorted RE (vv 2)))))))
abbrev Nx14:List Str:=["block","lanes"]
abbrev C2:List Str:=["block","lanes"]
theorem zEL:cW Nx14 C2 (dF (top 33)):=ZS
theorem zG7(F:W9 K "check_lanes" "check_lanes" (top 33) f fd) (T:Txt K mg) (jd:cM P w K mg base "is_block" 5 Qx8 [] ZA f_x8) (jc:cM P w K mg base "is_lanes" 2 Qx9 [] ZP f_x9):
  aW P w K mg base CX0 6 f fd C2 (spV K [] 2 bV):=
 VA P w K mg base Nx14 C2 5 YB [] F zEL fun _ _ _ _ _ _ hr hu hu1=>by
  refine(dM ?_ (dI ?_))
  ·exact(bY (YN (ZU (cA jd hr (dH (vv 0) dE))))
   (dI P4)
   cX)
  ·exact(bY (YN (ZU (cA jc hr (dH (vv 1) dE))))
   (dI P4)
   cX)
abbrev Nx15:List Str:=["block","lanes","thing"]
abbrev Qx15:List Str:=["block","lanes","thing"]
theorem zEK:cW Nx15 Qx15 (dF (top 34)):=ZS
theorem zG6(F:W9 K "is_plan" "is_plan" (top 34) f fd) (T:Txt K mg) (i4:cM P w K mg base "fits_plan" 4 Qx13 [] Y6 f_x13) (cz:cM P w K mg base "check_lanes" 6 C2 [] bV f_x14):
  aW P w K mg base CX0 7 f fd Qx15 (spV K [] 3 Y7):=
 VA P w K mg base Nx15 Qx15 6 RM [] F zEK fun _ _ _ _ _ _ hr hu hu1=>by
  refine(dM ?_ (dI ?_))
  ·exact(MH (cA cz hr (dH (vv 0) (dH (vv 1) dE))))
  ·exact(c9 (cA i4 hr (dH (vv 0) (dH (vv 1) (dH (vv 2) dE)))))
abbrev Nx16:List Str:=["block","lanes"]
abbrev Qx16:List Str:=["block","lanes"]
theorem zEJ:cW Nx16 Qx16 (dF (top 37)):=ZS
theorem zG5(F:W9 K "check_few" "check_few" (top 37) f fd) (T:Txt K mg) (cz:cM P w K mg base "check_lanes" 6 C2 [] bV f_x14):
  aW P w K mg base CX0 7 f fd Qx16 (spV K [] 2 Y5):=
 VA P w K mg base Nx16 Qx16 6 U3 [] F zEJ fun _ _ _ _ _ _ hr hu hu1=>by
  refine(dM ?_ (dI ?_))
  ·exact(MH (cA cz hr (dH (vv 0) (dH (vv 1) dE))))
  ·exact (bY (cH zA1 s_gt (Y2 T.n_len (Z5 hu1 (vv 0) dN)) (aK (by rfl) T.v_MOST_TRIED_ROWS) (bD _))
   (dI P4)
   cX)
noncomputable abbrev Nx17:List Str:=["block","lanes","many","found","size","longer"]
abbrev Qx17:List Str:=["block","lanes"]
theorem RX:cW Nx17 Qx17 (dF (top 38)):=ZS
theorem zG4(F:W9 K "all_packs" "all_packs" (top 38) f fd) (T:Txt K mg) (d7:cM P w K mg base "is_pack" 3 C1 [] Z0 f_x11):
  aW P w K mg base CX0 4 f fd Qx17 (spV K [] 2 Y4):=
 VA P w K mg base Nx17 Qx17 3 U2 [] F RX fun _ _ _ _ _ _ hr hu hu1=>by
  refine(dM ?_ (dM ?_ (dM ?_ (dI ?_))))
  ·exact(bL RX.nd (aF (dG (Y2 T.n_len (Z5 hu1 (vv 0) dN)))))
  ·exact(P5 false RX.nd ["row"] [] 1 (YM (by rfl) T.n_range (vv 2)) (fun hn _ _ _ _=>⟨(c7 hn),aJ,(dG (b5 (dO (vv 0) dD)))⟩))
  ·exact (VN Ea rfl (SE (by rfl) T.n_range dN (aT (YQ (K := K) rfl) ZY (vv 1) dN)) (c7 RX.nd)
   (dM (CF (i:=5) false RX.nd rfl rfl (N':=["many","rows","row"]) (ix:=[2]) (nl:=2) rfl rfl (by rfl) rfl (by decide) (aB rfl (vv 3)) (fun cl s1 H1 fp=>⟨(c7 (show(["many","rows","row"]:List Str).Nodup by decide+kernel)),aJ,(SE (by rfl) T.n_range (aT (YQ (K:=K) rfl) ZY (Z5 hu1 (vv 1) (T9 dN)) dN) (vv 0)),(c7 (show(["many","rows","row"]:List Str).Nodup by decide+kernel)),aJ,(dG (aT (YQ (K:=K) rfl) ZY (vv 1) (b5 (dO (vv 2) dD))))⟩))
   (dI (P5 false RX.nd ["block","size","rows"] [0,4] 1 (aB rfl (vv 5)) (fun hn _ _ _ _=>⟨(c7 hn),(WM (ZU (cA d7 hr (dH (vv 0) (dH (vv 1) (dH (vv 2) dE)))))),(vv 2)⟩)))))
  ·exact(c9 (vv 3))
abbrev Nx18:List Str:=["block","lanes"]
abbrev Qx18:List Str:=["block","lanes"]
theorem zEI:cW Nx18 Qx18 (dF (top 39)):=ZS
theorem zG3(F:W9 K "packs" "packs" (top 39) f fd) (T:Txt K mg) (gy:cM P w K mg base "check_few" 7 Qx16 [] Y5 f_x16) (gx:cM P w K mg base "all_packs" 4 Qx17 [] Y4 f_x17):
  aW P w K mg base CX0 8 f fd Qx18 (spV K [] 2 V0):=
 VA P w K mg base Nx18 Qx18 7 LV [] F zEI fun _ _ _ _ _ _ hr hu hu1=>by
  refine(dM ?_ (dI ?_))
  ·exact(MH (cA gy hr (dH (vv 0) (dH (vv 1) dE))))
  ·exact(c9 (cA gx hr (dH (vv 0) (dH (vv 1) dE))))
noncomputable abbrev Nx19:List Str:=["_law_script","_law_k","_law_rest","_law_again"]
abbrev Qx19:List Str:=["_law_script","_law_k"]
theorem L9:cW Nx19 Qx19 (dF (top 41)):=ZS
theorem zG2(F:W9 K "_law_cell_at" "_law_cell_at" (top 41) f fd) (T:Txt K mg):
  aW P w K mg base CX0 1 f fd Qx19 (spV K [] 2 aX):=
 VA P w K mg base Nx19 Qx19 0 W1 [] F L9 fun _ _ _ _ _ _ hr hu hu1=>by
  refine(dM ?_ (dM ?_ (dM ?_ (dM ?_ (dI ?_)))))
  ·exact(bY (cH FV s_lt (vv 1) (Y2 T.n_len (vv 0)) (bD _))
   (dI (c9 (Z5 hu1 (vv 0) (vv 1))))
   cX)
  ·exact(bY (WW hu (vv 0) (cQ (a7 (cV dD))))
   (dI (c9 dN))
   cX)
  ·exact(bL L9.nd (aF (dG (Z5 hu1 (vv 0) (ZE VC Q9 (vv 1) (Y2 T.n_len (vv 0)))))))
  ·exact (VN Ea rfl (YM (by rfl) T.n_range (B4 (DC rfl) zHY (by rfl) T.n_min zH1 (ZE FU BH (vv 1) (Y2 T.n_len (vv 0))) dN)) (c7 L9.nd)
   (dI (bL L9.nd (aF (dG (ZE FU BH (vv 2) dN))))))
  ·exact(c9 (aT (YQ (K:=K) rfl) ZY (aT (YQ (K:=K) rfl) ZY (aT (LY (K:=K) rfl) QA (Z5 hu1 (vv 0) (ZE VC Q9 (vv 1) (Y2 T.n_len (vv 0)))) dN) (vv 1)) (aT (LY (K:=K) rfl) QA (vv 2) dN)))
noncomputable abbrev Nx20:List Str:=["_law_script","_law_k","_law_bound","_law_drawn"]
abbrev Qx20:List Str:=["_law_script","_law_k","_law_bound"]
theorem BK:cW Nx20 Qx20 (dF (top 42)):=ZS
theorem zG1(F:W9 K "_law_mixed" "_law_mixed" (top 42) f fd) (T:Txt K mg) (gv:cM P w K mg base "_law_cell_at" 1 Qx19 [] aX f_x19):
  aW P w K mg base CX0 2 f fd Qx20 (spV K [] 3 Y8):=
 VA P w K mg base Nx20 Qx20 1 U5 [] F BK fun _ _ _ _ _ _ hr hu hu1=>by
  refine(dM ?_ (dI ?_))
  ·exact(bL BK.nd (aF (dG (ZE VC Q9 (aT (YQ (K:=K) rfl) ZY (aT (YQ (K:=K) rfl) ZY (aT (LY (K:=K) rfl) QA (cA gv hr (dH (vv 0) (dH (vv 1) dE))) dN) (aT (LY (K:=K) rfl) QA dN (vv 1))) dN) dN))))
  ·exact(c9 (ZE VC Q9 (ZE VC Q9 (ZE VC Q9 (ZE zFI zHW (vv 3) dN) dN) dN) (vv 2)))
abbrev Nx21:List Str:=["_law_script","_law_town","_law_bound"]
abbrev LF:List Str:=["_law_script","_law_town","_law_bound"]
theorem zEH:cW Nx21 LF (dF (top 43)):=ZS
theorem zG0(F:W9 K "_law_draw" "_law_draw" (top 43) f fd) (T:Txt K mg) (gu:cM P w K mg base "_law_mixed" 2 Qx20 [] Y8 f_x20):
  aW P w K mg base CX0 3 f fd LF (spV K [1] 3 cT):=
 VA P w K mg base Nx21 LF 2 TR [1] F zEH fun _ _ _ _ _ _ hr hu hu1=>by
  refine(dM ?_ (dI ?_))
  ·exact(Y3 (K:=K) rfl Bm Bn bK YK (pv 1) (cV (dO dN dD)))
  ·exact(c9 (cA gu hr (dH (vv 0) (dH (dG (Y2 T.n_len (vo 1))) (dH (vv 2) dE)))))
abbrev Nx22:List Str:=["_law_script","_law_town","_law_some"]
abbrev NW:List Str:=["_law_script","_law_town","_law_some"]
theorem zEG:cW Nx22 NW (dF (top 44)):=ZS
theorem zFZ(F:W9 K "_law_pick" "_law_pick" (top 44) f fd) (T:Txt K mg) (al:cM P w K mg base "_law_draw" 3 LF [1] cT f_x21):
  aW P w K mg base CX0 4 f fd NW (spV K [1] 3 cC):=
 VA P w K mg base Nx22 NW 3 TW [1] F zEG fun _ _ _ _ _ _ hr hu hu1=>by exact(dI (c9 (Z5 hu1 (vv 2) (cA al hr (dH (vv 0) (bT (pv 1) (dH (dG (Y2 T.n_len (vv 2))) dE)))))))
noncomputable abbrev Nx23:List Str:=["_law_script","_law_town","_law_seen","_law_deed","_law_room"]
abbrev Qx23:List Str:=["_law_script","_law_town","_law_seen","_law_deed","_law_room"]
theorem zEF:cW Nx23 Qx23 (dF (top 45)):=ZS
theorem zFY(F:W9 K "_law_place" "_law_place" (top 45) f fd) (T:Txt K mg) (al:cM P w K mg base "_law_draw" 3 LF [1] cT f_x21) (ao:cM P w K mg base "_law_pick" 4 NW [1] cC f_x22):
  aW P w K mg base CX0 5 f fd Qx23 (spV K [1,2] 5 bC):=
 VA P w K mg base Nx23 Qx23 4 U6 [1,2] F zEF fun _ _ _ _ _ _ hr hu hu1=>by
  refine(dM ?_ (dI ?_))
  ·exact(GO hu1 (pv 2) (vv 3) (dG (ZE VC Q9 (aT (YQ (K:=K) rfl) ZY (B6 hu1 (pv 2) (vv 3) (dG (cA al hr (dH (vv 0) (bT (pv 1) (dH (vv 4) dE))))) ⟨rfl,rfl,rfl,rfl⟩) (cA ao hr (dH (vv 0) (bT (pv 1) (dH (cQ (a7 (cV (dO dN (dO dN (dO dN (dO dN (dO dN dD)))))))) dE))))) (vv 4))) rfl)
  ·exact(c9 (Z5 hu1 (vo 2) (vv 3)))
noncomputable abbrev Nx24:List Str:=["_law_script","_law_town","_law_made","_law_seen","_law_room","_law_kind","_law_a","_law_b","_law_c"]
abbrev Qx24:List Str:=["_law_script","_law_town","_law_made","_law_seen","_law_room"]
theorem PZ:cW Nx24 Qx24 (dF (top 46)):=ZS
theorem zFX(F:W9 K "_law_row" "_law_row" (top 46) f fd) (T:Txt K mg) (al:cM P w K mg base "_law_draw" 3 LF [1] cT f_x21) (ao:cM P w K mg base "_law_pick" 4 NW [1] cC f_x22) (cu:cM P w K mg base "_law_place" 5 Qx23 [1,2] bC f_x23):
  aW P w K mg base CX0 6 f fd Qx24 (spV K [1,3] 5 XI):=
 VA P w K mg base Nx24 Qx24 5 RO [1,3] F PZ fun _ _ _ _ _ _ hr hu hu1=>by
  refine(dM ?_ (dM ?_ (dM ?_ (dM ?_ (dM ?_ (dM ?_ (dM ?_ (dM ?_ (dI ?_)))))))))
  ·exact(bL PZ.nd (aF (dG (cA al hr (dH (vv 0) (bT (pv 1) (dH dN dE)))))))
  ·exact(bY (UA (WX (WW hu (vv 2) (cQ (a7 (cV dD)))) (XH (WW hu (vv 5) dN))))
   (dM (bY (WW hu (cA al hr (dH (vv 0) (bT (pv 1) (dH dN dE)))) dN)
   (dI (c9 (b5 (dO c8 (dO (cA ao hr (dH (vv 0) (bT (pv 1) (dH (cQ (a7 (cV (dO dN (dO dN (dO dN (dO dN (dO dN (dO (cA al hr (dH (vv 0) (bT (pv 1) (dH dN dE)))) dD))))))))) dE)))) dD)))))
   cX)
   (dI (c9 (b5 (dO c8 (dO (cA cu hr (dH (vv 0) (bT (pv 1) (bT (pv 3) (dH c8 (dH (vv 4) dE)))))) dD))))))
   cX)
  ·exact(CD (cQ (bQ ["_law_script","_law_town","_law_made","_law_k"] [0,1,2] 1 (YM (by rfl) T.n_range dN) (fun hn _ _ _ _=>⟨(c7 hn),aJ,(dG (Z5 hu1 (vv 2) (B4 (DB rfl) zHZ (by rfl) T.n_max zH2 dN (ZE T6 PY (ZE T6 PY (Y2 T.n_len (vv 2)) dN) (cA al hr (dH (vv 0) (bT (pv 1) (dH dN dE))))))))⟩))) (WO (K:=K) rfl rfl (bU (c7 PZ.nd) (bU (c7 PZ.nd) (bU (c7 PZ.nd) XZ)))))
  ·exact (bY (cH (WR (K := K) rfl hu) (ZW (neg := false)) (vv 5) (b5 (dO dN (dO dN dD))) (by with_unfolding_all rfl))
   (dI (c9 (b5 (dO c8 (dO (cA cu hr (dH (vv 0) (bT (pv 1) (bT (pv 3) (dH c8 (dH (vv 4) dE)))))) dD)))))
   cX)
  ·exact(bY (WW hu (vv 5) dN)
   (dI (c9 (b5 (dO c8 (dO (cA cu hr (dH (vv 0) (bT (pv 1) (bT (pv 3) (dH c8 (dH (vv 4) dE)))))) (dO (vv 8) (dO (vv 6) dD)))))))
   cX)
  ·exact (bY (cH (WR (K := K) rfl hu) (ZW (neg := false)) (vv 5) (b5 (dO dN (dO dN dD))) (by with_unfolding_all rfl))
   (dI (c9 (b5 (dO c8 (dO (cA cu hr (dH (vv 0) (bT (pv 1) (bT (pv 3) (dH c8 (dH (vv 4) dE)))))) (dO (vv 6) dD))))))
   cX)
  ·exact(bY (WW hu (vv 5) dN)
   (dI (c9 (b5 (dO c8 (dO (cA cu hr (dH (vv 0) (bT (pv 1) (bT (pv 3) (dH c8 (dH (vv 4) dE)))))) (dO (vv 6) (dO (vv 8) dD)))))))
   cX)
  ·exact(bY (WW hu (vv 5) dN)
   (dI (c9 (b5 (dO c8 (dO (vv 8) (dO (vv 6) (dO (vv 7) dD)))))))
   cX)
  ·exact(c9 (b5 (dO (Z5 hu1 (cQ (a7 (cV (dO c8 (dO c8 (dO c8 (dO c8 (dO c8 (dO c8 (dO c8 dD)))))))))) (cA al hr (dH (vv 0) (bT (pv 1) (dH dN dE))))) (dO (vv 6) (dO (vv 7) dD)))))
noncomputable abbrev Nx26:List Str:=["_law_script","_law_town","_law_rows_here","_law_made","_law_seen","_law_room","_law_last","_law_first","_law_names_here","_law_name","_law_at"]
abbrev Qx26:List Str:=["_law_script","_law_town","_law_rows_here","_law_made","_law_seen","_law_room"]
theorem RY:cW Nx26 Qx26 (dF (top 48)):=ZS
theorem zFV(F:W9 K "_law_next" "_law_next" (top 48) f fd) (T:Txt K mg) (ao:cM P w K mg base "_law_pick" 4 NW [1] cC f_x22):
  aW P w K mg base CX0 5 f fd Qx26 (spV K [1,4] 6 Z6):=
 VA P w K mg base Nx26 Qx26 4 V7 [1,4] F RY fun _ _ _ _ _ _ hr hu hu1=>by
  refine(dM ?_ (dM ?_ (dM ?_ (dM ?_ (dM ?_ (dM ?_ (dI ?_)))))))
  ·exact(bL RY.nd (aF (dG (Z5 hu1 (vv 2) (T9 dN)))))
  ·exact(bL RY.nd (aF (dG (NU (cH (WR (K:=K) rfl hu) (ZW (neg:=false)) (Z5 hu1 (vv 6) dN) (b5 (dO c8 (dO c8 (dO c8 (dO c8 dD))))) (by with_unfolding_all rfl)) dN dN))))
  ·exact(bL RY.nd (VO (a7 (cV dD))))
  ·exact(VN Ea rfl (aB rfl (dG (TC rfl (vv 6) (TF (vv 7)) TD))) (c7 RY.nd)
   (dM (bL RY.nd (aF (dG (aT (YQ (K:=K) rfl) ZY (B7 rfl (vv 3) (vv 9)) (cA ao hr (dH (vv 0) (bT (pv 1) (dH (cQ (a7 (cV (dO dN (dO dN (dO dN (dO dN (dO (T9 dN) (dO dN (dO dN dD)))))))))) dE))))))))
   (dI (Y3 (K:=K) rfl Bm Bn bK YK (pv 8) (cV (dO (NU (UA (MI (CH AB FV s_le s_lt dN (vv 10) (Y2 T.n_len (vv 3))) (QL (cH (RQ (K:=K) rfl hu) RW (Z5 hu1 (vv 3) (vv 10)) (ZE T6 PY (Y2 T.n_len (vv 2)) dN) (bD _))))) (Z5 hu1 (vv 3) (vv 10)) (vv 9)) dD))))))
  ·exact(bY (WW hu (vv 7) dN)
   (dI (c9 (aT (YQ (K:=K) rfl) ZY (TC rfl (vv 6) TD (TF dN)) (NT (UP (K:=K) rfl) UK (by rfl) T.n_tuple ZQ (vo 8)))))
   cX)
  ·exact(GO hu1 (pv 4) (Z5 hu1 (vv 6) dN) (dG (ZE VC Q9 (aT (YQ (K:=K) rfl) ZY (Z5 hu1 (vv 6) dN) dN) (vv 5))) rfl)
  ·exact(c9 (aT (YQ (K:=K) rfl) ZY (b5 (dO (Z5 hu1 (vv 6) dN) (dO (Z5 hu1 (vo 4) (Z5 hu1 (vv 6) dN)) dD))) (NT (UP (K:=K) rfl) UK (by rfl) T.n_tuple ZQ (vo 8))))
noncomputable abbrev Nx25:List Str:=["_law_script","_law_town","_law_many","_law_room","_law_rows_here","_law_made","_law_seen","_law_again"]
abbrev Qx25:List Str:=["_law_script","_law_town","_law_many","_law_room"]
theorem IE:cW Nx25 Qx25 (dF (top 47)):=ZS
theorem zFW(F:W9 K "_law_rows" "_law_rows" (top 47) f fd) (T:Txt K mg) (ao:cM P w K mg base "_law_pick" 4 NW [1] cC f_x22) (gq:cM P w K mg base "_law_row" 6 Qx24 [1,3] XI f_x24) (gn:cM P w K mg base "_law_next" 5 Qx26 [1,4] Z6 f_x26):
  aW P w K mg base CX0 7 f fd Qx25 (spV K [1] 4 YE):=
 VA P w K mg base Nx25 Qx25 6 TY [1] F IE fun _ _ _ _ _ _ hr hu hu1=>by
  refine(dM ?_ (dM ?_ (dI ?_)))
  ·exact(zBG (i:=4) (j:=5) (k:=6) rfl IE.nd rfl rfl rfl (by decide) (by decide) (by decide) rfl rfl rfl (VO (a7 (cV dD))) (VO (a7 (cV dD))) (VO CC) rfl)
  ·exact(K3 Ea (cH FV s_lt (Y2 T.n_len (vo 4)) (vv 2) (bD _))
   (dM (Y3 (K:=K) rfl Bm Bn bK YK (pv 4) (cV (dO (cA gq hr (dH (vv 0) (bT (pv 1) (bT (pv 5) (bT (pv 6) (dH (vv 3) dE)))))) dD)))
   (dM (bY (cH (QG (K:=K) rfl hu) (ZW (neg:=true)) (Z5 hu1 (Z5 hu1 (vo 4) (T9 dN)) dN) (b5 (dO c8 (dO c8 dD))) (by with_unfolding_all rfl))
   (dI (Y3 (K:=K) rfl Bm Bn bK YK (pv 5) (cV (dO (ZE T6 PY (Y2 T.n_len (vo 4)) dN) dD))))
   cX)
   (dI (VN Ea rfl (YM (by rfl) T.n_range (cA ao hr (dH (vv 0) (bT (pv 1) (dH (cQ (a7 (cV (dO dN (dO dN (dO dN (dO dN (dO dN dD)))))))) dE))))) (c7 IE.nd)
   (dI (bY (UA (MI (cH FV s_lt (Y2 T.n_len (vo 4)) (vv 2) (bD _)) (QL (cH (RQ (K:=K) rfl hu) RW (Z5 hu1 (Z5 hu1 (vo 4) (T9 dN)) dN) c8 (bD _)))))
   (dM (Y3 (K:=K) rfl Bm Bn bK YK (pv 4) (cV (dO (cA gn hr (dH (vv 0) (bT (pv 1) (bT (pv 4) (bT (pv 5) (bT (pv 6) (dH (vv 3) dE))))))) dD)))
   (dI (bY (cH (QG (K:=K) rfl hu) (ZW (neg:=true)) (Z5 hu1 (Z5 hu1 (vo 4) (T9 dN)) dN) (b5 (dO c8 (dO c8 dD))) (by with_unfolding_all rfl))
   (dI (Y3 (K:=K) rfl Bm Bn bK YK (pv 5) (cV (dO (ZE T6 PY (Y2 T.n_len (vo 4)) dN) dD))))
   cX)))
   cX)))))))
  ·exact(c9 (NT (UP (K:=K) rfl) UK (by rfl) T.n_tuple ZQ (vo 4)))
abbrev Nx28:List Str:=["_law_row_here"]
abbrev C3:List Str:=["_law_row_here"]
theorem zEE:cW Nx28 C3 (dF (top 50)):=ZS
theorem zFT(F:W9 K "_law_names" "_law_names" (top 50) f fd) (T:Txt K mg):
  aW P w K mg base CX0 1 f fd C3 (spV K [] 1 cB):=
 VA P w K mg base Nx28 C3 0 Q2 [] F zEE fun _ _ _ _ _ _ hr hu hu1=>by
  refine(dM ?_ (dI ?_))
  ·exact(bY (WW hu (Z5 hu1 (vv 0) dN) c8)
   (dI (c9 (cQ (a7 (cV dD)))))
   cX)
  ·exact(c9 (NU (cH (WR (K:=K) rfl hu) (ZW (neg:=false)) (Z5 hu1 (vv 0) dN) (b5 (dO c8 (dO c8 (dO c8 (dO c8 dD))))) (by with_unfolding_all rfl)) (cQ (CA (HG (K:=K) rfl) U9 (by rfl) T.U9 P9 (GL (TC rfl (vv 0) (TF dN) TD)))) (cQ (CA (HG (K:=K) rfl) U9 (by rfl) T.U9 P9 (GL (TC rfl (vv 0) (TF dN) TD))))))
noncomputable abbrev Nx29:List Str:=["_law_block_here","_law_row_here","_law_here"]
abbrev Qx29:List Str:=["_law_block_here","_law_row_here"]
theorem BL:cW Nx29 Qx29 (dF (top 51)):=ZS
theorem zFS(F:W9 K "_law_may" "_law_may" (top 51) f fd) (T:Txt K mg):
  aW P w K mg base CX0 1 f fd Qx29 (spV K [] 2 ZG):=
 VA P w K mg base Nx29 Qx29 0 RN [] F BL fun _ _ _ _ _ _ hr hu hu1=>by
  refine(dM ?_ (dM ?_ (dI ?_)))
  ·exact(bL BL.nd (aF (dG (Z5 hu1 (Z5 hu1 (vv 0) dN) (vv 1)))))
  ·exact (bY (cH (WR (K := K) rfl hu) (ZW (neg := false)) (Z5 hu1 (vv 2) dN) (b5 (dO c8 (dO c8 (dO c8 (dO c8 dD))))) (by with_unfolding_all rfl))
   (dI (c9 (X4 zDL s_ge (Z5 hu1 (vv 2) dN) (Z5 hu1 (vv 0) dN) (bD _))))
   cX)
  ·exact(c9 (WN (veq hu (Z5 hu1 (vv 2) dN) c8) (VM (X4 (QG (K:=K) rfl hu) (ZW (neg:=true)) (TC rfl (Z5 hu1 (Z5 hu1 (vv 0) dN) (Z5 hu1 (vv 2) dN)) TD (TF dN)) (cQ (bQ ["_law_k"] [] 1 (SE (by rfl) T.n_range dN dN) (fun hn _ _ _ _=>⟨(c7 hn),aJ,(dG (b5 (dO c8 (dO (vv 0) dD))))⟩))) (by with_unfolding_all rfl)))))
noncomputable abbrev Nx30:List Str:=["_law_block_here","_law_made","_law_cells","_law_two","_law_there","_law_one","_law_here","_law_writes","_law_reasons"]
abbrev Qx30:List Str:=["_law_block_here"]
theorem VH:cW Nx30 Qx30 (dF (top 52)):=ZS
theorem zFR(F:W9 K "_law_must" "_law_must" (top 52) f fd) (T:Txt K mg) (cy:cM P w K mg base "_law_names" 1 C3 [] cB f_x28) (cx:cM P w K mg base "_law_may" 1 Qx29 [] ZG f_x29):
  aW P w K mg base CX0 2 f fd Qx30 (spV K [] 1 YD):=
 VA P w K mg base Nx30 Qx30 1 TU [] F VH fun _ _ _ _ _ _ hr hu hu1=>by
  refine(dM ?_ (dM ?_ (dI ?_)))
  ·exact(zBH (i:=1) (j:=2) rfl VH.nd rfl rfl (by decide) rfl rfl (VO (a7 (cV dD))) (aF (dG (b5 (dO c8 (dO c8 (dO c8 (dO c8 dD))))))) rfl)
  ·exact (VN Ea rfl (MG rfl (by rfl) T.n_enumerate (dG (Z5 hu1 (vv 0) dN))) (WO (K := K) rfl rfl (bU (c7 VH.nd) (bU (c7 VH.nd) XZ)))
   (dI (VN Ea rfl (MG rfl (by rfl) T.n_enumerate (dG (TC rfl (Z5 hu1 (vv 0) dN) TD (TF (vv 3))))) (WO (K:=K) rfl rfl (bU (c7 VH.nd) (bU (c7 VH.nd) XZ)))
   (dM (P5 false VH.nd ["_law_row_here"] [] 1 (aB rfl (dG (b5 (dO (vv 6) (dO (vv 4) dD))))) (fun hn _ _ _ _=>⟨(c7 hn),(WM (cH (WR (K:=K) rfl hu) (ZW (neg:=false)) (Z5 hu1 (vv 0) dN) (b5 (dO c8 (dO c8 dD))) (by with_unfolding_all rfl))),(vv 0)⟩))
   (dM (bL VH.nd (VO (a7 (cV (dO (X4 (WR (K:=K) rfl hu) (ZW (neg:=false)) (vv 5) (cA cy hr (dH (vv 4) dE)) (by with_unfolding_all rfl)) (dO (WN (cA cx hr (dH (vv 0) (dH (vv 5) dE))) (VM (cA cx hr (dH (vv 0) (dH (vv 3) dE))))) dD))))))
   (dM (Y3 (K:=K) rfl Bm Bn bK YK (pv 8) (cV (dO (WN (X4 (WR (K:=K) rfl hu) (ZW (neg:=false)) (Z5 hu1 (vv 6) dN) (vv 2) (by with_unfolding_all rfl)) (WN (X4 (WR (K:=K) rfl hu) (ZW (neg:=false)) (Z5 hu1 (vv 4) dN) (vv 2) (by with_unfolding_all rfl)) (WN (veq hu (Z5 hu1 (vv 6) dN) (Z5 hu1 (vv 4) dN)) (VM (X4 (RQ (K:=K) rfl hu) RW (vv 7) (cQ (a7 (cV dD))) (bD _)))))) dD)))
   (dM (Y3 (K:=K) rfl Bm Bn bK YK (pv 8) (cV (dO (WN (cA cx hr (dH (vv 0) (dH (vv 5) dE))) (VM (X4 (WR (K:=K) rfl hu) (ZW (neg:=false)) (Z5 hu1 (vv 4) dN) (b5 (dO c8 (dO c8 dD))) (by with_unfolding_all rfl)))) dD)))
   (dM (Y3 (K:=K) rfl Bm Bn bK YK (pv 8) (cV (dO (WN (cA cx hr (dH (vv 0) (dH (vv 3) dE))) (VM (X4 (WR (K:=K) rfl hu) (ZW (neg:=false)) (Z5 hu1 (vv 6) dN) (b5 (dO c8 (dO c8 dD))) (by with_unfolding_all rfl)))) dD)))
   (dI (bY (cH (WR (K:=K) rfl hu) (ZW (neg:=false)) YR (vo 8) (by with_unfolding_all rfl))
   (dI (Y3 (K:=K) rfl Bm Bn bK YK (pv 1) (cV (dO (b5 (dO (vv 5) (dO (vv 3) dD))) dD))))
   cX))))))))))
  ·exact(c9 (cQ (B9 (HH (K:=K) rfl) LZ (by rfl) T.n_sorted RE (GL (vo 1)))))
noncomputable abbrev Nx32:List Str:=["_law_script","_law_town","_law_block_here","_law_pairs","_law_left","_law_made","_law_ready"]
abbrev Qx32:List Str:=["_law_script","_law_town","_law_block_here"]
theorem IF:cW Nx32 Qx32 (dF (top 54)):=ZS
theorem zFP(F:W9 K "_law_mixed_order" "_law_mixed_order" (top 54) f fd) (T:Txt K mg) (ao:cM P w K mg base "_law_pick" 4 NW [1] cC f_x22) (gl:cM P w K mg base "_law_must" 2 Qx30 [] YD f_x30):
  aW P w K mg base CX0 5 f fd Qx32 (spV K [1] 3 bA):=
 VA P w K mg base Nx32 Qx32 4 YY [1] F IF fun _ _ _ _ _ _ hr hu hu1=>by
  refine(dM ?_ (dM ?_ (dI ?_)))
  ·exact(zBD (i:=3) (j:=4) (k:=5) rfl rfl IF.nd rfl rfl rfl (by decide) (by decide) (by decide) (Kz rfl) (Kz rfl) (Md rfl) (aF (dG (cA gl hr (dH (vv 2) dE)))) (VO (ES rfl (by rfl) T.U9 P9 (by rfl) T.n_range zB5 (Y2 T.n_len (Z5 hu1 (vv 2) dN)))) (VO (a7 (cV dD))))
  ·exact(K3 Ea (cH (RQ (K:=K) rfl hu) RW (vo 4) (cQ (a7 (cV dD))) (bD _))
   (dM (CG false IF.nd ["_law_pairs","_law_left","_law_row_here"] [3,4] 1 (B8 rfl (vo 4)) (fun hn _ _ _ _=>⟨(c7 hn),(WM (WW hu (cQ (bQ ["_law_left","_law_row_here","_law_one","_law_two"] [1,2] 2 (aB rfl (vv 0)) (fun hn _ _ _ _=>⟨(WO (K:=K) rfl rfl (bU (c7 hn) (bU (c7 hn) XZ))),(WM (UA (MI (WW hu (vv 3) (vv 1)) (QL (cH (WR (K:=K) rfl hu) (ZW (neg:=false)) (vv 2) (vo 0) (by with_unfolding_all rfl)))))),dN⟩))) (cQ (a7 (cV dD))))),(vv 2)⟩))
   (dM (Y3 (K:=K) rfl Bm Bn bK YK (pv 5) (cV (dO (cA ao hr (dH (vv 0) (bT (pv 1) (dH (vv 6) dE)))) dD)))
   (dI (Y3 (K:=K) rfl PySem.F.slot_list_remove PySem.F.type_list_remove D2 zGE (pv 4) (cV (dO (Z5 hu1 (vo 5) (T9 dN)) dD)))))))
  ·exact(zBF (pv 5))
abbrev Nx33:List Str:=["_law_row_here","_law_names_here","_law_first"]
abbrev Qx33:List Str:=["_law_row_here","_law_names_here"]
theorem BN:cW Nx33 Qx33 (dF (top 55)):=ZS
theorem zFO(F:W9 K "_law_renamed" "_law_renamed" (top 55) f fd) (T:Txt K mg):
  aW P w K mg base CX0 1 f fd Qx33 (spV K [] 2 cS):=
 VA P w K mg base Nx33 Qx33 0 bF [] F BN fun _ _ _ _ _ _ hr hu hu1=>by
  refine(dM ?_ (dM ?_ (dI ?_)))
  ·exact(bY (WW hu (Z5 hu1 (vv 0) dN) c8)
   (dI (c9 (vv 0)))
   cX)
  ·exact(bL BN.nd (aF (dG (NU (cH (WR (K:=K) rfl hu) (ZW (neg:=false)) (Z5 hu1 (vv 0) dN) (b5 (dO c8 (dO c8 (dO c8 (dO c8 dD))))) (by with_unfolding_all rfl)) dN dN))))
  ·exact(c9 (aT (YQ (K:=K) rfl) ZY (TC rfl (vv 0) TD (TF (vv 2))) (NT (UP (K:=K) rfl) UK (by rfl) T.n_tuple ZQ (cQ (bQ ["_law_names_here","_law_name"] [1] 1 (aB rfl (dG (TC rfl (vv 0) (TF (vv 2)) TD))) (fun hn _ _ _ _=>⟨(c7 hn),aJ,(dG (Z5 hu1 (vv 0) (vv 1)))⟩))))))
noncomputable abbrev Nx27:List Str:=["_law_script","_law_town","_law_most","_law_room","_law_sure","_law_block_here","_law_order_there","_law_names_here"]
abbrev Qx27:List Str:=["_law_script","_law_town","_law_most"]
theorem RZ:cW Nx27 Qx27 (dF (top 49)):=ZS
theorem zFU(F:W9 K "_law_block" "_law_block" (top 49) f fd) (T:Txt K mg) (al:cM P w K mg base "_law_draw" 3 LF [1] cT f_x21) (ao:cM P w K mg base "_law_pick" 4 NW [1] cC f_x22) (gp:cM P w K mg base "_law_rows" 7 Qx25 [1] YE f_x25) (gj:cM P w K mg base "_law_mixed_order" 5 Qx32 [1] bA f_x32) (gh:cM P w K mg base "_law_renamed" 1 Qx33 [] cS f_x33):
  aW P w K mg base CX0 8 f fd Qx27 (spV K [1] 3 aC):=
 VA P w K mg base Nx27 Qx27 7 W6 [1] F RZ fun _ _ _ _ _ _ hr hu hu1=>by
  refine(dM ?_ (dM ?_ (dM ?_ (dM ?_ (dM ?_ (dM ?_ (dI ?_)))))))
  ·exact(bL RZ.nd (aF (dG (cA ao hr (dH (vv 0) (bT (pv 1) (dH (cQ (a7 (cV (dO dN (dO dN (dO dN (dO dN dD))))))) dE)))))))
  ·exact(bL RZ.nd (aF (dG (cA ao hr (dH (vv 0) (bT (pv 1) (dH (cQ (a7 (cV (dO dN (dO (vv 3) (dO (vv 3) (dO (cA al hr (dH (vv 0) (bT (pv 1) (dH (dG (aT (YQ (K:=K) rfl) ZY (vv 3) dN)) dE)))) dD))))))) dE)))))))
  ·exact(bL RZ.nd (aF (dG (b5 (dO (vv 4) (dO (cA gp hr (dH (vv 0) (bT (pv 1) (dH (dG (cA al hr (dH (vv 0) (bT (pv 1) (dH (dG (aT (YQ (K:=K) rfl) ZY (vv 2) dN)) dE))))) (dH (vv 3) dE))))) dD))))))
  ·exact(bY (cH zA1 s_gt (cA al hr (dH (vv 0) (bT (pv 1) (dH dN dE)))) dN (bD _))
   (dI (c9 (vv 5)))
   cX)
  ·exact(bL RZ.nd (aF (dG (cA gj hr (dH (vv 0) (bT (pv 1) (dH (vv 5) dE)))))))
  ·exact(bL RZ.nd (aF (cQ (ER rfl rfl (by rfl) T.n_dict zD3 (cQ (bQ ["_law_number","_law_row_here"] [] 2 (MG rfl (by rfl) T.n_enumerate (vv 6)) (fun hn _ _ _ _=>⟨(WO (K:=K) rfl rfl (bU (c7 hn) (bU (c7 hn) XZ))),aJ,(dG (b5 (dO (vv 1) (dO (vv 0) dD))))⟩)))))))
  ·exact(c9 (b5 (dO (vv 4) (dO (NT (UP (K:=K) rfl) UK (by rfl) T.n_tuple ZQ (cQ (bQ ["_law_block_here","_law_names_here","_law_row_here"] [5,7] 1 (aB rfl (vv 6)) (fun hn _ _ _ _=>⟨(c7 hn),aJ,(dG (cA gh hr (dH (dG (Z5 hu1 (Z5 hu1 (vv 0) dN) (vv 2))) (dH (vv 1) dE))))⟩)))) dD))))
noncomputable abbrev Nx31:List Str:=["_law_block_here","_law_broad","_law_some","_law_rows_here"]
abbrev Qx31:List Str:=["_law_block_here","_law_broad","_law_some"]
theorem BM:cW Nx31 Qx31 (dF (top 53)):=ZS
theorem zFQ(F:W9 K "_law_is_pack" "_law_is_pack" (top 53) f fd) (T:Txt K mg) (cy:cM P w K mg base "_law_names" 1 C3 [] cB f_x28):
  aW P w K mg base CX0 2 f fd Qx31 (spV K [] 3 aM):=
 VA P w K mg base Nx31 Qx31 1 W2 [] F BM fun _ _ _ _ _ _ hr hu hu1=>by
  refine(dM ?_ (dM ?_ (dM ?_ (dI ?_))))
  ·exact(bL BM.nd (aF (cQ (bQ ["_law_block_here","_law_one"] [0] 1 (aB rfl (vv 2)) (fun hn _ _ _ _=>⟨(c7 hn),aJ,(dG (Z5 hu1 (Z5 hu1 (vv 0) dN) (vv 1)))⟩)))))
  ·exact (bY (UA (WX (cH (RQ (K := K) rfl hu) RW (Y2 T.n_len (vv 2)) (vv 1) (bD _)) (WX (cH (RQ (K := K) rfl hu) RW (GN T.n_len T.n_set (cQ (bQ ["_law_row_here"] [] 1 (aB rfl (vv 3)) (fun hn _ _ _ _ => ⟨(c7 hn),aJ,(dG (Z5 hu1 (vv 0) dN))⟩)))) dN (bD _)) (XH (WW hu (Z5 hu1 (Z5 hu1 (vv 3) dN) dN) c8)))))
   (dI (c9 YR))
   cX)
  ·exact (bY (cH (WR (K := K) rfl hu) (ZW (neg := false)) (Z5 hu1 (Z5 hu1 (vv 3) dN) dN) (b5 (dO c8 (dO c8 (dO c8 (dO c8 dD))))) (by with_unfolding_all rfl))
   (dI (bY (cH (RQ (K:=K) rfl hu) RW (cQ (bQ ["_law_row_here"] [] 1 (aB rfl (vv 3)) (fun hn _ _ _ _=>⟨(c7 hn),aJ,(dG (Z5 hu1 (vv 0) dN))⟩))) (cQ (bQ ["_law_rows_here","_law_k"] [3] 1 (YM (by rfl) T.n_range (vv 1)) (fun hn _ _ _ _=>⟨(c7 hn),aJ,(dG (aT (YQ (K:=K) rfl) ZY (Z5 hu1 (Z5 hu1 (vv 0) dN) dN) (vv 1)))⟩))) (bD _))
   (dI (c9 YR))
   cX))
   cX)
  ·exact(c9 (veq hu (cQ (bQ ["_law_some","_law_row_here"] [2] 1 (aB rfl (vv 3)) (fun hn _ _ _ _=>⟨(c7 hn),(WM (cH (RQ (K:=K) rfl hu) RW (cQ (bQ ["_law_some","_law_name"] [0] 1 (aB rfl (dG (cA cy hr (dH (vv 1) dE)))) (fun hn _ _ _ _=>⟨(c7 hn),(WM (cH (WR (K:=K) rfl hu) (ZW (neg:=false)) (vv 1) (vv 0) (by with_unfolding_all rfl))),(vv 1)⟩))) (cQ (a7 (cV dD))) (bD _))),(vv 1)⟩))) (cQ (a7 (cV dD)))))
noncomputable abbrev Nx34:List Str:=["_law_script","_law_town","_law_block_here","_law_broad","_law_due","_law_mask","_law_some"]
abbrev Qx34:List Str:=["_law_script"]
theorem R0:cW Nx34 Qx34 (dF (top 56)):=ZS
theorem zFN(F:W9 K "law" "law" (top 56) f fd) (T:Txt K mg) (i3:cM P w K mg base "is_plan" 7 Qx15 [] Y7 f_x15) (gw:cM P w K mg base "packs" 8 Qx18 [] V0 f_x18) (al:cM P w K mg base "_law_draw" 3 LF [1] cT f_x21) (gm:cM P w K mg base "_law_block" 8 Qx27 [1] aC f_x27) (gk:cM P w K mg base "_law_is_pack" 2 Qx31 [] aM f_x31):
  aW P w K mg base CX0 9 f fd Qx34 (spV K [] 1 ML):=
 VA P w K mg base Nx34 Qx34 8 zAW [] F R0 fun _ _ _ _ _ _ hr hu hu1=>by
  refine(dM ?_ (dM ?_ (dM ?_ (dM ?_ (dM ?_ (dI ?_))))))
  ·exact(bL R0.nd (VO (a7 (cV dD))))
  ·exact(zBE (i:=2) (j:=3) rfl rfl R0.nd rfl rfl (by decide) (Kz rfl) (Kz rfl) (aF (dG (cA gm hr (dH (vv 0) (bT (pv 1) (dH dN dE)))))) (aF (dG (aT (YQ (K:=K) rfl) ZY dN (cA al hr (dH (vv 0) (bT (pv 1) (dH dN dE))))))))
  ·exact(bL R0.nd (VO (a7 (cV dD))))
  ·exact (VN Ea rfl (YM (by rfl) T.n_range (ZE zFH zHV dN (Y2 T.n_len (Z5 hu1 (vv 2) dN)))) (c7 R0.nd)
   (dM (bL R0.nd (aF (dG (NT (UP (K:=K) rfl) UK (by rfl) T.n_tuple ZQ (cQ (bQ ["_law_mask","_law_row_here"] [5] 1 (YM (by rfl) T.n_range (Y2 T.n_len (Z5 hu1 (vv 2) dN))) (fun hn _ _ _ _=>⟨(c7 hn),(WM (WW hu (ZE zCG zEO (ZE zFG zHU (vv 0) (vv 1)) dN) dN)),(vv 1)⟩)))))))
   (dI (bY (UA (MI (WW hu (Y2 T.n_len (vv 6)) (vv 3)) (QL (ZU (cA gk hr (dH (vv 2) (dH (vv 3) (dH (vv 6) dE))))))))
   (dI (Y3 (K:=K) rfl Bm Bn bK YK (pv 4) (cV (dO (vv 6) dD))))
   cX))))
  ·exact (bY (cH (RQ (K := K) rfl hu) RW (cA gw hr (dH (vv 2) (dH (vv 3) dE))) (cQ (B9 (HH (K := K) rfl) LZ (by rfl) T.n_sorted RE (GL (vo 4)))) (bD _))
   (dI (c9 YR))
   cX)
  ·exact(c9 (veq hu (cQ (CB ["_law_block_here","_law_broad","_law_pack"] [2,3] 1 (B8 rfl (vo 4)) (fun hn _ _ _ _=>⟨(c7 hn),(WM (cH zCD zEN (cA i3 hr (dH (vv 0) (dH (vv 1) (dH (dG (b5 (dO (vv 2) dD))) dE)))) YR (bD _))),(vv 2)⟩))) (cQ (a7 (cV dD)))))
end
end RR
namespace L2
open PySem
theorem aY(a b:String):Aw a=Aw b↔a=b:=by
 refine⟨fun h=> ?_,fun h=>by rw[h]⟩;rw[Hv,Hv] at h;injection h with h;have h2:a.toList.map Od=b.toList.map Od:=by simpa using h
 have h3:a.toList=b.toList:=by
  have inj: ∀(l m:List Char),l.map Od=m.map Od->l=m:=by
   intro l;induction l with
   |nil=>intro m h;cases m with
    |nil=>rfl
    |cons=>cases h
   | cons c l ih => intro m h;cases m with
    |nil=>cases h
    |cons e m=>
     simp only[Ar,Et] at h;rw[ih m h.2,Char.toNat_inj.mp h.1]
  exact inj _ _ h2
 exact String.toList_inj.mp h3
theorem EI(a:String):Rm (Aw a)=true:=by
 unfold Rm;rw[Hv];simp only[List.all_toArray,Rl,Ei,Ir,decide_eq_true_eq];intro c _;have:=c.valid;rcases this with h|⟨_,h⟩
 ·show c.val.toNat<1114112
  have:c.val.toNat<55296:=h;lia
 ·exact h
def SF(k:Nat)(d:dP):Prop:=d.isD=true/\d.pd.canLay0=true/\d.pd.depth<=k
theorem ZN{k:Nat}{i:Int}:SF k (.int i):=⟨rfl,rfl,Dd _⟩
theorem zA3{k:Nat}{i:Bool}:SF k (.bl i):=⟨rfl,rfl,Dd _⟩
theorem ZO{k:Nat}{a:String}:SF k (.str (Aw a)):=⟨rfl,by simp[dP.pd,Fz,EI],Dd _⟩
theorem L3{k:Nat}: ∀{ds:List dP},(∀d∈ds,SF k d)->JO ds=true/\Ia (CV ds)=true/\Es (CV ds)<=k
 |[],_=>⟨rfl,rfl,Dd _⟩
 |d::ds,h=>by
  obtain⟨a1,a2,a3⟩:=h d Ai;obtain⟨b1,b2,b3⟩:=L3 fun e he=>h e (Ah _ he);refine⟨by simp[JO,a1,b1],by simp[CV,Ia,a2,b2],?_⟩;simp only[CV,Es];lia
theorem WG{k:Nat}{ds:List dP}(h: ∀d∈ds,SF k d):SF (k+1) (.tup ds):=by
 obtain⟨a,b,c⟩:=L3 h;exact⟨by simpa[dP.isD] using a,by simpa[dP.pd,Fz] using b,by simp only[dP.pd,Ii];lia⟩
theorem aZ{k:Nat}{ds:List dP}(h: ∀d∈ds,SF k d):SF (k+1) (.lst ds):=by
 obtain⟨a,b,c⟩:=L3 h;exact⟨by simpa[dP.isD] using a,by simpa[dP.pd,Fz] using b,by simp only[dP.pd,Ii];lia⟩
theorem SF.ok{k:Nat}{d:dP}(h:SF k d)(hk:k<=64:=by decide):ND d=true:=by
 unfold ND Eg;simp only[h.1,h.2.1,Rf,Ae,decide_eq_true_eq];have:=h.2.2;lia
@[simp] theorem zK8{a:String}:ND (.str (Aw a))=true:=(ZO (k:=0)).ok
theorem aA{k:Nat}: ∀d∈([]:List dP),SF k d:=fun _ h=>nomatch h
theorem bS{k:Nat}{d:dP}{ds:List dP}(h:SF k d)(t: ∀d∈ds,SF k d): ∀e∈d::ds,SF k e:=fun e he=>by
 rcases Al.mp he with z|z
 ·rw[z];exact h
 ·exact t e z
@[simp] theorem zB1{i j:Int}:HB (.int i) (.int j)=decide (i=j):=by show(i==j)=_;rw[Lw]
@[simp] theorem zN1{a b:String}:HB (.str (Aw a)) (.str (Aw b))=decide (a=b):=by
 show(Aw a==Aw b)=_;rw[Lw];simp only[aY]
@[simp] theorem zMI{i j:Int}:YC (.int i) (.int j)=some (.bl (decide (i=j))):=by unfold YC;simp
@[simp] theorem zM4{i j:Int}:TJ (.int i) (.int j)=some (.bl (!decide (i=j))):=by unfold TJ;simp
@[simp] theorem zMH{a b:String}:YC (.str (Aw a)) (.str (Aw b))=some (.bl (decide (a=b))):=by unfold YC;simp
@[simp] theorem zM3{a b:String}:TJ (.str (Aw a)) (.str (Aw b))=some (.bl (!decide (a=b))):=by unfold TJ;simp
theorem zA6{j k:Nat}{d e:dP}(h:SF j d)(h':SF k e)(hj:j<=64:=by decide)(hk:k<=64:=by decide):YC d e=some (.bl (HB d e)):=by
 unfold YC;rw[h.ok hj,h'.ok hk];rfl
theorem NB{j k:Nat}{d e:dP}(h:SF j d)(h':SF k e)(hj:j<=64:=by decide)(hk:k<=64:=by decide):TJ d e=some (.bl (!HB d e)):=by
 unfold TJ;rw[h.ok hj,h'.ok hk];rfl
theorem J4{j k:Nat}{neg:Bool}{d:dP}{ds:List dP}(h:SF j d)(h': ∀e∈ds,SF k e)(hj:j<=64:=by decide)(hk:k+1<=64:=by decide):bE neg d (.tup ds)=some (.bl (if neg then !QS d ds else QS d ds)):=by
 unfold bE;simp[h.ok hj,(WG h').ok hk]
theorem L0{j k:Nat}{neg:Bool}{d:dP}{ds:List dP}(h:SF j d)(h': ∀e∈ds,SF k e)(hj:j<=64:=by decide)(hk:k+1<=64:=by decide):bE neg d (.lst ds)=some (.bl (if neg then !QS d ds else QS d ds)):=by
 unfold bE;simp[h.ok hj,(aZ h').ok hk]
@[simp] theorem zOE{d:dP}:QS d []=false:=(rfl)
@[simp] theorem zAQ{d e:dP}{ds:List dP}:QS d (e::ds)=(HB e d || QS d ds):=(rfl)
@[simp] theorem FD{neg:Bool}{a b c:String}:bE neg (.str (Aw a)) (.tup [.str (Aw b),.str (Aw c)])=some (.bl (if neg then !(decide (b=a) || decide (c=a)) else decide (b=a) || decide (c=a))):=by
 rw[J4 (j:=0) ZO (bS (ZO (k:=0)) (bS ZO aA))];simp
@[simp] theorem zDR{neg:Bool}{a b c d e:String}:bE neg (.str (Aw a)) (.tup [.str (Aw b),.str (Aw c),.str (Aw d),.str (Aw e)])=some (.bl (if neg then !(decide (b=a) || (decide (c=a) || (decide (d=a) || decide (e=a)))) else decide (b=a) || (decide (c=a) || (decide (d=a) || decide (e=a))))):=by
 rw[J4 (j:=0) ZO (bS (ZO (k:=0)) (bS ZO (bS ZO (bS ZO aA))))];simp
@[simp] theorem zOD{neg:Bool}{a b c:Int}:bE neg (.int a) (.tup [.int b,.int c])=some (.bl (if neg then !(decide (b=a) || decide (c=a)) else decide (b=a) || decide (c=a))):=by
 rw[J4 (j:=0) ZN (bS (ZN (k:=0)) (bS ZN aA))];simp
theorem JK{k:Nat}{d:dP}(h:SF k d):HB d d=true:=PySem.SeqAt.eqv_refl _ h.2.1
def X0(ns:List Int):dP:= .lst (ns.map .int)
def YG(n:Nat):dP:= .lst (Bi n (.int 0))
theorem M4: ∀ns:List Int,JO (ns.map dP.int)=true
 |[]=>rfl
 |n::ns=>by simp[JO,dP.isD,M4 ns]
theorem J7: ∀ns:List Int,CV (ns.map dP.int)=ns.map Nx
 |[]=>rfl
 |n::ns=>by simp[CV,dP.pd,J7 ns]
theorem zA4(ns:List Int):ND (.lst (ns.map .int))=true:=by
 unfold ND;simp only[dP.isD,M4,dP.pd,J7,Rf];exact KQ ns
theorem TK(ns:List Int):YC (.lst (ns.map .int)) (.lst [])=some (.bl ns.isEmpty):=by
 unfold YC;rw[zA4,show ND (.lst [])=true from by decide+kernel];cases ns<;>rfl
theorem M3: ∀n:Nat,U7 (Bi n (.int 0))=true
 |0=>rfl
 |n+1=>by simp[List.replicate_succ,U7,dP.hard,M3 n]
@[simp] theorem zJ2(n:Nat):U8 (YG n)=true:=M3 n
theorem MU: ∀(ds:List dP) (a b:dP) (r:Int) (s:Sl),∃r' s',XW (gN 3) (aV 2 (xV (f2 FT (fV 2) (fC (.int 1000003))))) ds [.va a,.va b,.va (.int r),s]=some (.nx [.va a,.va b,.va (.int r'),s'])
 |[],a,b,r,s=>⟨r,s,rfl⟩
 |d::ds,a,b,r,s=>by
  obtain⟨r',s',h⟩:=MU ds a b (r/1000003) (.va d);exact⟨r',s',by simp[cDiv,h]⟩
theorem QF{ns:List Int}{i:Int}(h0:0<=i)(h1:i<ns.length): ∃r∈ns,V1 (ns.map dP.int) i=some (.int r):=by
 obtain⟨x,hx,e⟩:=G0 (xs:=ns.map dP.int) h0 (by simpa using h1);obtain⟨r,hr,rfl⟩:=Bd.mp hx;exact⟨r,hr,e⟩
theorem zD1(ns:List Int)(k:Nat)(hl:ns.length<=63)(hk:k<1000000): ∃r,aX [X0 ns,.int k]=some (.int r,[]):=by
 unfold aX;rw[cR];unfold W1 VW X0;by_cases h:(k:Int)<ns.length
 ·obtain ⟨r,_,e⟩ := QF (ns := ns) (i := k) (by lia) h
  exact⟨r,by simp[cI,h,e]⟩
 ·cases ns with
  |nil=>
   have h0: ¬((k:Int)<0):=by lia
   have e:YC (.lst []) (.lst [])=some (.bl true):=TK [];exact⟨0,by simp[cI,h0,e]⟩
  |cons m ms=>
   generalize hns:m::ms=ns at*;have dw:(0:Int)<ns.length:=by rw[<- hns];simp
   have hb:=Hq (k:Int) (show(ns.length:Int)≠0 by lia);have hb2:=Eb (k:Int) dw;obtain⟨r,_,e⟩:=QF (ns:=ns) hb hb2;have he:ns.isEmpty=false:=by rw[<- hns];rfl
   have hq:0<=(k:Int)/ns.length:=Int.ediv_nonneg (by lia) (by lia);have hm: -4611686018427387904<=(if(60:Int)<(k:Int)/ns.length then 60 else(k:Int)/ns.length)/\(if(60:Int)<(k:Int)/ns.length then 60 else(k:Int)/ns.length)<4611686018427387904:=by split<;>lia
   obtain⟨r',s',e2⟩:=MU (bZ 0 (if(60:Int)<(k:Int)/ns.length then 60 else(k:Int)/ns.length).toNat) (.lst (ns.map .int)) (.int k) r .no;have hp2:0<ns.length:=by lia
   have hp3:(ns.length:Int)<1073741824:=by lia
   exact⟨r*31+k+r'*101,by simp[cI,h,TK,he,dw,hp2,hp3,e,cDiv,hm,e2,cMul]⟩
noncomputable def cel(ns:List Int)(k:Nat):Int:=match aX [X0 ns,.int k] with
 |some (.int r,_)=>r
 |_=>0
theorem zGY(ns:List Int)(k:Nat)(hl:ns.length<=63)(hk:k<1000000):aX [X0 ns,.int k]=some (.int (cel ns k),[]):=by
 obtain⟨r,e⟩:=zD1 ns k hl hk;unfold cel;rw[e]
noncomputable def N5(ns:List Int)(n:Nat)(b:Int):Int:=((cel ns (n+1)*1103515245+7919*(((n+1:Nat)):Int)+12345) % 2147483647) ^ 5 % 2147483647 % 999983 % b
theorem Q0(ns:List Int)(n:Nat){b:Int}(h:0<b):0<=N5 ns n b:=Hq _ (by lia)
theorem E8(ns:List Int)(n:Nat){b:Int}(h:0<b):N5 ns n b<b:=Eb _ h
theorem zGF(ns:List Int)(n:Nat)(b:Int)(hl:ns.length<=63)(hn:n<900000)(hb:0<b):Y8 [X0 ns,.int ((n+1:Nat):Int),.int b]=some (.int (N5 ns n b),[]):=by
 have e:=zGY ns (n+1) hl (by lia);unfold Y8;rw[cR];unfold U5 N5;have e1:=Hq (cel ns (n+1)*1103515245+7919*((n+1:Nat):Int)+12345) (show(2147483647:Int)≠0 by decide);have e2:=Eb (cel ns (n+1)*1103515245+7919*((n+1:Nat):Int)+12345) (show(0:Int)<2147483647 by decide);generalize hz:(cel ns (n+1)*1103515245+7919*((n+1:Nat):Int)+12345) % 2147483647=z at*;have hz2:z.natAbs<18446744073709551616:=by lia
 generalize hk:((n+1:Nat):Int)=k at*;simp[cI,e,cMul,G1,hz,hz2,hb]
theorem YA(ns:List Int)(n:Nat)(b:Int)(hl:ns.length<=63)(hn:n<900000)(hb:0<b):cT [X0 ns,YG n,.int b]=some (.int (N5 ns n b),[YG (n+1)]):=by
 have e:=zGF ns n b hl hn hb;unfold cT;rw[cR];unfold TR;have ht:YG n= .lst (Bi n (.int 0)):=rfl;have ht2:YG (n+1)= .lst (Bi n (.int 0)++[.int 0]):=by unfold YG;rw[List.replicate_succ']
 rw[ht2,ht];have hs:n<16777216:=by lia
 push_cast at e
 simp[cI,hs,e]
theorem WH(ns:List Int)(n:Nat)(xs:List dP)(hl:ns.length<=63)(hn:n<900000)(hx:0<xs.length): ∃x∈xs,cC [X0 ns,YG n,.lst xs]=some (x,[YG (n+1)]):=by
 have hx':(0:Int)<xs.length:=by lia
 obtain⟨x,hm,e⟩:=G0 (xs:=xs) (Q0 ns n hx') (E8 ns n hx');refine⟨x,hm,?_⟩;unfold cC;rw[cR];unfold TW;simp[cI,YA ns n _ hl hn hx',e]
theorem E7(ns:List Int)(n:Nat)(b:Int)(hl:ns.length<=63)(hn:n<900000)(hb:0<b)(tl:Ev):dC 3 [1] cT (aE (fV 0) (aO 1 (aE (fC (.int b)) cN))) (.va (X0 ns):: .ow (YG n)::tl)=some (.int (N5 ns n b),.va (X0 ns):: .ow (YG (n+1))::tl):=by simp[YA ns n b hl hn hb]
abbrev Sn(m:Nat)(d:dP):Prop:= ∃(ks:List b9) (vs:List Int),d= .dct ks (vs.map .int)/\ks.length=vs.length/\ks.Nodup/\ks.length<=m
abbrev OB(n:Nat)(d:dP):Prop:=Sn (8*n) d
theorem OB.mono{n m:Nat}{d:dP}(h:OB n d)(hn:n<=m):OB m d:=by
 obtain⟨ks,vs,h1,h2,h3,h4⟩:=h;exact⟨ks,vs,h1,h2,h3,by lia⟩
theorem zDO: ∀(ks:List b9) (vs:List Int) (k:b9) (q:Int),∃r,(bX ks (vs.map .int) k).getD (.int q)= .int r
 |[],_,_,q=>⟨q,by simp[bX]⟩
 |_::_,[],_,q=>⟨q,by simp[bX]⟩
 | k' :: ks,v :: vs,k,q => by
  by_cases h:k'=k
  ·exact⟨v,by simp[bX,h]⟩
  ·obtain⟨r,e⟩:=zDO ks vs k q
   exact⟨r,by simp only[Ar,bX,if_neg h];exact e⟩
theorem putI: ∀(ks:List b9) (vs:List Int) (k:b9) (p:Int),ks.length=vs.length->ks.Nodup-> ∃(ks':List b9) (vs':List Int),Y0 ks (vs.map .int) k (.int p)=(ks',vs'.map .int)/\ks'.length=vs'.length/\ks'.Nodup/\ks'.length<=ks.length+1/\(∀z∈ks',z=k∨z∈ks)/\bX ks' (vs'.map .int) k=some (.int p)
 |[],[],k,p,_,_=>⟨[k],[p],by simp[Y0],rfl,by simp,by simp,by simp,by simp[bX]⟩
 | k' :: ks,v :: vs,k,p,hl,hn => by
  by_cases h:k'=k
  ·subst h
   exact⟨k'::ks,p::vs,by simp[Y0],by simpa using hl,hn,by simp,by simp,by simp[bX]⟩
  ·obtain ⟨ks',vs',e,h1,h2,h3,h4,h5⟩ := putI ks vs k p (by simpa using hl) (Cq.mp hn).2
   refine⟨k'::ks',v::vs',by simp only[Ar,Y0,if_neg h,e],by simp[h1],?_,by simp;lia,?_,by simp only[Ar,bX,if_neg h];exact h5⟩
   ·refine Cq.mpr ⟨fun z => ?_,h2⟩
    rcases h4 _ z with y|y
    ·exact h y
    ·exact(Cq.mp hn).1 y
   ·intro z hz
    rcases Al.mp hz with y|y
    ·exact .inr (by rw[y];exact Ai)
    ·exact(h4 z y).imp id (Ah _)
theorem KA(ns:List Int)(n:Nat)(sn:dP)(x:Str)(ab:Int)(hl:ns.length<=63)(hn:n<800000)(hs:OB n sn)(hr:0<ab):
  ∃p sn',0<=p/\p<ab/\OB (n+2) sn'/\bC [X0 ns,YG n,sn,.str x,.int ab]=some (.int p,[YG (n+2),sn']):=by
 obtain⟨ks,vs,rfl,h1,h2,h3⟩:=hs;obtain⟨a,ha⟩:=zDO ks vs (.inr x) (N5 ns n ab);obtain⟨y,hy,ey⟩:=WH ns (n+1) [.int 1,.int 1,.int 1,.int 0,.int 3] hl (by lia) (by simp);obtain⟨b,rfl⟩: ∃b,y= .int b:=by
  simp only[Al,Bg,or_false] at hy;rcases hy with h|h|h|h|h<;>exact⟨_,h⟩
 obtain⟨ks',vs',e,h4,h5,h6,h7,h8⟩:=putI ks vs (.inr x) ((a+b) % ab) h1 h2;refine⟨(a+b) % ab,.dct ks' (vs'.map .int),Hq _ (by lia),Eb _ hr,⟨ks',vs',rfl,h4,h5,by lia⟩,?_⟩;have hk:ks.length<16777216:=by lia
 unfold bC;rw[cR];unfold U6;simp[cI,YA ns n ab hl (by lia) hr,ha,ey,hr,hk,h2,e,h8]
inductive a0(M:Int->Prop):dP->Prop
 |number {n:Int}:0<=n->n<=999->a0 M (.tup [.str "number",.int n])
 |two {x:String} {a b:Int}:x∈["over","plus","minus","times","least","most","less"]->M a->M b->a0 M (.tup [.str x,.int a,.int b])
 |pick {c a b:Int}:M c->M a->M b->a0 M (.tup [.str "pick",.int c,.int a,.int b])
 |load {p:Int}:0<=p->p<=63->a0 M (.tup [.str "load",.int p])
 |take {p c a:Int}:0<=p->p<=63->M c->M a->a0 M (.tup [.str "take",.int p,.int c,.int a])
 |store {p a:Int}:0<=p->p<=63->M a->a0 M (.tup [.str "store",.int p,.int a])
 |put {p a c:Int}:0<=p->p<=63->M a->M c->a0 M (.tup [.str "put",.int p,.int a,.int c])
theorem BY(ns:List Int)(n:Nat)(made:List Int)(hl:ns.length<=63)(hn:n<800000)(hm:0<made.length)(s:Sl): ∃a b c,a∈made/\b∈made/\c∈made∧
  aU 3 1 (gN 3) ZX (f2 cZ (fV 2) (f2 oMax (fC (.int 0)) (f2 PF (f2 PF (f1 aR (fV 2)) (fC (.int 1))) (dC 3 [1] cT (aE (fV 0) (aO 1 (aE (fC (.int 6)) cN))))))) [.int 0,.int 1,.int 2] [] [.va (X0 ns),.ow (YG n),.va (.lst (made.map .int))]=
   some ([.int a,.int b,.int c],[.va (X0 ns),.ow (YG (n+3)),.va (.lst (made.map .int))]):=by
 have one: ∀m,∃a∈made,V1 (made.map dP.int) (if(made.length:Int) - 1 - N5 ns m 6>0 then(made.length:Int) - 1 - N5 ns m 6 else 0)=some (.int a):=fun m=>by
  have:=Q0 ns m (b:=6) (by decide);exact QF (by split<;>lia) (by split<;>lia)
 obtain⟨a,ha,ea⟩:=one n;obtain⟨b,hb,eb⟩:=one (n+1);obtain⟨c,hc,ec⟩:=one (n+2);refine⟨a,b,c,ha,hb,hc,?_⟩;have d0:=YA ns n 6 hl (by lia) (by decide);have d1:=YA ns (n+1) 6 hl (by lia) (by decide);have d2:=YA ns (n+2) 6 hl (by lia) (by decide);simp only[gt_iff_lt,Int.sub_pos] at ea eb ec;simp[d0,d1,d2,ea,eb,ec]
def IW(x:String):Prop:=x= "load" ∨x= "take" ∨x= "store" ∨x= "put"
def PlOK(ab:Int)(row:dP):Prop:= ∀(x:String) (p:Int) (t:List dP),row= .tup (.str x:: .int p::t)->IW x->p<ab
theorem SX{ab p:Int}{x:String}{t:List dP}(h:p<ab):PlOK ab (.tup (.str x:: .int p::t)):=fun y q u e _=>by
 simp only[dP.tup.injEq,Et,dP.int.injEq] at e;lia
theorem HU{ab:Int}{x:String}{t:List dP}(h: ¬IW x):PlOK ab (.tup (.str x::t)):=fun y q u e hy=>by
 simp only[dP.tup.injEq,Et,dP.str.injEq,aY] at e;rw[<- e.1] at hy;exact absurd hy h
theorem GJ{x:String}(hx:x∈["over","plus","minus","times","least","most","less"]): ¬IW x:=fun h=>by
 simp only[Al,Bg,or_false] at hx;rcases hx with rfl|rfl|rfl|rfl|rfl|rfl|rfl<;>rcases h with h|h|h|h<;>exact absurd h (by decide)
theorem WL{s1 s2:VS}{δ δ1:Ev}(h:s1 δ=some (.nx δ1)):cU s1 s2 δ=s2 δ1:=by rw[BF,h,qS_n]
theorem zET(ns:List Int)(n:Nat)(made:List Int)(sn:dP)(ab:Int)(hl:ns.length<=63)(hn:n<700000)(hs:OB n sn)(hr:0<ab)(hr2:ab<=64):
    ∃row n' sn',n<=n'/\n'<=n+10/\OB n' sn'/\a0 (· ∈made) row/\PlOK ab row/\XI [X0 ns,YG n,.lst (made.map .int),sn,.int ab]=some (row,[YG n',sn']):=by
  have d0:=E7 ns n 13 hl (by lia) (by decide);have k0:=Q0 ns n (b:=13) (by decide);have k1:=E8 ns n (b:=13) (by decide);generalize N5 ns n 13=kd at*;unfold XI;rw[cR];unfold RO;by_cases h0:made.isEmpty=true∨kd=0
  · have d1 := E7 ns (n + 1) 2 hl (by lia) (by decide)
    have hor:made.isEmpty=true∨(made.isEmpty=false/\kd=0):=by
      cases hm:made.isEmpty with
      |true=>exact .inl rfl
      | false => rcases h0 with h | h
                 · rw[hm] at h;cases h
                 · exact .inr ⟨rfl,h⟩
    by_cases h2:N5 ns (n+1) 2=0
    · have d2 := E7 ns (n + 2) 1000 hl (by lia) (by decide)
      obtain⟨y,hy,ey⟩:=WH ns (n+3) [.int 0,.int 1,.int 2,.int 5,.int 999,.int (N5 ns (n+2) 1000)] hl (by lia) (by simp);obtain⟨b,rfl,hb0,hb1⟩: ∃b,y= .int b/\0<=b/\b<=999:=by
        have:=Q0 ns (n+2) (b:=1000) (by decide);have:=E8 ns (n+2) (b:=1000) (by decide);simp only[Al,Bg,or_false] at hy;rcases hy with h|h|h|h|h|h<;>exact⟨_,h,by lia,by lia⟩
      refine⟨.tup [.str "number",.int b],n+4,sn,by lia,by lia,hs.mono (by lia),.number hb0 hb1,HU (by unfold IW;decide),?_⟩;rcases hor with h|⟨h,h'⟩
      · simp[cI,↓d0,TK,h,↓d1,h2,↓d2,ey]
      · simp[cI,↓d0,TK,h,h',↓d1,h2,↓d2,ey]
    · obtain ⟨p,sn',p0,p1,hs',ep⟩ := KA ns (n + 2) sn "load" ab hl (by lia) (hs.mono (by lia)) hr
      refine⟨.tup [.str "load",.int p],n+4,sn',by lia,by lia,hs',.load p0 (by lia),SX p1,?_⟩;rcases hor with h|⟨h,h'⟩
      · simp[cI,↓d0,TK,h,↓d1,h2,ep]
      · simp[cI,↓d0,TK,h,h',↓d1,h2,ep]
  · obtain⟨hm,hkd⟩:=not_or.mp h0
    have hm':made.isEmpty=false:=by simpa using hm
    have dw:0<made.length:=by
      cases made with
      |nil=>cases hm'
      |cons=>simp
    obtain⟨a,b,c,ha,hb,hc,e3⟩:=BY ns (n+1) made hl (by lia) dw .no;rw[show cI [1,3] 9 [X0 ns,YG n,.lst (made.map .int),sn,.int ab]=[.va (X0 ns),.ow (YG n),.va (.lst (made.map .int)),.ow sn,.va (.int ab),.no,.no,.no,.no] from rfl,
      WL (δ1:=[.va (X0 ns),.ow (YG (n+1)),.va (.lst (made.map .int)),.ow sn,.va (.int ab),.va (.int kd),.no,.no,.no]) (by simp[↓d0]),
      WL (δ1:=[.va (X0 ns),.ow (YG (n+1)),.va (.lst (made.map .int)),.ow sn,.va (.int ab),.va (.int kd),.no,.no,.no]) (by simp[TK,hm',hkd]),
      WL (δ1:=[.va (X0 ns),.ow (YG (n+4)),.va (.lst (made.map .int)),.ow sn,.va (.int ab),.va (.int kd),.va (.int a),.va (.int b),.va (.int c)]) (by simp[cF,e3])]
    have lx:(kd=1∨kd=2)∨kd=3∨(kd=4∨kd=5)∨kd=6∨kd=7∨(8<=kd/\kd<=12):=by lia
    have pl: ∀x:Str,∃p sn',0<=p/\p<=63/\p<ab/\OB (n+6) sn'/\ ∀s tl,dC 5 [1,2] bC (aE (fV 0) (aO 1 (aO 3 (aE (fC (.str x)) (aE (fV 4) cN))))) (.va (X0 ns):: .ow (YG (n+4))::s:: .ow sn:: .va (.int ab)::tl)=some (.int p,.va (X0 ns):: .ow (YG (n+6))::s:: .ow sn':: .va (.int ab)::tl):=fun x=>by
      obtain⟨p,sn',p0,p1,hs',ep⟩:=KA ns (n+4) sn x ab hl (by lia) (hs.mono (by lia)) hr;exact⟨p,sn',p0,by lia,p1,hs',fun s tl=>by simp[ep]⟩
    rcases lx with h|h|h|h|h|h
    · have t12 : (decide (1 = kd) || decide (2 = kd)) = true := by rcases h with rfl | rfl <;> decide
      obtain⟨p,sn',p0,p1,p2,hs',ep⟩:=pl "load";exact⟨.tup [.str "load",.int p],n+6,sn',by lia,by lia,hs',.load p0 p1,SX p2,by simp[↓ep,t12]⟩
    · subst h
      obtain⟨p,sn',p0,p1,p2,hs',ep⟩:=pl "take";exact⟨.tup [.str "take",.int p,.int c,.int a],n+6,sn',by lia,by lia,hs',.take p0 p1 hc ha,SX p2,by simp[↓ep]⟩
    · have t45 : (decide (4 = kd) || decide (5 = kd)) = true := by rcases h with rfl | rfl <;> decide
      have n3: ¬kd=3:=by lia
      have m1: ¬1=kd:=by lia
      have m2: ¬2=kd:=by lia
      obtain⟨p,sn',p0,p1,p2,hs',ep⟩:=pl "store";exact⟨.tup [.str "store",.int p,.int a],n+6,sn',by lia,by lia,hs',.store p0 p1 ha,SX p2,by simp[↓ep,n3,m1,m2,t45]⟩
    · subst h
      obtain⟨p,sn',p0,p1,p2,hs',ep⟩:=pl "put";exact⟨.tup [.str "put",.int p,.int a,.int c],n+6,sn',by lia,by lia,hs',.put p0 p1 ha hc,SX p2,by simp[↓ep]⟩
    · subst h
      exact⟨.tup [.str "pick",.int c,.int a,.int b],n+4,sn,by lia,by lia,hs.mono (by lia),.pick hc ha hb,HU (by unfold IW;decide),by simp⟩
    · have d4 := E7 ns (n + 4) 7 hl (by lia) (by decide)
      have q0:=Q0 ns (n+4) (b:=7) (by decide);have q1:=E8 ns (n+4) (b:=7) (by decide);obtain⟨y,hy,ey⟩:=G0 (xs:=["over","plus","minus","times","least","most","less"].map fun s:String=>dP.str (Aw s)) q0 (by simpa using q1);obtain⟨x,hx,rfl⟩:=Bd.mp hy;simp only[Ar,Dj] at ey;have n1: ¬kd=1:=by lia
      have n2: ¬kd=2:=by lia
      have n3: ¬kd=3:=by lia
      have n4: ¬kd=4:=by lia
      have n5: ¬kd=5:=by lia
      have n6: ¬kd=6:=by lia
      have n7: ¬kd=7:=by lia
      have m1: ¬1=kd:=by lia
      have m2: ¬2=kd:=by lia
      have m4: ¬4=kd:=by lia
      have m5: ¬5=kd:=by lia
      exact⟨.tup [.str x,.int a,.int b],n+5,sn,by lia,by lia,hs.mono (by lia),.two hx ha hb,HU (GJ hx),by simp[n3,n6,n7,m1,m2,m4,m5,↓d4,ey]⟩
inductive Kd where
 |w|p|n
 deriving DecidableEq
def Nm(kds:List Kd)(k:Kd)(a:Int):Prop:=0<=a/\kds[a.toNat]? =some k
theorem Nm.lt{kds:List Kd}{k:Kd}{a:Int}(h:Nm kds k a):a<kds.length:=by
 have:=(Ag.mp h.2).1;have:=h.1;lia
theorem Nm.snoc{kds:List Kd}{k j:Kd}{a:Int}(h:Nm kds k a):Nm (kds++[j]) k a:=⟨h.1,by rw[Ap (Ag.mp h.2).1];exact h.2⟩
theorem Nm.new{kds:List Kd}{k:Kd}:Nm (kds++[k]) k kds.length:=⟨by lia,by simp⟩
noncomputable def QI(k:Kd):dP->Kd
 | .tup (.str x::_)=>if x= "store" ∨x= "put" then .n else k
 |_=> .n
theorem a0.imp{M M':Int->Prop}{row:dP}(h:a0 M row)(f: ∀a,M a->M' a):a0 M' row:=by
 cases h with
 |number a b=>exact .number a b
 |two a b c=>exact .two a (f _ b) (f _ c)
 |pick a b c=>exact .pick (f _ a) (f _ b) (f _ c)
 |load a b=>exact .load a b
 |take a b c d=>exact .take a b (f _ c) (f _ d)
 |store a b c=>exact .store a b (f _ c)
 |put a b c d=>exact .put a b (f _ c) (f _ d)
theorem a0.hard{M:Int->Prop}{row:dP}(h:a0 M row):row.hard=true:=by
 cases h<;>simp[dP.hard,U7]
@[simp] theorem zM2{i:Int}:PD (.int i)=some (.int (-i)):=(rfl)
theorem UL{ds:List dP}{k:Nat}(h:k<=ds.length):XE ds (some (k:Int)) none=ds.drop k:=by
 unfold XE;rw[HT.GA,HT.KM,Qj h,Ca (by simp)]
theorem SN{ds:List dP}{k:Nat}:XE ds none (some (k:Int))=ds.take k:=by
 unfold XE;rw[HT.GA,HT.KM];simp only[Jv,Nat.sub_zero];by_cases h:k<=ds.length
 ·rw[Qj h]
 ·rw[Nat.min_eq_right (by lia),Ca (by lia),Ca (by lia)]
@[simp] theorem zN3{d:dP}{ds:List dP}:XE (d::ds) (some 1) none=ds:=UL (k:=1) (by simp)
@[simp] theorem zN2{d e:dP}{ds:List dP}:XE (d::e::ds) (some 2) none=ds:=UL (k:=2) (by simp)
@[simp] theorem zKL{ds:List dP}:XE ds none (some 2)=ds.take 2:=SN (k:=2)
@[simp] theorem zKM{ds:List dP}:XE ds none (some 1)=ds.take 1:=SN (k:=1)
@[simp] theorem zKS{α:Type}{xs:List α}{x:α}:V1 (xs++[x]) (-1)=some x:=by
 unfold V1 ixN;rw[if_neg (by decide),if_pos (by simp;lia)];have e:(-1+((xs++[x]).length:Int)).toNat=xs.length:=by simp;lia
 show(xs++[x])[(-1+((xs++[x]).length:Int)).toNat]? =some x;rw[e];simp
@[simp] theorem zOO{α:Type}{x:α}{xs:List α}:V1 (x::xs) 0=some x:=by rw[XD (by decide) (by simp)];rfl
@[simp] theorem zON{α:Type}{x y:α}{xs:List α}:V1 (x::y::xs) 1=some y:=by rw[XD (by decide) (by simp;lia)];rfl
@[simp] theorem zOM{α:Type}{x y z:α}{xs:List α}:V1 (x::y::z::xs) 2=some z:=by rw[XD (by decide) (by simp;lia)];rfl
theorem zJ1{k:Kd}{x:String}{t:List dP}(hx:x∉["store","put"]):QI k (.tup (.str x::t))=k:=by
 simp only[Al,Bg,or_false,not_or] at hx;simp[QI,aY,hx]
theorem zJ0{k:Kd}{x:String}{t:List dP}(hx:x= "store" ∨x= "put"):QI k (.tup (.str x::t))= .n:=by
 rcases hx with rfl|rfl<;>simp[QI,aY]
theorem SZ{M:Int->Prop}{row:dP}(h:a0 M row): ∃(x:String) (t:List dP),row= .tup (.str x::t)/\x∉["wide","gather","shuffle"]:=by
 cases h with
 |two hx _ _=>
  simp only[Al,Bg,or_false] at hx;rcases hx with rfl|rfl|rfl|rfl|rfl|rfl|rfl<;>exact⟨_,_,rfl,by decide⟩
 |_=>exact⟨_,_,rfl,by decide⟩
@[simp] theorem zHB(n lo hi:Int):b8 [.int n,.int lo,.int hi]=some (.bl (decide (lo<=n) && decide (n<=hi)),[]):=by
 unfold b8;rw[cR];unfold TQ;simp[cI];by_cases h:lo<=n<;>simp[h]
theorem D6{x:String}(h:x∈["over","plus","minus","times","least","most","less"]):bH [.str x]=some (.tup [.str "row",.str "row"],[]):=by
 simp only[Al,Bg,or_false] at h;rcases h with rfl|rfl|rfl|rfl|rfl|rfl|rfl<;>kernel_rfl
@[simp] theorem zK7:bH [.str "number"]=some (.tup [.str "word"],[]):=by kernel_rfl
@[simp] theorem zK6:bH [.str "pick"]=some (.tup [.str "row",.str "row",.str "row"],[]):=by kernel_rfl
@[simp] theorem zK5:bH [.str "load"]=some (.tup [.str "place"],[]):=by kernel_rfl
@[simp] theorem zK4:bH [.str "take"]=some (.tup [.str "place",.str "row",.str "row"],[]):=by kernel_rfl
@[simp] theorem zK3:bH [.str "store"]=some (.tup [.str "place",.str "row"],[]):=by kernel_rfl
@[simp] theorem zK2:bH [.str "put"]=some (.tup [.str "place",.str "row",.str "row"],[]):=by kernel_rfl
def Ab(able:List Bool)(a:Int):Prop:=0<=a/\able[a.toNat]? =some true
theorem zGG{able:List Bool}{a:Int}(h:Ab able a):YF [.int a,.lst (able.map .bl)]=some (.bl true,[]):=by
 have hlt:=(Ag.mp h.2).1;have h0:=h.1;have h1:a<=(able.length:Int) - 1:=by lia
 have h2:V1 (able.map dP.bl) a=some (.bl true):=by
  rw[XD h0 (by simp;lia)];simp[h.2]
 unfold YF;rw[cR];unfold TZ;simp[cI,h0,h1,h2]
theorem ZD{able:List Bool}{a:Int}(h:Ab able a):WY [.str "row",.int a,.lst (able.map .bl)]=some (.bl true,[]):=by
 unfold WY;rw[cR];unfold OM;simp[cI,zGG h]
theorem DM{d:dP}{a:Int}(h:0<=a)(h':a<=999):WY [.str "word",.int a,d]=some (.bl true,[]):=by
 unfold WY;rw[cR];unfold OM;simp[cI,UY,h,h']
theorem V5{d:dP}{a:Int}(h:0<=a)(h':a<=63):WY [.str "place",.int a,d]=some (.bl true,[]):=by
 unfold WY;rw[cR];unfold OM;simp[cI,V2,h,h']
@[simp] theorem zN4:OC []=some []:=(rfl)
@[simp] theorem zH5{b:Bool}{ds:List dP}:OC (.bl b::ds)=(OC ds).map fun ks=>b::ks:=(rfl)
@[simp] theorem FR{g:List Bool->Bool}{ds:List dP}:J3 g (.lst ds)=(OC ds).map fun ks=> .bl (g ks):=(rfl)
@[simp] theorem zKZ{es:List dP}:YO [] es=[]:=(rfl)
@[simp] theorem zJV{ds:List dP}:YO ds []=[]:=by cases ds<;>rfl
@[simp] theorem zL0{d e:dP}{ds es:List dP}:YO (d::ds) (e::es)= .tup [d,e]::YO ds es:=(rfl)
theorem zAL{able:List Bool}{row:dP}(h:a0 (Ab able) row):WP [row,.lst (able.map .bl)]=some (.bl true,[]):=by
 unfold WP;rw[cR];unfold ON;cases h with
 |number a b=>simp[cI,cF,DM a b]
 |two hx a b=>simp[cI,cF,D6 hx,ZD a,ZD b]
 |pick a b c=>simp[cI,cF,ZD a,ZD b,ZD c]
 |load a b=>simp[cI,cF,V5 a b]
 |take a b c d=>simp[cI,cF,V5 a b,ZD c,ZD d]
 |store a b c=>simp[cI,cF,V5 a b,ZD c]
 |put a b c d=>simp[cI,cF,V5 a b,ZD c,ZD d]
theorem YW(nn:Nat)(fe:VF)(δ:Ev)(f:dP->dP)(hδ:δ.length=nn): ∀(ds acc:List dP),(∀d∈ds,fe (δ++[Sl.va d])=some (f d,δ++[Sl.va d]))->acc.length+ds.length<16777216->aU nn 1 (gN nn) ZX fe ds acc δ=some (acc++ds.map f,δ)
 |[],acc,_,_=>by simp
 | d :: ds,acc,h,hl => by
  have du:(δ++[Sl.no]).set nn (.va d)=δ++[Sl.va d]:=by
   rw[Gj _ _ (by lia)];simp[hδ]
  have ay:(δ++[Sl.va d]).take nn=δ:=by rw[Cs (by lia),Ca (by lia)]
  have aq:acc.length<16777216:=by simp at hl;lia
  have ih:=YW nn fe δ f hδ ds (acc++[f d]) (fun e he=>h e (Ah _ he)) (by simp at hl⊢;lia);simp only[SM,zA7,OL,du,KG,LH,AZ,h d Ai,A0,if_pos aq,ay,ih];simp
theorem BA(k:Nat):(bZ 0 k).length=k:=by simp[bZ]
theorem JU: ∀(ks:List b9) (ws:List dP) (i:Nat) (k:b9),ks.Nodup->ks.length=ws.length->ks[i]? =some k->bX ks ws k=ws[i]?
 |[],_,i,k,_,_,e=>by simp at e
 |k'::ks,[],i,k,_,hl,_=>by simp at hl
 |k'::ks,w::ws,0,k,_,_,e=>by simp at e;simp[bX,e]
 |k'::ks,w::ws,i+1,k,nd,hl,e=>by
  have e':ks[i]? =some k:=by simpa using e
  have hne: ¬k'=k:=fun z=>(Cq.mp nd).1 (by rw[z];exact Ej e');have:=JU ks ws i k (Cq.mp nd).2 (by simpa using hl) e';simp[bX,hne,this]
noncomputable def cnt:dP->Nat
 | .tup (.str x::_)=>if x= "number" ∨x= "load" then 0 else if x= "store" then 1 else if x= "pick" then 3 else 2
 |_=>0
theorem dne{x:String}(hx:x∈["over","plus","minus","times","least","most","less"]) {y:String} (hy:(["over","plus","minus","times","least","most","less"].contains y)=false):(¬x=y)/\¬y=x:=by
 have h: ¬x=y:=fun e=>by
  subst e;rw[List.contains_iff_mem.mpr hx] at hy;cases hy
 exact⟨h,fun e=>h e.symm⟩
theorem O9{M:Int->Prop}{row:dP}(h:a0 M row): ∃as:List Int,(∀a∈as,M a)/\as.length=cnt row/\cB [row]=some (.lst (as.map .int),[])/\Z8 [row]=some (.lst (as.map .int),[]):=by
 cases h with
 | @number n _ _=>
  refine⟨[],(fun _ h=>nomatch h),by kernel_rfl,?_,?_⟩
  ·kernel_rfl
  ·kernel_rfl
 | @two x a b hx ha hb=>
  refine⟨[a,b],by simp[ha,hb],?_,?_,?_⟩
  ·simp only[Al,Bg,or_false] at hx
   rcases hx with rfl|rfl|rfl|rfl|rfl|rfl|rfl<;>kernel_rfl
  ·simp only[Al,Bg,or_false] at hx
   rcases hx with rfl|rfl|rfl|rfl|rfl|rfl|rfl<;>kernel_rfl
  ·simp only[Al,Bg,or_false] at hx
   rcases hx with rfl|rfl|rfl|rfl|rfl|rfl|rfl<;>kernel_rfl
 | @pick c a b hc ha hb=>
  refine⟨[c,a,b],by simp[hc,ha,hb],by kernel_rfl,?_,?_⟩
  ·kernel_rfl
  ·kernel_rfl
 | @load p _ _=>
  refine⟨[],(fun _ h=>nomatch h),by kernel_rfl,?_,?_⟩
  ·kernel_rfl
  ·kernel_rfl
 | @take p c a _ _ hc ha=>
  refine⟨[c,a],by simp[hc,ha],by kernel_rfl,?_,?_⟩
  ·kernel_rfl
  ·kernel_rfl
 | @store p a _ _ ha=>
  refine⟨[a],by simp[ha],by kernel_rfl,?_,?_⟩
  ·kernel_rfl
  ·kernel_rfl
 | @put p a c _ _ ha hc=>
  refine⟨[a,c],by simp[ha,hc],by kernel_rfl,?_,?_⟩
  ·kernel_rfl
  ·kernel_rfl
inductive Bl:List Kd->List dP->List Kd->Prop
 |nil {kds:List Kd}:Bl kds [] kds
 |cons {kds ak:List Kd} {row:dP} {rows:List dP}:a0 (Nm kds .w) row->Bl (kds++[QI .w row]) rows ak->Bl kds (row::rows) ak
theorem Bl.snoc{kds ak:List Kd}{rows:List dP}{row:dP}(h:Bl kds rows ak)(r:a0 (Nm ak .w) row):Bl kds (rows++[row]) (ak++[QI .w row]):=by
 induction h with
 |nil=>exact .cons r .nil
 |cons a _ ih=>exact .cons a (ih r)
theorem Bl.len{kds ak:List Kd}{rows:List dP}(h:Bl kds rows ak):ak.length=kds.length+rows.length:=by
 induction h with
 |nil=>simp
 |cons _ _ ih=>simp only[ih,Bv,Bb,Hj];lia
theorem Bl.all{kds ak:List Kd}{rows:List dP}(h:Bl kds rows ak): ∀d∈rows,a0 (Nm ak .w) d:=by
 induction h with
 |nil=>intro d hd;cases hd
 | @cons kds ak row rows a t ih=>
  intro d hd;rcases Al.mp hd with rfl|hd
  ·refine a.imp fun x hx => ?_
   have: ∀{k k':List Kd} {rs:List dP},Bl k rs k'->Nm k .w x->Nm k' .w x:=by
    intro k k' rs h;induction h with
    |nil=>exact id
    |cons _ _ ih=>exact fun z=>ih z.snoc
   exact this t hx.snoc
  ·exact ih d hd
theorem YI: ∀ns:List Int,YZ (ns.map .int)=some ns
 |[]=>rfl
 |i::ns=>by
  show(YZ (ns.map .int)).map (fun ns=>i::ns)=_;rw[YI ns];rfl
theorem FZ{n:Int}: ∀{ns:List Int},n∈ns-> ∃j:Nat,WI n ns=some j/\j<ns.length
 | i :: ns,h => by
  unfold WI;by_cases e:i=n
  ·rw[if_pos e];exact⟨0,rfl,by simp⟩
  ·rw[if_neg e]
   obtain⟨j,h1,h2⟩:=FZ (ns:=ns) (by
    rcases Al.mp h with z|z
    ·exact absurd z.symm e
    ·exact z)
   exact⟨j+1,by rw[h1];rfl,by simp;lia⟩
noncomputable def CT(ns:List Int)(n:Nat)(rows:List dP)(made:List Int)(sn:dP)(ab:Int)(last:dP)(fi:Int)(bs:List Int)(s9 s10:Sl):Ev:=
 [.va (X0 ns),.ow (YG n),.va (.lst rows),.va (.lst (made.map .int)),.ow sn,.va (.int ab),.va last,.va (.int fi),.ow (.lst (bs.map .int)),s9,s10]
theorem zGC(ns:List Int)(n:Nat)(rows:List dP)(made:List Int)(sn:dP)(ab:Int)(last:dP)(fi:Int)(bs:List Int)(a:Int)(s10:Sl)(hl:ns.length<=63)(hn:n<700000)(ha:a∈made)(hb:bs.length<100):
  ∃b∈made,∃fu,ZI (CT ns n rows made sn ab last fi bs (.va (.int a)) s10)=some (.nx (CT ns (n+1) rows made sn ab last fi (bs++[b]) (.va (.int a)) fu)):=by
 obtain⟨j,hj,hj2⟩:=FZ ha;obtain⟨x,hx,ex⟩:=WH ns n [.int 1,.int 1,.int 1,.int 1,.int (-1),.int 0,.int 2] hl (by lia) (by simp);obtain⟨p,rfl⟩: ∃p,x= .int p:=by
  simp only[Al,Bg,or_false] at hx;rcases hx with rfl|rfl|rfl|rfl|rfl|rfl|rfl<;>exact⟨_,rfl⟩
 have hi:HM (.lst (made.map .int)) (.int a)=some (.int j):=by
  show(YZ (made.map .int)).bind (fun ns=>(WI a ns).map fun j=>dP.int j)=_;rw[YI,At,hj];rfl
 have hb':bs.length<16777216:=by lia
 by_cases h1:0<=(j:Int)+p/\(j:Int)+p<made.length
 ·obtain⟨q,hq,eq⟩:=QF (ns:=made) h1.1 h1.2
  by_cases h2:q=(rows.length:Int) - 1
  ·refine⟨a,ha,.va (.int (j+p)),?_⟩
   unfold ZI;simp[CT,hi,ex,h1.1,h1.2,eq,h2,hb']
  ·refine⟨q,hq,.va (.int (j+p)),?_⟩
   unfold ZI;simp[CT,hi,ex,h1.1,h1.2,eq,h2,hb']
 ·refine⟨a,ha,.va (.int (j+p)),?_⟩
  unfold ZI;by_cases h3:0<=(j:Int)+p
  ·have h4 : ¬ (j : Int) + p < made.length := fun z => h1 ⟨h3,z⟩
   simp[CT,hi,ex,h3,h4,hb']
  ·simp[CT,hi,ex,h3,hb']
theorem HK(ns:List Int)(rows:List dP)(made:List Int)(sn:dP)(ab:Int)(last:dP)(fi:Int)(hl:ns.length<=63): ∀(as:List Int) (n:Nat) (bs:List Int) (s9 s10:Sl),n+as.length<700000->(∀a∈as,a∈made)->bs.length+as.length<100→
  ∃cs:List Int,(∀c∈cs,c∈made)/\cs.length=as.length/\ ∃s9' fu,XW (gN 9) ZI (as.map .int) (CT ns n rows made sn ab last fi bs s9 s10)=some (.nx (CT ns (n+as.length) rows made sn ab last fi (bs++cs) s9' fu))
 |[],n,bs,s9,s10,_,_,_=>⟨[],by simp,rfl,s9,s10,by simp⟩
 | a :: as,n,bs,s9,s10,hn,ha,hb => by
  simp only[Bb] at hn hb;obtain⟨b,hb1,u10,e⟩:=zGC ns n rows made sn ab last fi bs a s10 hl (by lia) (ha a Ai) (by lia);obtain⟨cs,h1,h2,s9',fu,ih⟩:=HK ns rows made sn ab last fi hl as (n+1) (bs++[b]) (.va (.int a)) u10 (by lia) (fun x hx=>ha x (Ah _ hx)) (by simp;lia);refine⟨b::cs,fun c hc=> ?_,by simp[h2],s9',fu,?_⟩
  ·rcases Al.mp hc with rfl|hc
   ·exact hb1
   ·exact h1 c hc
  rw[Ar,TL,OL,PP,show(CT ns n rows made sn ab last fi bs s9 s10).set 9 (.va (.int a))=CT ns n rows made sn ab last fi bs (.va (.int a)) s10 from rfl,e,PQ,ih];simp[Nat.add_assoc,Nat.add_comm 1]
theorem cel4{x:String}(h:IW x):(decide ("load"=x) || (decide ("take"=x) || (decide ("store"=x) || decide ("put"=x))))=true:=by
 rcases h with rfl|rfl|rfl|rfl<;>decide
theorem snM{m k:Nat}{d:dP}(h:Sn m d)(hk:m<=k):Sn k d:=by
 obtain⟨ks,vs,e,h1,h2,h3⟩:=h;exact⟨ks,vs,e,h1,h2,by lia⟩
theorem QJ(ns:List Int)(n:Nat)(rows:List dP)(made:List Int)(sn:dP)(ab:Int){x:String}{p:Int}{as:List Int}{m:Nat}(hl:ns.length<=63)(hn:n<600000)(hm:m<8000000)(hs:Sn m sn)(hr:0<ab)(hx:IW x)(au:V1 rows (-1)=some (.tup (.str x:: .int p::as.map .int)))(ha: ∀a∈as,a∈made)(h3:as.length<=3):
  ∃(q:Int) (cs:List Int) (sn':dP),0<=q/\q<ab/\(∀c∈cs,c∈made)/\cs.length=as.length/\Sn (m+1) sn'/\Z6 [X0 ns,YG n,.lst rows,.lst (made.map .int),sn,.int ab]=some (.tup (.str x:: .int q::cs.map .int),[YG (n+as.length),sn']):=by
 obtain⟨cs,h1,h2,s9,s10,e⟩:=HK ns rows made sn ab (.tup (.str x:: .int p::as.map .int)) 2 hl as n [] .no .no (by lia) ha (by simp;lia);simp only[CT,Bh,Dj] at e;obtain⟨ks,vs,rfl,k1,k2,k3⟩:=hs;obtain⟨ks',vs',pe,h4,h5,h6,h7,h8⟩:=putI ks vs (.inr (x:Str)) ((p+1) % ab) k1 k2;have hk:ks.length<16777216:=by lia
 refine⟨(p+1) % ab,cs,.dct ks' (vs'.map .int),Hq _ (by lia),Eb _ hr,h1,h2,⟨ks',vs',rfl,h4,h5,by lia⟩,?_⟩;unfold Z6;rw[cR,V7.eq_1];have hin:=cel4 hx;have gc:XE (.str x:: .int p::as.map dP.int) (some 2) none=as.map dP.int:=by
  have:=UL (ds:= .str x:: .int p::as.map dP.int) (k:=2) (by simp);simpa using this
 have hcl:2+cs.length<=16777216:=by lia
 simp[cI,au,hin,gc,e,hr,hk,k2,pe,h8,hcl]
theorem off4{x:String}(h: ¬IW x):(¬x= "load" /\¬ "load"=x)/\(¬x= "take" /\¬ "take"=x)/\(¬x= "store" /\¬ "store"=x)/\¬x= "put" /\¬ "put"=x:=by refine⟨⟨fun z=>h (.inl z),fun z=>h (.inl z.symm)⟩,⟨fun z=>h (.inr (.inl z)),fun z=>h (.inr (.inl z.symm))⟩,⟨fun z=>h (.inr (.inr (.inl z))),fun z=>h (.inr (.inr (.inl z.symm)))⟩,fun z=>h (.inr (.inr (.inr z))),fun z=>h (.inr (.inr (.inr z.symm)))⟩
theorem JZ(ns:List Int)(n:Nat)(rows:List dP)(made:List Int)(sn:dP)(ab:Int){x:String}{as:List Int}(hl:ns.length<=63)(hn:n<600000)(hx: ¬IW x)(au:V1 rows (-1)=some (.tup (.str x::as.map .int)))(ha: ∀a∈as,a∈made)(h3:as.length<=3):
  ∃cs:List Int,(∀c∈cs,c∈made)/\cs.length=as.length/\Z6 [X0 ns,YG n,.lst rows,.lst (made.map .int),sn,.int ab]=some (.tup (.str x::cs.map .int),[YG (n+as.length),sn]):=by
 obtain⟨cs,h1,h2,s9,s10,e⟩:=HK ns rows made sn ab (.tup (.str x::as.map .int)) 1 hl as n [] .no .no (by lia) ha (by simp;lia);simp only[CT,Bh,Dj] at e;refine⟨cs,h1,h2,?_⟩;unfold Z6;rw[cR,V7.eq_1];obtain⟨⟨_,z1⟩,⟨_,z2⟩,⟨_,z3⟩,_,z4⟩:=off4 hx;have gc:XE (.str x::as.map dP.int) (some 1) none=as.map dP.int:=by
  have:=UL (ds:= .str x::as.map dP.int) (k:=1) (by simp);simpa using this
 have lw:XE (.str x::as.map dP.int) none (some 1)=[.str x]:=by
  have:=SN (ds:= .str x::as.map dP.int) (k:=1);simpa using this
 have hcl:1+cs.length<=16777216:=by lia
 simp[cI,au,z1,z2,z3,z4,gc,lw,e,hcl]
theorem zCK(ns:List Int)(n:Nat)(rows:List dP)(made:List Int)(sn:dP)(ab:Int){last:dP}{m:Nat}(hl:ns.length<=63)(hn:n<600000)(hm:m<8000000)(hs:Sn m sn)(hr:0<ab)(hr2:ab<=64)(au:V1 rows (-1)=some last)(ok:a0 (· ∈made) last)(nn: ∀k,last≠ .tup [.str "number",.int k]):
  ∃row n' sn',n<=n'/\n'<=n+3/\Sn (m+1) sn'/\a0 (· ∈made) row/\Z6 [X0 ns,YG n,.lst rows,.lst (made.map .int),sn,.int ab]=some (row,[YG n',sn']):=by
 cases ok with
 |number=>exact absurd rfl (nn _)
 | @two x a b hx ha hb=>
  obtain⟨cs,h1,h2,e⟩:=JZ ns n rows made sn ab (x:=x) (as:=[a,b]) hl hn (GJ hx) au (by simp[ha,hb]) (by simp);match cs,h2 with
  |[c,d],_=>exact⟨_,n+2,sn,by lia,by lia,snM hs (by lia),.two hx (h1 c (by simp)) (h1 d (by simp)),e⟩
 | @pick c a b hc ha hb=>
  obtain⟨cs,h1,h2,e⟩:=JZ ns n rows made sn ab (x:= "pick") (as:=[c,a,b]) hl hn (fun z=>by rcases z with z|z|z|z<;>exact absurd z (by decide)) au (by simp[ha,hb,hc]) (by simp);match cs,h2 with
  |[c,d,f],_=>exact⟨_,n+3,sn,by lia,by lia,snM hs (by lia),.pick (h1 c (by simp)) (h1 d (by simp)) (h1 f (by simp)),e⟩
 | @load p p0 p1=>
  obtain⟨q,cs,sn',q0,q1,h1,h2,hs',e⟩:=QJ ns n rows made sn ab (x:= "load") (p:=p) (as:=[]) hl hn hm hs hr (.inl rfl) au (by simp) (by simp);match cs,h2 with
  |[],_=>exact⟨_,n+0,sn',by lia,by lia,hs',.load q0 (by lia),e⟩
 | @take p c a p0 p1 hc ha=>
  obtain⟨q,cs,sn',q0,q1,h1,h2,hs',e⟩:=QJ ns n rows made sn ab (x:= "take") (p:=p) (as:=[c,a]) hl hn hm hs hr (.inr (.inl rfl)) au (by simp[hc,ha]) (by simp);match cs,h2 with
  |[c,d],_=>exact⟨_,n+2,sn',by lia,by lia,hs',.take q0 (by lia) (h1 c (by simp)) (h1 d (by simp)),e⟩
 | @store p a p0 p1 ha=>
  obtain⟨q,cs,sn',q0,q1,h1,h2,hs',e⟩:=QJ ns n rows made sn ab (x:= "store") (p:=p) (as:=[a]) hl hn hm hs hr (.inr (.inr (.inl rfl))) au (by simp[ha]) (by simp);match cs,h2 with
  |[c],_=>exact⟨_,n+1,sn',by lia,by lia,hs',.store q0 (by lia) (h1 c (by simp)),e⟩
 | @put p a c p0 p1 ha hc=>
  obtain⟨q,cs,sn',q0,q1,h1,h2,hs',e⟩:=QJ ns n rows made sn ab (x:= "put") (p:=p) (as:=[a,c]) hl hn hm hs hr (.inr (.inr (.inr rfl))) au (by simp[ha,hc]) (by simp);match cs,h2 with
  |[c,d],_=>exact⟨_,n+2,sn',by lia,by lia,hs',.put q0 (by lia) (h1 c (by simp)) (h1 d (by simp)),e⟩
structure RI(rows:List dP)(made:List Int)(kds:List Kd):Prop where
 bl:Bl [] rows kds
 ex: ∀a,a∈made↔Nm kds .w a
 ml:made.length<=rows.length
theorem RI.len{rows:List dP}{made:List Int}{kds:List Kd}(h:RI rows made kds):kds.length=rows.length:=by
 have:=h.bl.len;simpa using this
theorem zCJ{kds:List Kd}{k:Kd}{a:Int}:Nm (kds++[k]) .w a↔Nm kds .w a∨(k= .w/\a=kds.length):=by
 constructor
 ·intro h
  have h0:=h.1;have hl:=h.lt;rw[Bv,Ih] at hl;by_cases hi:a.toNat<kds.length
  ·exact .inl ⟨h0,by have:=h.2;rwa[Ap hi] at this⟩
  ·have hi : a.toNat = kds.length := by lia
   have e:=h.2;rw[hi] at e;simp at e;exact .inr ⟨e,by lia⟩
 ·rintro (h|⟨rfl,rfl⟩)
  ·exact h.snoc
  ·exact Nm.new
theorem RI.more{rows:List dP}{made:List Int}{kds:List Kd}{row:dP}(h:RI rows made kds)(r:a0 (· ∈made) row):RI (rows++[row]) (if QI .w row= .w then made++[(rows.length:Int)] else made) (kds++[QI .w row]):=by
 refine⟨h.bl.snoc (r.imp fun a ha=>(h.ex a).mp ha),fun a=> ?_,?_⟩
 ·rw[zCJ,<- h.ex a,h.len]
  split
  ·rename_i e
   simp[e]
  ·rename_i e
   simp[e]
 ·have:=h.ml
  split<;>simp<;>lia
theorem RI.last{rs:List dP}{last:dP}{made:List Int}{kds:List Kd}(h:RI (rs++[last]) made kds):a0 (· ∈made) last:=(h.bl.all last (by simp)).imp fun a ha=>(h.ex a).mpr ha
noncomputable def QY(ns:List Int)(n:Nat)(many ab:Int)(rows:List dP)(made:List Int)(sn:dP)(s7:Sl):Ev:=
 [.va (X0 ns),.ow (YG n),.va (.int many),.va (.int ab),.ow (.lst rows),.ow (.lst (made.map .int)),.ow sn,s7]
theorem M0: ∀vs:List Int,U7 (vs.map .int)=true
 |[]=>rfl
 |_::vs=>by
  show((dP.int _).hard && U7 (vs.map .int))=true;rw[M0 vs];rfl
theorem GC{m:Nat}{sn:dP}(h:Sn m sn):U8 sn=true:=by
 obtain⟨ks,vs,rfl,_⟩:=h;exact M0 vs
theorem FN{row:dP}(x:String)(t:List dP)(e:row= .tup (.str x::t)):QI .w row= .w↔ ¬(x= "store" ∨x= "put"):=by
 subst e;by_cases h:x= "store" ∨x= "put"
 ·rw[zJ0 h];simp[h]
 ·have : x ∉ ["store","put"] := by simpa using h
  rw[zJ1 this];simp[h]
theorem zES(ns:List Int)(n:Nat)(many ab:Int){rows:List dP}{made:List Int}{kds:List Kd}{sn:dP}{m:Nat}(s7:Sl)(hl:ns.length<=63)(hn:n<600000)(hm:m<8000000)(hs:Sn m sn)(hr:0<ab)(hr2:ab<=64)(R:RI rows made kds)(h0:rows≠[])(ag:rows.length<1000):
  ∃aj ar ak n' sn',RI aj ar ak/\rows.length<=aj.length/\((rows.length:Int)<=many->(aj.length:Int)<=many)/\aj.length<=rows.length+1/\n<=n'/\n'<=n+3/\Sn (m+1) sn'/\ZJ (QY ns n many ab rows made sn s7)=some (.nx (QY ns n' many ab aj ar sn' s7)):=by
 obtain⟨rs,last,rfl⟩: ∃rs last,rows=rs++[last]:=⟨rows.dropLast,rows.getLast h0,(List.dropLast_concat_getLast h0).symm⟩;have ok:=R.last;have au:=UV rs last;have hml:made.length<16777216:=by have:=R.ml;lia
 have hrl:(rs++[last]).length<16777216:=by lia
 generalize om:rs++[last]=rows at*;obtain⟨x,t,e0,_⟩:=SZ ok;by_cases h1:(rows.length:Int)<many
 ·by_cases h2:x= "number"
  ·refine ⟨rows,made,kds,n,sn,R,Ao _,id,by lia,by lia,by lia,snM hs (by lia),?_⟩
   unfold ZJ;simp[QY,h1,au,e0,h2]
  ·obtain ⟨row,n',sn',n0,n1,hs',okr,e⟩ := zCK ns n rows made sn ab hl hn hm hs hr hr2 au ok (fun k z => by rw [e0] at z;simp [aY] at z;exact h2 z.1)
   obtain⟨y,u,e1,_⟩:=SZ okr;have hl2:=UV rows row;refine⟨_,_,_,n',sn',R.more okr,by simp,by simp;lia,by simp,n0,n1,hs',?_⟩;unfold ZJ;have key:=FN y u e1;have hrd:=okr.hard;rw[e1] at hrd;have hsn:=GC hs';by_cases h3:y= "store" ∨y= "put"
   ·rw [if_neg (by rw [key];simp [h3])]
    rcases h3 with rfl|rfl
    ·simp[QY,h1,au,e0,h2,e,hl2,e1,hrl,hrd,hsn]
    ·simp[QY,h1,au,e0,h2,e,hl2,e1,hrl,hrd,hsn]
   ·rw [if_pos (by rw [key];exact h3)]
    have z1: ¬ "store"=y:=fun z=>h3 (.inl z.symm);have z2: ¬ "put"=y:=fun z=>h3 (.inr z.symm);simp[QY,h1,au,e0,h2,e,hl2,e1,hrl,hrd,hsn,z1,z2,hml]
 ·refine ⟨rows,made,kds,n,sn,R,Ao _,id,by lia,by lia,by lia,snM hs (by lia),?_⟩
  unfold ZJ;simp[QY,h1]
theorem BB(ns:List Int)(many ab:Int)(hl:ns.length<=63)(hr:0<ab)(hr2:ab<=64): ∀(ds:List dP) (n:Nat) {rows:List dP} {made:List Int} {kds:List Kd} {sn:dP} {m:Nat} (s7:Sl),n+3*ds.length<600000->m+ds.length<8000000->Sn m sn->RI rows made kds->rows≠[]->rows.length+ds.length<1000→
  ∃aj ar ak n' sn' s7',RI aj ar ak/\rows.length<=aj.length/\((rows.length:Int)<=many->(aj.length:Int)<=many)/\n<=n'/\n'<=n+3*ds.length/\Sn (m+ds.length) sn'/\XW (gN 7) ZJ ds (QY ns n many ab rows made sn s7)=some (.nx (QY ns n' many ab aj ar sn' s7'))
 |[],n,rows,made,kds,sn,m,s7,_,_,hs,R,_,_=>⟨rows,made,kds,n,sn,s7,R,Ao _,id,by lia,by simp,hs,by simp⟩
 |d::ds,n,rows,made,kds,sn,m,s7,hn,hm,hs,R,h0,hz=>by
  simp only[Bb] at hn hm hz;obtain⟨jv,lj,nj,n1,sn1,R1,a1,a2,a3,a4,a5,hs1,e1⟩:=zES ns n many ab (.va d) hl (by lia) (by lia) hs hr hr2 R h0 (by lia);obtain⟨aj,ar,ak,n',sn',s7',R',b1,b2,b3,b4,hs',e⟩:=BB ns many ab hl hr hr2 ds n1 (.va d) (by lia) (by lia) hs1 R1 (fun z=>by rw[z] at a1;simp at a1;exact h0 a1) (by lia);refine⟨aj,ar,ak,n',sn',s7',R',by lia,fun z=>b2 (a2 z),by lia,by simp only[Bb];lia,snM hs' (by simp only[Bb];lia),?_⟩;rw[TL,OL,PP,show(QY ns n many ab rows made sn s7).set 7 (.va d)=QY ns n many ab rows made sn (.va d) from rfl,e1,PQ,e]
theorem zER(ns:List Int)(n:Nat)(many ab:Int){rows:List dP}{made:List Int}{kds:List Kd}{sn:dP}(s7:Sl)(hl:ns.length<=63)(hn:n<500000)(hs:OB n sn)(hr:0<ab)(hr2:ab<=64)(R:RI rows made kds)(hlt:(rows.length:Int)<many)(h40:many<=40):
  ∃aj ar ak n' sn' s7',RI aj ar ak/\rows.length<aj.length/\(aj.length:Int)<=many/\n<=n'/\n'<=n+20/\OB n' sn'/\XT (QY ns n many ab rows made sn s7)=some (.nx (QY ns n' many ab aj ar sn' s7')):=by
 obtain⟨row,n1,sn1,c1,c2,hs1,okr,_,e⟩:=zET ns n made sn ab hl (by lia) hs hr hr2;obtain⟨x,hx,ex⟩:=WH ns n1 [.int 0,.int 1,.int 1,.int 2,.int 3] hl (by lia) (by simp);obtain⟨k,rfl,k0,k3⟩: ∃k:Nat,x= .int k/\0<=k/\k<=3:=by
  simp only[Al,Bg,or_false] at hx;rcases hx with rfl|rfl|rfl|rfl|rfl
  ·exact⟨0,rfl,by lia,by lia⟩
  ·exact⟨1,rfl,by lia,by lia⟩
  ·exact⟨1,rfl,by lia,by lia⟩
  ·exact⟨2,rfl,by lia,by lia⟩
  ·exact⟨3,rfl,by lia,by lia⟩
 have R1:=R.more okr;have hrl:rows.length<16777216:=by lia
 have hml:made.length<16777216:=by have:=R.ml;lia
 have hdl:(bZ 0 k).length=k:=BA k;obtain⟨aj,ar,ak,n',sn',s7',R',b1,b2,b3,b4,hs',ef⟩:=BB ns many ab hl hr hr2 (bZ 0 k) (n1+1) s7 (by lia) (by lia) hs1 R1 (by simp) (by simp;lia);refine⟨aj,ar,ak,n',sn',s7',R',by simp at b1;lia,b2 (by simp;lia),by lia,by lia,snM hs' (by lia),?_⟩;obtain⟨y,u,e1,_⟩:=SZ okr;have hl2:=UV rows row;have key:=FN y u e1;have hrd:=okr.hard;rw[e1] at hrd;have hsn:=GC hs1;have hk1:(-4611686018427387904:Int)<=k/\(k:Int)<4611686018427387904:=by lia
 unfold XT;by_cases h3:y= "store" ∨y= "put"
 ·rw [if_neg (by rw [key];simp [h3])] at ef
  simp only[QY] at ef;rw[e1] at ef;rcases h3 with rfl|rfl
  ·simp[QY,e,hl2,e1,hrl,hrd,hsn,ex,hk1,ef]
  ·simp[QY,e,hl2,e1,hrl,hrd,hsn,ex,hk1,ef]
 ·rw [if_pos (by rw [key];exact h3)] at ef
  simp only[QY,Dn,Ar,Dj] at ef;rw[e1] at ef;have z1: ¬ "store"=y:=fun z=>h3 (.inl z.symm);have z2: ¬ "put"=y:=fun z=>h3 (.inr z.symm);simp[QY,e,hl2,e1,hrl,hrd,hsn,ex,hk1,z1,z2,hml,ef]
theorem K5{t:VB}{g:VS}{k:Nat}{δ δ1 δ2:Ev}(h:t δ=some (true,δ1))(h2:g δ1=some (.nx δ2)):bM t g (k+1) δ=bM t g k δ2:=by
 show((t δ).bind fun p=>if p.1=true then(g p.2).bind (again (bM t g k)) else some (.nx p.2))=_;rw[h,At];show(if true=true then(g δ1).bind (again (bM t g k)) else _)=_;rw[if_pos rfl,h2];rfl
theorem P6{t:VB}{g:VS}{k:Nat}{δ δ1:Ev}(h:t δ=some (false,δ1)):bM t g (k+1) δ=some (.nx δ1):=by
 show((t δ).bind fun p=>if p.1=true then(g p.2).bind (again (bM t g k)) else some (.nx p.2))=_;rw[h];rfl
theorem BC(ns:List Int)(many ab:Int)(hl:ns.length<=63)(hr:0<ab)(hr2:ab<=64)(h40:many<=40): ∀(f:Nat) (n:Nat) {rows:List dP} {made:List Int} {kds:List Kd} {sn:dP} (s7:Sl),many - rows.length<=f->(rows.length:Int)<=many->n+20*f<500000->OB n sn->RI rows made kds→
  ∃aj ar ak n' sn' s7',RI aj ar ak/\(aj.length:Int)=many/\n<=n'/\n'<=n+20*f/\bM (fB (f2 oLt (f1 aR (fO 4)) (fV 2))) XT (f+1) (QY ns n many ab rows made sn s7)=some (.nx (QY ns n' many ab aj ar sn' s7'))
 |0,n,rows,made,kds,sn,s7,h1,h2,hn,hs,R=>by
  refine⟨rows,made,kds,n,sn,s7,R,by lia,by lia,by lia,P6 ?_⟩;have: ¬(rows.length:Int)<many:=by lia
  simp[QY,this]
 | f + 1,n,rows,made,kds,sn,s7,h1,h2,hn,hs,R => by
  by_cases hlt:(rows.length:Int)<many
  ·obtain ⟨jv,lj,nj,n1,sn1,u7,R1,a1,a2,a3,a4,hs1,e1⟩ := zER ns n many ab s7 hl (by lia) hs hr hr2 R hlt h40
   obtain⟨aj,ar,ak,n',sn',s7',R',b1,b2,b3,e⟩:=BC ns many ab hl hr hr2 h40 f n1 u7 (by lia) a2 (by lia) hs1 R1;refine⟨aj,ar,ak,n',sn',s7',R',b1,by lia,by lia,?_⟩;rw[K5 (δ1:=QY ns n many ab rows made sn s7) (by simp[QY,hlt]) e1,e]
  ·refine ⟨rows,made,kds,n,sn,s7,R,by lia,by lia,by lia,P6 ?_⟩
   simp[QY,hlt]
theorem zBR(ns:List Int)(n:Nat)(many ab:Int)(hl:ns.length<=63)(hn:n<400000)(hr:0<ab)(hr2:ab<=64)(h0:0<=many)(h40:many<=40):
  ∃rows kds n',Bl [] rows kds/\(rows.length:Int)=many/\n<=n'/\n'<=n+20*40/\YE [X0 ns,YG n,.int many,.int ab]=some (.tup rows,[YG n']):=by
 obtain⟨rows,made,kds,n',sn,s7,R,a1,a2,a3,e⟩:=BC ns many ab hl hr hr2 h40 many.toNat n (rows:=[]) (made:=[]) (kds:=[]) (sn:= .dct [] []) .no (by simp;lia) (by simpa using h0) (by lia) ⟨[],[],rfl,rfl,List.nodup_nil,Dd _⟩ ⟨.nil,fun a=>by simp[Nm],by simp⟩;refine⟨rows,kds,n',R.bl,a1,a2,by lia,?_⟩;have e:=NL e;simp only[QY,Dj] at e;unfold YE;rw[cR,TY.eq_1];simp[cI,e]
theorem zAR{f g:VF}{δ δ1 δ2:Ev}{i j:Int}(h1:f δ=some (.int i,δ1))(h2:g δ1=some (.int j,δ2))(hb:(-4611686018427387904<=i/\i<4611686018427387904)/\ -4611686018427387904<=j/\j<4611686018427387904):CP f g δ=some (bZ i (j - i).toNat,δ2):=by
 unfold CP;rw[h1,At,h2,At];exact if_pos hb
theorem XV(nn:Nat)(tb:VB)(p:dP->Bool)(fe:VF)(f:dP->dP)(δ:Ev)(hδ:δ.length=nn): ∀(ds acc:List dP),(∀d∈ds,tb (δ++[Sl.va d])=some (p d,δ++[Sl.va d])/\(p d=true->fe (δ++[Sl.va d])=some (f d,δ++[Sl.va d])))->acc.length+ds.length<16777216->aU nn 1 (gN nn) tb fe ds acc δ=some (acc++(ds.filter p).map f,δ)
 |[],acc,_,_=>by simp
 | d :: ds,acc,h,hl => by
  have du:(δ++[Sl.no]).set nn (.va d)=δ++[Sl.va d]:=by
   rw[Gj _ _ (by lia)];simp[hδ]
  have ay:(δ++[Sl.va d]).take nn=δ:=by rw[Cs (by lia),Ca (by lia)]
  have aq:acc.length<16777216:=by simp at hl;lia
  obtain⟨h1,h2⟩:=h d Ai;cases hp:p d with
  |true=>
   have ih:=XV nn tb p fe f δ hδ ds (acc++[f d]) (fun e he=>h e (Ah _ he)) (by simp at hl⊢;lia);have h2:=h2 hp;rw[hp] at h1;simp only[SM,zA7,OL,du,KG,h1,AZ,h2,A0,if_pos aq,ay,ih];simp[hp]
  |false=>
   have ih:=XV nn tb p fe f δ hδ ds acc (fun e he=>h e (Ah _ he)) (by simp at hl⊢;lia);rw[hp] at h1;simp only[SM,zA7,OL,du,KG,h1,zDH,ay,ih];simp[hp]
theorem a0.ints{M:Int->Prop}{row:dP}(h:a0 M row): ∃(x:String) (a:Int) (as:List Int),row= .tup (.str x:: .int a::as.map .int)/\(x= "over" -> ∃b,as=[b]/\M b):=by
 cases h with
 | @number n _ _=>exact⟨"number",n,[],rfl,fun z=>absurd z (by decide)⟩
 | @two x a b hx ha hb=>exact⟨x,a,[b],rfl,fun _=>⟨b,rfl,hb⟩⟩
 | @pick c a b _ _ _=>exact⟨"pick",c,[a,b],rfl,fun z=>absurd z (by decide)⟩
 | @load p _ _=>exact⟨"load",p,[],rfl,fun z=>absurd z (by decide)⟩
 | @take p c a _ _ _ _=>exact⟨"take",p,[c,a],rfl,fun z=>absurd z (by decide)⟩
 | @store p a _ _ _=>exact⟨"store",p,[a],rfl,fun z=>absurd z (by decide)⟩
 | @put p a c _ _ _ _=>exact⟨"put",p,[a,c],rfl,fun z=>absurd z (by decide)⟩
theorem aH{k:Nat}: ∀as:List Int,∀d∈as.map dP.int,SF k d
 |[],d,h=>nomatch h
 |a::as,d,h=>by
  rcases Al.mp h with rfl|h
  ·exact ZN
  ·exact aH as d h
theorem F9{M:Int->Prop}{row:dP}(h:a0 M row):SF 1 row:=by
 obtain⟨x,a,as,rfl,_⟩:=h.ints;exact WG (bS ZO (bS ZN (aH as)))
theorem zAA{sure:Int}{rows:List dP}{kds:List Kd}(hb:Bl [] rows kds){i:Int}(h0:0<=i)(h1:i<rows.length): ∃b,ZG [.tup [.int sure,.tup rows],.int i]=some (.bl b,[]):=by
 have ag:kds.length=rows.length:=by simpa using hb.len
 obtain⟨row,g9,e0⟩: ∃row∈rows,V1 rows i=some row:=by
  have hi:i.toNat<rows.length:=by lia
  exact⟨rows[i.toNat],Gx hi,by rw[XD h0 h1];simp[hi]⟩
 have ok:=hb.all row g9;obtain⟨x,a,as,rfl,hov⟩:=ok.ints;unfold ZG;rw[cR];unfold RN;by_cases hx:IW x
 ·have m1:=cel4 hx
  exact⟨_,by simp[cI,e0,m1];rfl⟩
 ·obtain⟨⟨_,z1⟩,⟨_,z2⟩,⟨_,z3⟩,_,z4⟩:=off4 hx
  by_cases ho:x= "over"
  ·obtain⟨b,rfl,hbn⟩:=hov ho
   subst ho;have b0:=hbn.1;have b1:=hbn.lt;obtain⟨md,hr2,e2⟩: ∃row∈rows,V1 rows b=some row:=by
    have hi:b.toNat<rows.length:=by lia
    exact⟨rows[b.toNat],Gx hi,by rw[XD b0 (by lia)];simp[hi]⟩
   obtain⟨x2,a2,as2,rfl,_⟩:=(hb.all md hr2).ints;have gc:XE (.str x2:: .int a2::as2.map dP.int) none (some 2)=[.str x2,.int a2]:=by
    have:=SN (ds:= .str x2:: .int a2::as2.map dP.int) (k:=2);simpa using this
   have ei: ∀δ,CP (fC (.int 1)) (fC (.int 1000)) δ=some (bZ 1 ((1000:Int) - 1).toNat,δ):=fun δ=>zAR (f:=fC (.int 1)) (g:=fC (.int 1000)) (δ:=δ) (δ1:=δ) (δ2:=δ) (i:=1) (j:=1000) rfl rfl (by lia);have ec:=YW 0 (aN (dL (fC (.str "number")) (dL (fV 0) cP))) [] (fun d=> .tup [.str "number",d]) rfl (bZ 1 ((1000:Int) - 1).toNat) [] (fun d _=>by simp) (by simp[bZ]);have hin: ∀neg,∃b,bE neg (.tup [.str x2,.int a2]) (.lst ((bZ 1 ((1000:Int) - 1).toNat).map fun d=> .tup [.str "number",d]))=some (.bl b):=fun neg=>⟨_,L0 (j:=1) (k:=1) (WG (bS ZO (bS ZN aA))) (fun e he=>by
    obtain⟨d,hd,rfl⟩:=Bd.mp he;obtain⟨q,rfl⟩: ∃q,d= .int q:=by
     unfold bZ at hd;obtain⟨q,_,rfl⟩:=Bd.mp hd;exact⟨_,rfl⟩
    exact WG (bS ZO (bS ZN aA)))⟩
   obtain⟨bb,hbb⟩:=hin true;simp only[Bh] at ec;generalize (bZ 1 ((1000:Int) - 1).toNat).map (fun d=>dP.tup [.str "number",d])=big at*;generalize bZ 1 ((1000:Int) - 1).toNat=rg at*;exact⟨bb,by simp -implicitDefEqProofs [cI,e0,e2,gc,cF,ei,ec,hbb]⟩
  ·exact⟨false,by simp[cI,e0,z1,z2,z3,z4,ho]⟩
def Z4(p:Int×Int):dP:= .tup [.int p.1,.int p.2]
noncomputable def OD:dP:= .tup [.str "load",.str "take",.str "store",.str "put"]
noncomputable def RS(blk:dP)(ps:List (Int×Int))(j:Int)(there:Sl)(s5 s6 s7 s8:Sl):Ev:=
 [.va blk,.ow (.lst (ps.map Z4)),.va OD,.va (.int j),there,s5,s6,s7,s8]
theorem zJQ{bs:List Bool}:bE false (.bl true) (.lst (bs.map .bl))=some (.bl (bs.any id)):=by
 rw[L0 (j:=0) (k:=0) zA3 (fun e he=>by
  obtain⟨b,_,rfl⟩:=Bd.mp he;exact zA3)]
 induction bs with
 |nil=>rfl
 |cons b bs ih=>
  have e:HB (.bl b) (.bl true)=b:=by cases b<;>rfl
  simp only[Ar,zAQ,Fu,id,e];simp only[Dk,if_false,Option.some.injEq,dP.bl.injEq] at ih⊢;rw[ih]
theorem FC{i:Int}: ∀{as:List Int},i∈as->QS (.int i) (as.map .int)=true
 |q::as,h=>by
  simp only[Ar,zAQ];rcases Al.mp h with rfl|h
  ·simp
  ·simp[FC h]
noncomputable def wrT:dP->Bool
 | .tup (.str x::_)=>decide (Aw "store"=x) || decide (Aw "put"=x)
 |_=>false
theorem VJ{s1 s2:VS}{δ δ1:Ev}{r:Option Ou}(h1:s1 δ=some (.nx δ1))(h2:s2 δ1=r):cU s1 s2 δ=r:=by rw[BF,h1,qS_n,h2]
theorem zGD{sure:Int}{rows:List dP}{kds:List Kd}(hb:Bl [] rows kds)(ps:List (Int×Int)){i j:Int}{here there:dP}(i0:0<=i)(i1:i<rows.length)(j0:0<=j)(j1:j<rows.length)(hh:here∈rows)(ht:there∈rows){as:List Int}(hn:cB [there]=some (.lst (as.map .int),[]))(s7 s8:Sl)(hp:ps.length<1000000):
  ∃(c:Bool) (t7 t8:Sl),(i∈as->c=true)/\XR (RS (.tup [.int sure,.tup rows]) ps j (.va there) (.va (.int i)) (.va here) s7 s8)=some (.nx (RS (.tup [.int sure,.tup rows]) (ps++if c then[(i,j)] else[]) j (.va there) (.va (.int i)) (.va here) t7 t8)):=by
 obtain⟨b1,e1⟩:=zAA (sure:=sure) hb i0 i1;obtain⟨b2,e2⟩:=zAA (sure:=sure) hb j0 j1;have okh:=hb.all here hh;have okt:=hb.all there ht;have kh:=F9 okh;have kt:=F9 okt;obtain⟨x,a,xs,eh,_⟩:=okh.ints;obtain⟨y,b,ys,et,_⟩:=okt.ints;have hin:bE false (.int i) (.lst (as.map .int))=some (.bl (QS (.int i) (as.map .int))):=by
  rw[L0 (j:=0) (k:=0) ZN (aH as)];simp
 have o6:=FC (i:=i) (as:=as);generalize QS (.int i) (as.map .int)=bi at*;have ew: ∃w:List dP,aU 0 1 (gN 0) (fB (f2 (bE false) (f2 cZ (fV 0) (fC (.int 0))) (aN (dL (fC (.str "store")) (dL (fC (.str "put")) cP))))) (fV 0) [here,there] [] []=some (w,[])/\ ∀d∈w,SF 1 d:=by
  have c:=XV 0 (fB (f2 (bE false) (f2 cZ (fV 0) (fC (.int 0))) (aN (dL (fC (.str "store")) (dL (fC (.str "put")) cP))))) wrT (fV 0) id [] rfl [here,there] [] (fun d hd=>by
   simp only[Al,Bg,or_false] at hd;rcases hd with rfl|rfl
   ·rw[eh];simp[wrT,aY]
   ·rw[et];simp[wrT,aY]) (by simp)
  refine⟨_,c,fun d hd=> ?_⟩;simp only[Bh,List.map_id_fun,id,Dm,Al,Bg,or_false] at hd;rcases hd.1 with rfl|rfl
  ·exact kh
  ·exact kt
 obtain⟨w,ew,kw⟩:=ew;have hne:TJ (.lst w) (.lst [])=some (.bl (!HB (.lst w) (.lst []))):=NB (j:=2) (k:=0+1) (aZ kw) (aZ aA);generalize (!HB (.lst w) (.lst []))=bw at*;have hp':ps.length<16777216:=by lia
 have x4: ∃bx,bE false (.str x) OD=some (.bl bx):=⟨_,zDR⟩;have y4: ∃by',bE false (.str y) OD=some (.bl by'):=⟨_,zDR⟩;have x2: ∃bx,bE false (.str x) (.tup [.str "store",.str "put"])=some (.bl bx):=⟨_,FD⟩;have y2: ∃by',bE false (.str y) (.tup [.str "store",.str "put"])=some (.bl by'):=⟨_,FD⟩;obtain⟨bx,x4⟩:=x4;obtain⟨by',y4⟩:=y4;obtain⟨wx,x2⟩:=x2;obtain⟨wy,y2⟩:=y2;subst eh et;have hbl:=zJQ (bs:=[bi,b1 && b2,bx && (by' && (decide (a=b) && bw)),b1 && wy,b2 && wx]);simp only[Ar,Dj] at hbl;refine⟨[bi,b1 && b2,bx && (by' && (decide (a=b) && bw)),b1 && wy,b2 && wx].any id,.va (.lst w),.ow (.lst [.bl bi,.bl (b1 && b2),.bl (bx && (by' && (decide (a=b) && bw))),.bl (b1 && wy),.bl (b2 && wx)]),?_,?_⟩
 ·intro hi
  rw[o6 hi];rfl
 ·unfold XR
  refine VJ (δ1:=RS (.tup [.int sure,.tup rows]) ps j (.va (.tup (.str y:: .int b::ys.map .int))) (.va (.int i)) (.va (.tup (.str x:: .int a::xs.map .int))) (.va (.lst w)) s8) (by simp[RS,cF,ew]) ?_;refine VJ (δ1:=RS (.tup [.int sure,.tup rows]) ps j (.va (.tup (.str y:: .int b::ys.map .int))) (.va (.int i)) (.va (.tup (.str x:: .int a::xs.map .int))) (.va (.lst w)) (.ow (.lst [.bl bi,.bl (b1 && b2)]))) ?_ ?_
  ·clear hbl
   cases b1<;>simp[RS,hn,hin,e1,e2]
  refine VJ (δ1:=RS (.tup [.int sure,.tup rows]) ps j (.va (.tup (.str y:: .int b::ys.map .int))) (.va (.int i)) (.va (.tup (.str x:: .int a::xs.map .int))) (.va (.lst w)) (.ow (.lst [.bl bi,.bl (b1 && b2),.bl (bx && (by' && (decide (a=b) && bw)))]))) ?_ ?_
  ·clear hbl
   cases bx<;>cases by'<;>by_cases hab:a=b<;>simp[RS,x4,y4,hne,hab]
  refine VJ (δ1:=RS (.tup [.int sure,.tup rows]) ps j (.va (.tup (.str y:: .int b::ys.map .int))) (.va (.int i)) (.va (.tup (.str x:: .int a::xs.map .int))) (.va (.lst w)) (.ow (.lst [.bl bi,.bl (b1 && b2),.bl (bx && (by' && (decide (a=b) && bw))),.bl (b1 && wy)]))) ?_ ?_
  ·clear hbl
   generalize (bx && (by' && (decide (a=b) && bw)))=q3;cases b1<;>simp[-FD,RS,e1,y2]
  refine VJ (δ1:=RS (.tup [.int sure,.tup rows]) ps j (.va (.tup (.str y:: .int b::ys.map .int))) (.va (.int i)) (.va (.tup (.str x:: .int a::xs.map .int))) (.va (.lst w)) (.ow (.lst [.bl bi,.bl (b1 && b2),.bl (bx && (by' && (decide (a=b) && bw))),.bl (b1 && wy),.bl (b2 && wx)]))) ?_ ?_
  ·clear hbl
   generalize (bx && (by' && (decide (a=b) && bw)))=q3;cases b2<;>simp[-FD,RS,e2,x2]
  generalize (bx && (by' && (decide (a=b) && bw)))=q3 at*;generalize hq1:(b1 && b2)=q1 at*;generalize hq4:(b1 && wy)=q4 at*;generalize hq5:(b2 && wx)=q5 at*;generalize hc:[bi,q1,q3,q4,q5].any id=c at*;cases c
  ·simp[RS,hbl]
  ·simp[RS,hbl,hp',Z4]
theorem RG(i:Nat)(d:dP)(ds:List dP):YX i (d::ds)= .tup [.int i,d]::YX (i+1) ds:=rfl
abbrev GP(a b:Nat):VG:=IV 2 (bI (gN a) (bI (gN b) W7))
theorem zA9{sure:Int}{rows:List dP}{kds:List Kd}(hb:Bl [] rows kds){j:Int}{there:dP}(j0:0<=j)(j1:j<rows.length)(ht:there∈rows){as:List Int}(hn:cB [there]=some (.lst (as.map .int),[])): ∀(hs:List dP) (k:Nat) (ps:List (Int×Int)) (s5 s6 s7 s8:Sl),(∀d∈hs,d∈rows)->k+hs.length<=rows.length->ps.length+hs.length<1000000→
  ∃(qs:List (Int×Int)) (t5 t6 t7 t8:Sl),(∀p∈qs,p.2=j/\(k:Int)<=p.1/\p.1<k+hs.length)/\(∀i∈as,(k:Int)<=i->i<k+hs.length->(i,j)∈qs)/\qs.length<=hs.length∧
   XW (GP 5 6) XR (YX k hs) (RS (.tup [.int sure,.tup rows]) ps j (.va there) s5 s6 s7 s8)=some (.nx (RS (.tup [.int sure,.tup rows]) (ps++qs) j (.va there) t5 t6 t7 t8))
 |[],k,ps,s5,s6,s7,s8,_,_,_=>⟨[],s5,s6,s7,s8,by simp,fun i _ h1 h2=>by simp at h2;lia,by simp,by simp[YX]⟩
 | h :: hs,k,ps,s5,s6,s7,s8,hm,hk,hp => by
  simp only[Bb] at hk hp;obtain⟨c,t7,t8,c1,e⟩:=zGD (sure:=sure) hb ps (i:=(k:Int)) (j:=j) (here:=h) (there:=there) (by lia) (by lia) j0 j1 (hm h Ai) ht hn s7 s8 (by lia);obtain⟨qs,u5,u6,u7,u8,q1,q2,q3,ih⟩:=zA9 hb j0 j1 ht hn hs (k+1) (ps++if c then[((k:Int),j)] else[]) (.va (.int k)) (.va h) t7 t8 (fun d hd=>hm d (Ah _ hd)) (by lia) (by cases c<;>simp<;>lia);refine⟨(if c then[((k:Int),j)] else[])++qs,u5,u6,u7,u8,?_,?_,?_,?_⟩
  ·intro p hp
   simp only[Bb];rcases Cc.mp hp with z|z
   ·cases c
    ·simp at z
    ·simp at z;subst z;exact⟨rfl,by simp,by simp;lia⟩
   ·obtain⟨z1,z2,z3⟩:=q1 p z
    exact⟨z1,by lia,by lia⟩
  ·intro i hi h1 h2
   simp only[Bb] at h2;by_cases h3:i=k
   ·subst h3
    rw[c1 hi];simp
   ·exact Cc.mpr (.inr (q2 i hi (by lia) (by lia)))
  ·cases c<;>simp<;>lia
  ·rw[RG,TL]
   have s1:GP 5 6 (.tup [.int k,h]) (RS (.tup [.int sure,.tup rows]) ps j (.va there) s5 s6 s7 s8)=some (RS (.tup [.int sure,.tup rows]) ps j (.va there) (.va (.int k)) (.va h) s7 s8):=by simp[RS]
   rw[s1,PP,e,PQ,ih,Cn]
structure Prs(rows:List dP)(ps:List (Int×Int)):Prop where
 lt: ∀p∈ps,0<=p.1/\p.1<p.2/\p.2<rows.length
 nm: ∀(j:Nat) (row:dP) (as:List Int),rows[j]? =some row->cB [row]=some (.lst (as.map .int),[])-> ∀i∈as,0<=i->i<j->(i,(j:Int))∈ps
theorem zAN{as bs:List Int}(h:as.map dP.int=bs.map dP.int):as=bs:=by
 induction as generalizing bs with
 |nil=>cases bs with
  |nil=>rfl
  |cons=>simp at h
 | cons a as ih => cases bs with
  |nil=>simp at h
  |cons b bs=>
   simp only[Ar,Et,dP.int.injEq] at h;rw[h.1,ih h.2]
noncomputable def tri:Nat->Nat->Nat
 |0,_=>0
 |t+1,k=>k+tri t (k+1)
theorem zHE{n:Nat}(h:n<=10):tri n 0<64:=by
 have:=Ei.mp (show(Am 11).all (fun n=>decide (tri n 0<64))=true by decide) n (Bk.mpr (by lia));exact of_decide_eq_true this
theorem zA8{sure:Int}{rows:List dP}{kds:List Kd}(hb:Bl [] rows kds)(h40:rows.length<=10): ∀(ts:List dP) (k:Nat) (ps:List (Int×Int)) (s3:Int) (s4 s5 s6 s7 s8:Sl) (x3:Sl),rows.drop k=ts->k+ts.length=rows.length->ps.length+40*ts.length<10000→
  ∃(qs:List (Int×Int)) (t3 t4 t5 t6 t7 t8:Sl),(∀p∈qs,0<=p.1/\p.1<p.2/\p.2<rows.length)/\(∀(j:Nat) (row:dP) (as:List Int),k<=j->rows[j]? =some row->cB [row]=some (.lst (as.map .int),[])-> ∀i∈as,0<=i->i<j->(i,(j:Int))∈qs)/\(qs.length<=tri ts.length k/\qs.length<=40*ts.length)∧
   XW (GP 3 4) XS (YX k ts) [.va (.tup [.int sure,.tup rows]),.ow (.lst (ps.map Z4)),.va OD,x3,s4,s5,s6,s7,s8]=some (.nx [.va (.tup [.int sure,.tup rows]),.ow (.lst ((ps++qs).map Z4)),.va OD,t3,t4,t5,t6,t7,t8])
 |[],k,ps,s3,s4,s5,s6,s7,s8,x3,h1,h2,_=>by
  refine⟨[],x3,s4,s5,s6,s7,s8,by simp,fun j row as h3 h4=> ?_,by simp[tri],by simp[YX]⟩;have:=(Ag.mp h4).1;simp at h2;lia
 | t :: ts,k,ps,s3,s4,s5,s6,s7,s8,x3,h1,h2,hp => by
  simp only[Bb] at h2 hp;have ht:t∈rows:=Ma (by rw[h1];exact Ai);have hk:rows[k]? =some t:=by
   have:(rows.drop k)[0]? =some t:=by rw[h1];rfl
   simpa using this
  obtain⟨as,_,_,hn,_⟩:=O9 (hb.all t ht);have ag:(rows.take k).length=k:=by rw[Cg];lia
  obtain⟨qs1,t5,t6,t7,t8,q1,q2,q3,e⟩:=zA9 (sure:=sure) hb (j:=(k:Int)) (by lia) (by lia) ht hn (rows.take k) 0 ps s5 s6 s7 s8 (fun d hd=>List.mem_of_mem_take hd) (by lia) (by lia);obtain⟨qs2,u3,u4,u5,u6,u7,u8,r1,r2,r3,ih⟩:=zA8 hb h40 ts (k+1) (ps++qs1) 0 (.va t) t5 t6 t7 t8 (.va (.int k)) (by rw[<- List.drop_drop,h1];rfl) (by lia) (by simp;lia);refine⟨qs1++qs2,u3,u4,u5,u6,u7,u8,?_,?_,?_,?_⟩
  ·intro p hp
   rcases Cc.mp hp with z|z
   ·obtain⟨z1,z2,z3⟩:=q1 p z
    rw[ag] at z3;exact⟨by lia,by lia,by lia⟩
   ·exact r1 p z
  ·intro j row bs hj hr hbs i hi i0 i1
   by_cases hjk:j=k
   ·subst hjk
    rw[hk] at hr;injection hr with hr;subst hr;rw[hn] at hbs;have:as=bs:=zAN (by simpa using hbs);subst this;exact Cc.mpr (.inl (q2 i hi (by lia) (by rw[ag];lia)))
   ·exact Cc.mpr (.inr (r2 j row bs (by lia) hr hbs i hi i0 i1))
  ·simp only[Bv,Bb,tri];lia
  ·rw[RG,TL]
   have s1:GP 3 4 (.tup [.int k,t]) [.va (.tup [.int sure,.tup rows]),.ow (.lst (ps.map Z4)),.va OD,x3,s4,s5,s6,s7,s8]=some (RS (.tup [.int sure,.tup rows]) ps k (.va t) s5 s6 s7 s8):=by simp[RS]
   have s2:XS (RS (.tup [.int sure,.tup rows]) ps k (.va t) s5 s6 s7 s8)=some (.nx (RS (.tup [.int sure,.tup rows]) (ps++qs1) k (.va t) t5 t6 t7 t8)):=by
    unfold XS;have hc:=SN (ds:=rows) (k:=k);rw[IB];have:OR (E9 (f2 cZ (fV 0) (fC (.int 1))) CU (FX (fV 3))) (RS (.tup [.int sure,.tup rows]) ps k (.va t) s5 s6 s7 s8)=some (YX 0 (rows.take k),RS (.tup [.int sure,.tup rows]) ps k (.va t) s5 s6 s7 s8):=by simp[RS,hc]
    rw[this,qF_s];exact e
   rw[s1,PP,s2,PQ];simp only[RS];rw[ih,Cn]
theorem GF{α:Type}{g:α->dP}{k:α->List Int}: ∀xs:List α,(∀a∈xs,tpD (g a)=some (k a))->KS (xs.map g)=some (xs.map k)
 |[],_=>rfl
 |x::xs,h=>by
  show(tpD (g x)).bind (fun q=>(KS (xs.map g)).map fun qs=>q::qs)=_;rw[GF xs fun a ha=>h a (Ah _ ha),h x Ai];rfl
theorem AN{α:Type}(z:α)(xs:List α):(Am xs.length).map (fun i=>xs.getD i z)=xs:=by
 refine List.ext_getElem (by simp) fun i h1 h2=> ?_;simp at h1;simp[h1]
theorem BP{α:Type}(g:α->dP)(k:α->List Int)(z:α)(xs:List α)(hk: ∀a∈xs,tpD (g a)=some (k a))(h64:xs.length<64):
  ∃ys:List α,ys.Perm xs/\(ys.Pairwise fun a b=>TS.lexL (k b) (k a)=false)/\WF (.lst (xs.map g))=some (.lst (ys.map g))/\WF (.tup (xs.map g))=some (.lst (ys.map g)):=by
 have hp:=R6 (xs.map k);rw[Bf] at hp;have lt: ∀i∈N7 (xs.map k),i<xs.length:=fun i hi=>Bk.mp (hp.mem_iff.mp hi);have e:((if(xs.map g).length<64 then(KS (xs.map g)).bind fun ps=>some (dP.lst ((N7 ps).map fun i=>(xs.map g).getD i dP.non)) else none):Option dP)=some (.lst (((N7 (xs.map k)).map fun i=>xs.getD i z).map g)):=by
  rw[if_pos (by simpa using h64),GF xs hk,At,Cm];congr 2;refine Ck fun i hi=> ?_;have:=lt i hi;simp[this]
 refine⟨(N7 (xs.map k)).map fun i=>xs.getD i z,?_,?_,e,e⟩
 ·have h := hp.map fun i => xs.getD i z
  rwa[AN] at h
 ·refine Ft.mpr ((zBM (xs.map k) (by simpa using h64)).imp_of_mem fun {i j} hi hj q => ?_)
  have h1:=lt i hi;have h2:=lt j hj;simpa[h1,h2] using q
theorem BQ(ps:List (Int×Int))(h64:ps.length<64): ∃qs:List (Int×Int),qs.Perm ps/\WF (.lst (ps.map Z4))=some (.lst (qs.map Z4)):=by
 obtain⟨ys,h1,_,h2,_⟩:=BP Z4 (fun p=>[p.1,p.2]) (0,0) ps (fun _ _=>rfl) h64;exact⟨ys,h1,h2⟩
theorem zCM{sure:Int}{rows:List dP}{kds:List Kd}(hb:Bl [] rows kds)(h40:rows.length<=10): ∃ps:List (Int×Int),Prs rows ps/\ps.length<=1600/\YD [.tup [.int sure,.tup rows]]=some (.lst (ps.map Z4),[]):=by
 obtain⟨qs,t3,t4,t5,t6,t7,t8,q1,q2,q3,e⟩:=zA8 (sure:=sure) hb h40 rows 0 [] 0 .no .no .no .no .no .no (by simp) (by simp) (by simp;lia);simp only[Dj,Bh,OD] at e;obtain⟨ps,hp,es⟩:=BQ qs (by have:=zHE h40;lia);refine⟨ps,⟨fun p h=>q1 p (hp.mem_iff.mp h),fun j row as h1 h2 i hi i0 i1=>hp.mem_iff.mpr (q2 j row as (by lia) h1 h2 i hi i0 i1)⟩,by rw[hp.length_eq];lia,?_⟩;unfold YD;rw[cR,TU.eq_1];simp[cI,e,es]
theorem U1(nn:Nat)(tb:VB)(p:dP->Bool)(fe:VF)(f:dP->dP)(δ:Ev)(hδ:δ.length=nn): ∀(ds acc:List dP),(∀d∈ds,∃a b,d= .tup [a,b]/\tb (δ++[Sl.va a,Sl.va b])=some (p d,δ++[Sl.va a,Sl.va b])/\(p d=true->fe (δ++[Sl.va a,Sl.va b])=some (f d,δ++[Sl.va a,Sl.va b])))->acc.length+ds.length<16777216->aU nn 2 (GP nn (nn+1)) tb fe ds acc δ=some (acc++(ds.filter p).map f,δ)
 |[],acc,_,_=>by simp
 | d :: ds,acc,h,hl => by
  obtain⟨a,b,rfl,h1,h2⟩:=h d Ai;have du:GP nn (nn+1) (.tup [a,b]) (δ++[Sl.no,Sl.no])=some (δ++[Sl.va a,Sl.va b]):=by
   have e1:(δ++[Sl.no,Sl.no]).set nn (.va a)=δ++[Sl.va a,Sl.no]:=by
    rw[Gj _ _ (by lia)];simp[hδ]
   have e2:(δ++[Sl.va a,Sl.no]).set (nn+1) (.va b)=δ++[Sl.va a,Sl.va b]:=by
    rw[Gj _ _ (by lia),hδ,show nn+1 - nn=1 by lia];rfl
   simp[e1,e2]
  have ay:(δ++[Sl.va a,Sl.va b]).take nn=δ:=by rw[Cs (by lia),Ca (by lia)]
  have aq:acc.length<16777216:=by simp at hl;lia
  cases hp:p (.tup [a,b]) with
  |true=>
   have ih:=U1 nn tb p fe f δ hδ ds (acc++[f (.tup [a,b])]) (fun e he=>h e (Ah _ he)) (by simp at hl⊢;lia);have h2:=h2 hp;rw[hp] at h1;simp only[SM,J1,du,KG,h1,AZ,h2,A0,if_pos aq,ay,ih];simp[hp]
  |false=>
   have ih:=U1 nn tb p fe f δ hδ ds acc (fun e he=>h e (Ah _ he)) (by simp at hl⊢;lia);rw[hp] at h1;simp only[SM,J1,du,KG,h1,zDH,ay,ih];simp[hp]
noncomputable def ost(ns:List Int)(n:Nat)(blk:dP)(ps:List (Int×Int))(left made:List Int)(s6:Sl):Ev:=
 [.va (X0 ns),.ow (YG n),.va blk,.va (.lst (ps.map Z4)),.ow (.lst (left.map .int)),.ow (.lst (made.map .int)),s6]
noncomputable def pw(left:List Int)(r:Int):dP->Bool
 | .tup [.int a,.int b]=>decide (b=r) && QS (.int a) (left.map .int)
 |_=>false
theorem QE{i:Int}: ∀{as:List Int},QS (.int i) (as.map .int)=true↔i∈as
 |[]=>by simp
 |a::as=>by
  rw[Ar,zAQ,Er,zB1,decide_eq_true_eq,QE (as:=as),Al];exact⟨fun h=>h.imp Eq.symm id,fun h=>h.imp Eq.symm id⟩
theorem zBC(ps:List (Int×Int))(left:List Int)(r:Int)(hp:ps.length<16777216):
  aU 2 2 (GP 2 3) (QQ (fB (f2 YC (fV 3) (fV 1))) (fB (f2 (bE false) (fV 2) (fO 0)))) (fC (.int 1)) (ps.map Z4) [] [.ow (.lst (left.map .int)),.va (.int r)]=some (((ps.map Z4).filter (pw left r)).map fun _=> .int 1,[.ow (.lst (left.map .int)),.va (.int r)]):=by
 have hin: ∀a:Int,bE false (.int a) (.lst (left.map .int))=some (.bl (QS (.int a) (left.map .int))):=fun a=>by
  rw[L0 (j:=0) (k:=0) ZN (aH left)];simp
 have:=U1 2 (QQ (fB (f2 YC (fV 3) (fV 1))) (fB (f2 (bE false) (fV 2) (fO 0)))) (pw left r) (fC (.int 1)) (fun _=> .int 1) [.ow (.lst (left.map .int)),.va (.int r)] rfl (ps.map Z4) [] (fun d hd=>by
  obtain⟨⟨a,b⟩,_,rfl⟩:=Bd.mp hd;refine⟨.int a,.int b,rfl,?_,fun _=>by simp⟩;have hi:=hin a;have hpw:pw left r (Z4 (a,b))=(decide (b=r) && QS (.int a) (left.map .int)):=rfl;rw[hpw];generalize left.map dP.int=L at*;by_cases hb:b=r
  ·simp[hb,hi]
  ·simp[hb]) (by simpa using hp)
 simpa using this
theorem OJ{ds:List dP}:HB (.lst ds) (.lst [])=ds.isEmpty:=by cases ds<;>rfl
def rdD(ps:List (Int×Int))(left:List Int):dP->Bool
 | .int r=>((ps.map Z4).filter (pw left r)).isEmpty
 |_=>false
theorem PM{x:Int}: ∀{ns:List Int},x∈ns-> ∃j,WI x ns=some j/\ns.eraseIdx j=ns.erase x
 | i :: ns,h => by
  unfold WI;by_cases e:i=x
  ·rw[if_pos e];exact⟨0,rfl,by simp[e]⟩
  ·rw[if_neg e]
   obtain⟨j,h1,h2⟩:=PM (ns:=ns) (by
    rcases Al.mp h with z|z
    ·exact absurd z.symm e
    ·exact z)
   refine⟨j+1,by rw[h1];rfl,?_⟩;rw[List.eraseIdx_cons_succ,h2,List.erase_cons_tail (by simpa using e)]
theorem zCO{x:Int}{ns:List Int}(h:x∈ns):mRem (ns.map .int) [.int x]=some ((ns.erase x).map .int):=by
 obtain⟨j,h1,h2⟩:=PM h;show(YZ (ns.map .int)).bind (fun ns=>(WI x ns).map fun j=>(ns.eraseIdx j).map dP.int)=_;rw[YI,At,h1,Qk,h2]
theorem F5{ps:List (Int×Int)}{left:List Int}{r:Int}:rdD ps left (.int r)=true↔ ∀p∈ps,p.2=r->p.1∉left:=by
 show((ps.map Z4).filter (pw left r)).isEmpty=true↔_;rw[Ox,Lg];constructor
 ·intro h p hp he hl
  have:=h (Z4 p) (Bd.mpr ⟨p,hp,rfl⟩);refine this ?_;show(decide (p.2=r) && QS (.int p.1) (left.map .int))=true;rw[QE.mpr hl,he];simp
 ·intro h d hd z
  obtain⟨p,hp,rfl⟩:=Bd.mp hd;have z:(decide (p.2=r) && QS (.int p.1) (left.map .int))=true:=z;rw[Ae,decide_eq_true_eq,QE] at z;exact h p hp z.1 z.2
theorem A7(ps:List (Int×Int))(left:List Int)(hp:ps.length<16777216)(hll:left.length<16777216):
  aU 2 1 (gN 2) (fB (f2 YC (bW [1,2] 2 (ZZ (fV 0)) (IV 2 (bI (gN 2) (bI (gN 3) W7))) (QQ (fB (f2 YC (fV 3) (fV 1))) (fB (f2 (bE false) (fV 2) (fO 0)))) (fC (.int 1))) (ZL cP))) (fV 2) (left.map .int) [] [.va (.lst (ps.map Z4)),.ow (.lst (left.map .int))]=some ((left.filter fun r=>rdD ps left (.int r)).map .int,[.va (.lst (ps.map Z4)),.ow (.lst (left.map .int))]):=by
 have:=XV 2 (fB (f2 YC (bW [1,2] 2 (ZZ (fV 0)) (IV 2 (bI (gN 2) (bI (gN 3) W7))) (QQ (fB (f2 YC (fV 3) (fV 1))) (fB (f2 (bE false) (fV 2) (fO 0)))) (fC (.int 1))) (ZL cP))) (rdD ps left) (fV 2) id [.va (.lst (ps.map Z4)),.ow (.lst (left.map .int))] rfl (left.map .int) [] (fun d hd=>by
  obtain⟨r,_,rfl⟩:=Bd.mp hd;refine⟨?_,fun _=>by simp⟩;have w:=zBC ps left r hp;have hq:YC (.lst (((ps.map Z4).filter (pw left r)).map fun _=>dP.int 1)) (.lst [])=some (.bl (rdD ps left (.int r))):=by
   rw[zA6 (j:=1) (k:=1) (aZ fun d hd=>by
    obtain⟨_,_,rfl⟩:=Bd.mp hd;exact ZN) (aZ aA),OJ,Pd]
   rfl
  generalize ((ps.map Z4).filter (pw left r)).map (fun _=>dP.int 1)=W at*;generalize rdD ps left (.int r)=B at*;generalize left.map dP.int=L at*;generalize ps.map Z4=Q at*;simp[cF,w,hq]) (by simpa using hll)
 rw[this,Jl];simp[Oe]
theorem zCC(ns:List Int)(n:Nat)(blk:dP)(ps:List (Int×Int))(left made:List Int)(s6:Sl)(hl:ns.length<=63)(hn:n<800000)(hne:left≠[])(hs:left.Pairwise (· < ·))(hlt: ∀p∈ps,p.1<p.2)(hll:left.length<1000)(hml:made.length<1000)(hpl:ps.length<10000):
  ∃x∈left,(∀p∈ps,p.2=x->p.1∉left)/\ ∃s6',aL (ost ns n blk ps left made s6)=some (.nx (ost ns (n+1) blk ps (left.erase x) (made++[x]) s6')):=by
 have hr:=A7 ps left (by lia) (by lia);have h0:0<((left.filter fun r=>rdD ps left (.int r)).map dP.int).length:=by
  match left,hne,hs with
  |a::t,_,hs=>
   have:a∈((a::t).filter fun r=>rdD ps (a::t) (.int r)):=by
    refine Dm.mpr ⟨Ai,F5.mpr fun p hp he hi=> ?_⟩;have h1:=hlt p hp;rw[he] at h1;rcases Al.mp hi with z|z
    ·lia
    ·have:=(Fg.mp hs).1 _ z
     lia
   rw[Bf];exact List.length_pos_of_mem this
 obtain⟨d,hd,ed⟩:=WH ns n ((left.filter fun r=>rdD ps left (.int r)).map .int) hl (by lia) h0;obtain⟨x,hx,rfl⟩:=Bd.mp hd;obtain⟨hx1,hx2⟩:=Dm.mp hx;have hm:=zCO hx1;have hla:=UV (made.map dP.int) (.int x);have o0:made.length<16777216:=by lia
 refine⟨x,hx1,F5.mp hx2,.va (.lst ((left.filter fun r=>rdD ps left (.int r)).map .int)),?_⟩;unfold aL;simp only[ost,Dn,Ar,Dj];generalize (left.filter fun r=>rdD ps left (.int r)).map dP.int=R at*;generalize (left.erase x).map dP.int=E at*;generalize left.map dP.int=L at*;generalize ps.map Z4=Q at*;have ny:(made.map dP.int).length<16777216:=by simpa using o0
 generalize made.map dP.int=D at*;simp[cF,hr,ed,hm,hla,ny]
theorem FW(ns:List Int)(blk:dP)(ps:List (Int×Int))(hl:ns.length<=63)(hlt: ∀p∈ps,p.1<p.2)(hpl:ps.length<10000): ∀(f n:Nat) (left made:List Int) (s6:Sl),left.length=f->n+f<700000->left.Pairwise (· < ·)->made.length+left.length<1000->(∀p∈ps,p.1∈made∨p.1∈left)->(∀p∈ps,∀k:Nat,made[k]? =some p.2->p.1∈made.take k)→
  ∃(order:List Int) (s6':Sl),order.Perm (made++left)/\(∀p∈ps,∀k:Nat,order[k]? =some p.2->p.1∈order.take k)/\bM (fB (f2 TJ (fO 4) (ZL cP))) aL (f+1) (ost ns n blk ps left made s6)=some (.nx (ost ns (n+f) blk ps [] order s6'))
 | 0,n,left,made,s6,hf,hn,hs,hm,h1,h2 => by
  have:left=[]:=Fv.mp hf;subst this;refine⟨made,s6,by simp,h2,P6 ?_⟩;have e:TJ (.lst []) (.lst [])=some (.bl false):=by
   rw[NB (j:=1) (k:=1) (aZ aA) (aZ aA),OJ];rfl
  simp[ost,e]
 | f + 1,n,left,made,s6,hf,hn,hs,hm,h1,h2 => by
  have hne:left≠[]:=fun z=>by rw[z] at hf;simp at hf
  obtain⟨x,hx,hp,u6,e1⟩:=zCC ns n blk ps left made s6 hl (by lia) hne hs hlt (by lia) (by lia) hpl;have hle:=List.length_erase_of_mem hx;obtain⟨order,s6',o1,o2,e2⟩:=FW ns blk ps hl hlt hpl f (n+1) (left.erase x) (made++[x]) u6 (by lia) (by lia) (hs.sublist (List.erase_sublist)) (by simp;lia) (fun p hp'=>by
   rcases h1 p hp' with z|z
   ·exact .inl (Cc.mpr (.inl z))
   ·by_cases hxx:p.1=x
    ·exact .inl (by simp[hxx])
    ·exact .inr ((List.mem_erase_of_ne hxx).mpr z)) (fun p hp' k hk=>by
   by_cases hkl:k<made.length
   ·rw[Ap hkl] at hk
    rw[Cs (by lia)];exact h2 p hp' k hk
   ·have di:=(Ag.mp hk).1
    simp at di;have:k=made.length:=by lia
    subst this;simp at hk;have hnl:=hp p hp' hk.symm;rw[Qp];exact(h1 p hp').resolve_right hnl)
  refine⟨order,s6',?_,o2,?_⟩
  ·refine o1.trans ?_
   rw[Cn,List.singleton_append];exact(List.perm_cons_erase hx).symm.append_left made
  ·have e:TJ (.lst (left.map .int)) (.lst [])=some (.bl true):=by
    rw[NB (j:=1) (k:=1) (aZ (aH left)) (aZ aA),OJ];cases left with
    |nil=>exact absurd rfl hne
    |cons=>rfl
   rw[K5 (δ1:=ost ns n blk ps left made s6) (by simp[ost,e]) e1,e2,show n+1+f=n+(f+1) by lia]
theorem DL{f:VF}{δ δ1:Ev}{j:Int}(h:f δ=some (.int j,δ1))(h0:0<=j)(h1:j<=16777216):UN f δ=some (.lst (bZ 0 j.toNat),δ1):=by
 unfold UN;rw[h,At];exact if_pos ⟨h0,h1⟩
def EF(k:Nat):List Int:=(Am k).map fun i:Nat=>(i:Int)
theorem zBS(k:Nat):bZ 0 k=(EF k).map .int:=by simp[bZ,EF]
theorem F8{k:Nat}{a:Int}:a∈EF k↔0<=a/\a<k:=by
 unfold EF;rw[Bd];constructor
 ·rintro ⟨i,hi,rfl⟩
  have:=Bk.mp hi;lia
 ·rintro ⟨h0,h1⟩
  exact⟨a.toNat,Bk.mpr (by lia),by lia⟩
theorem IA(k:Nat):(EF k).Pairwise (· < ·):=Kh _ (fun a b h=>by lia) (List.pairwise_lt_range)
theorem L8(k:Nat):(EF k).length=k:=by simp[EF]
theorem AD(ns:List Int)(n:Nat){sure:Int}{rows:List dP}{kds:List Kd}(hl:ns.length<=63)(hn:n<500000)(hb:Bl [] rows kds)(h40:rows.length<=10):
  ∃(ps:List (Int×Int)) (order:List Int),Prs rows ps/\order.Perm (EF rows.length)/\(∀p∈ps,∀k:Nat,order[k]? =some p.2->p.1∈order.take k)/\bA [X0 ns,YG n,.tup [.int sure,.tup rows]]=some (.lst (order.map .int),[YG (n+rows.length)]):=by
 obtain⟨ps,P,hpl,em⟩:=zCM (sure:=sure) hb h40;obtain⟨order,s6,o1,o2,e⟩:=FW ns (.tup [.int sure,.tup rows]) ps hl (fun p hp=>(P.lt p hp).2.1) (by lia) rows.length n (EF rows.length) [] .no (L8 _) (by lia) (IA _) (by simp[L8];lia) (fun p hp=> .inr (F8.mpr ⟨(P.lt p hp).1,by have:=P.lt p hp;lia⟩)) (fun p hp k hk=>by simp at hk);refine⟨ps,order,P,by simpa using o1,o2,?_⟩;have e:=NL e;simp only[ost,Dj] at e;have er:UN (f1 aR (f2 cZ (fV 2) (fC (.int 1)))) [.va (X0 ns),.ow (YG n),.va (.tup [.int sure,.tup rows]),.no,.no,.no,.no]=some (.lst ((EF rows.length).map .int),[.va (X0 ns),.ow (YG n),.va (.tup [.int sure,.tup rows]),.no,.no,.no,.no]):=by
  rw[<- zBS,DL (j:=(rows.length:Int)) (δ1:=[.va (X0 ns),.ow (YG n),.va (.tup [.int sure,.tup rows]),.no,.no,.no,.no]) (by simp) (by lia) (by lia)];simp
 unfold bA;rw[cR,YY.eq_1];generalize (EF rows.length).map dP.int=L at*;generalize order.map dP.int=O at*;generalize ps.map Z4=Q at*;simp[cI,em,er,e]
theorem a0.strong{M:Int->Prop}{row:dP}(h:a0 M row): ∃as:List Int,(∀a∈as,M a)/\a0 (· ∈as) row/\cB [row]=some (.lst (as.map .int),[]):=by
 cases h with
 | @number n h0 h1=>exact⟨[],(fun _ h=>nomatch h),.number h0 h1,by kernel_rfl⟩
 | @two x a b hx ha hb=>
  refine⟨[a,b],by simp[ha,hb],.two hx (by simp) (by simp),?_⟩;simp only[Al,Bg,or_false] at hx;rcases hx with rfl|rfl|rfl|rfl|rfl|rfl|rfl<;>kernel_rfl
 | @pick c a b hc ha hb=>exact⟨[c,a,b],by simp[hc,ha,hb],.pick (by simp) (by simp) (by simp),by kernel_rfl⟩
 | @load p h0 h1=>exact⟨[],(fun _ h=>nomatch h),.load h0 h1,by kernel_rfl⟩
 | @take p c a h0 h1 hc ha=>exact⟨[c,a],by simp[hc,ha],.take h0 h1 (by simp) (by simp),by kernel_rfl⟩
 | @store p a h0 h1 ha=>exact⟨[a],by simp[ha],.store h0 h1 (by simp),by kernel_rfl⟩
 | @put p a c h0 h1 ha hc=>exact⟨[a,c],by simp[ha,hc],.put h0 h1 (by simp) (by simp),by kernel_rfl⟩
theorem HZ{as:List Int}{row:dP}(h:a0 (· ∈as) row){ks:List b9}{vs:List dP}(μ:Int->Int)(hk: ∀a∈as,bX ks vs (.inl a)=some (.int (μ a))):
  ∃br,cS [row,.dct ks vs]=some (br,[])/\a0 (fun b=> ∃a∈as,b=μ a) br/\QI .w br=QI .w row:=by
 cases h with
 | @number n h0 h1=>
  refine⟨_,?_,.number h0 h1,rfl⟩;unfold cS;rw[cR];unfold bF;simp[cI]
 | @two x a b hx ha hb=>
  have z0:=(dne hx (y:= "number") (by decide)).1;have z1:=(dne hx (y:= "load") (by decide)).2;have z2:=(dne hx (y:= "take") (by decide)).2;have z3:=(dne hx (y:= "store") (by decide)).2;have z4:=(dne hx (y:= "put") (by decide)).2;refine⟨.tup [.str x,.int (μ a),.int (μ b)],?_,.two hx ⟨a,ha,rfl⟩ ⟨b,hb,rfl⟩,?_⟩
  ·unfold cS
   rw[cR];unfold bF;simp[cI,z0,z1,z2,z3,z4,cF,hk a ha,hk b hb]
  ·simp only[Al,Bg,or_false] at hx
   rcases hx with rfl|rfl|rfl|rfl|rfl|rfl|rfl<;>rfl
 | @pick c a b hc ha hb=>
  refine⟨.tup [.str "pick",.int (μ c),.int (μ a),.int (μ b)],?_,.pick ⟨c,hc,rfl⟩ ⟨a,ha,rfl⟩ ⟨b,hb,rfl⟩,rfl⟩;unfold cS;rw[cR];unfold bF;simp[cI,cF,hk a ha,hk b hb,hk c hc]
 | @load p h0 h1=>
  refine⟨.tup [.str "load",.int p],?_,.load h0 h1,rfl⟩;unfold cS;rw[cR];unfold bF;simp[cI,cF]
 | @take p c a h0 h1 hc ha=>
  refine⟨.tup [.str "take",.int p,.int (μ c),.int (μ a)],?_,.take h0 h1 ⟨c,hc,rfl⟩ ⟨a,ha,rfl⟩,rfl⟩;unfold cS;rw[cR];unfold bF;simp[cI,cF,hk a ha,hk c hc]
 | @store p a h0 h1 ha=>
  refine⟨.tup [.str "store",.int p,.int (μ a)],?_,.store h0 h1 ⟨a,ha,rfl⟩,rfl⟩;unfold cS;rw[cR];unfold bF;simp[cI,cF,hk a ha]
 | @put p a c h0 h1 ha hc=>
  refine⟨.tup [.str "put",.int p,.int (μ a),.int (μ c)],?_,.put h0 h1 ⟨a,ha,rfl⟩ ⟨c,hc,rfl⟩,rfl⟩;unfold cS;rw[cR];unfold bF;simp[cI,cF,hk a ha,hk c hc]
theorem Bl.at{kds ak:List Kd}{rows:List dP}(h:Bl kds rows ak): ∀{j:Nat} {row:dP},rows[j]? =some row->a0 (fun a=>Nm ak .w a/\a<kds.length+j) row/\ak[kds.length+j]? =some (QI .w row)/\ ∀a,Nm kds .w a->Nm ak .w a:=by
 have keep: ∀{k k':List Kd} {rs:List dP},Bl k rs k'-> ∀(i:Nat) (x:Kd),k[i]? =some x->k'[i]? =some x:=by
  intro k k' rs h;induction h with
  |nil=>exact fun _ _ z=>z
  |cons _ _ ih=>exact fun i x z=>ih i x (by rw[Ap (Ag.mp z).1];exact z)
 induction h with
 |nil=>intro j row hr;simp at hr
 | @cons kds ak r rows a t ih=>
  intro j row hr;cases j with
  |zero=>
   simp at hr;subst hr;refine⟨a.imp fun x hx=>⟨⟨hx.1,keep t _ _ (hx.snoc (j:=QI .w r)).2⟩,by have:=hx.lt;lia⟩,keep t _ _ (by simp),fun x hx=>⟨hx.1,keep t _ _ (hx.snoc (j:=QI .w r)).2⟩⟩
  |succ j=>
   obtain⟨h1,h2,h3⟩:=ih (by simpa using hr);rw[Bv,Ih] at h1 h2;refine⟨h1.imp fun x hx=>⟨hx.1,by have:=hx.2;lia⟩,by rw[show kds.length+(j+1)=kds.length+1+j by lia];exact h2,fun x hx=>h3 x hx.snoc⟩
noncomputable def swD:dP->dP
 | .tup [a,b]=> .tup [b,a]
 |_=> .non
noncomputable def CS:Nat->List Int->List (b9×dP)
 |_,[]=>[]
 |k,x::xs=>(.inl x,.int (k:Int))::CS (k+1) xs
theorem JP: ∀(xs:List Int) (k:Nat),SR ((YX k (xs.map .int)).map swD)=some (CS k xs)
 |[],_=>rfl
 |x::xs,k=>by
  rw[Ar,RG,Ar];show(kprD (.tup [.int x,.int (k:Int)])).bind (fun p=>(SR ((YX (k+1) (xs.map .int)).map swD)).map fun ps=>p::ps)=_;rw[JP xs (k+1)];rfl
theorem QH: ∀(xs:List Int) (k:Nat),(CS k xs).map Ct=xs.map .inl
 |[],_=>rfl
 |x::xs,k=>by rw[CS,Ar,QH xs (k+1)];rfl
theorem FH: ∀(xs:List Int) (k i:Nat),i<xs.length->((CS k xs).map Du)[i]? =some (.int ((k+i:Nat):Int))
 |[],_,i,h=>by simp at h
 |x::xs,k,0,_=>rfl
 |x::xs,k,i+1,h=>by
  have:=FH xs (k+1) i (by simpa using h);rw[CS,Ar,List.getElem?_cons_succ,this];congr 3;lia
theorem zAF{order:List Int}(nd:order.Nodup){a:Int}(ha:a∈order):bX ((CS 0 order).map Ct) ((CS 0 order).map Du) (.inl a)=some (.int (order.idxOf a:Int)):=by
 have hi:order.idxOf a<order.length:=Jm ha;rw[JU _ _ (order.idxOf a) (.inl a) ?_ (by simp) ?_,FH _ _ _ hi]
 ·simp
 ·rw[QH]
  exact Kh _ (fun a b h e=>h (by injection e)) nd
 ·rw[QH,Cv,Eh hi,Nk hi]
  rfl
def VY(rows:List dP)(r:Int):dP:=(rows[r.toNat]?).getD .non
noncomputable def HY(rows:List dP)(names:dP):dP->dP
 | .int r=>match cS [VY rows r,names] with
  |some (d,_)=>d
  |none=> .non
 |_=> .non
theorem F6{rows os:List dP}{names br:dP}{r:Int}(e:cS [VY rows r,names]=some (br,os)):HY rows names (.int r)=br:=by simp only[HY,e]
def LR(order:List Int):dP:= .dct ((CS 0 order).map Ct) ((CS 0 order).map Du)
theorem zDC{rows:List dP}{kds:List Kd}(hb:Bl [] rows kds){ps:List (Int×Int)}(P:Prs rows ps){order:List Int}(o1:order.Perm (EF rows.length))(o2: ∀p∈ps,∀k:Nat,order[k]? =some p.2->p.1∈order.take k){pre rest:List Int}{r:Int}(ho:order=pre++r::rest):
  ∃br,cS [VY rows r,LR order]=some (br,[])/\V1 rows r=some (VY rows r)/\a0 (Nm (pre.map fun a=>QI .w (VY rows a)) .w) br/\QI .w br=QI .w (VY rows r):=by
 have nd:order.Nodup:=o1.nodup_iff.mpr ((IA _).imp fun h=>by lia);have hr:r∈order:=by rw[ho];simp
 have hr2:=F8.mp (o1.mem_iff.mp hr);have g9:rows[r.toNat]? =some (VY rows r):=by
  unfold VY;rw[Eh (by lia)];rfl
 obtain⟨h1,h2,_⟩:=hb.at g9;obtain⟨as,a1,a2,a3⟩:=h1.strong;have dw: ∀a∈as,a∈pre:=fun a ha=>by
  have h3:=a1 a ha;have h4:a<r:=by have:=h3.2;simp at this;lia
  have hp:=P.nm r.toNat _ as g9 a3 a ha h3.1.1 (by lia);have:=o2 _ hp pre.length (by rw[ho];simp;lia);rw[ho,Qp] at this;exact this
 obtain⟨br,e,ok,mk⟩:=HZ a2 (ks:=(CS 0 order).map Ct) (vs:=(CS 0 order).map Du) (fun a=>(order.idxOf a:Int)) (fun a ha=>zAF nd (by rw[ho];exact Cc.mpr (.inl (dw a ha))));refine⟨br,e,by rw[XD hr2.1 (by lia)];exact g9,ok.imp fun b hb'=> ?_,mk⟩;obtain⟨a,ha,rfl⟩:=hb';have hap:=dw a ha;have hi:pre.idxOf a<pre.length:=Jm hap;have hio:order.idxOf a=pre.idxOf a:=by rw[ho,List.idxOf_append,if_pos hap]
 refine⟨by lia,?_⟩;rw[hio,Gq,Cv,Eh hi,Nk hi];have h3:=(a1 a ha).1;have hlt:=h3.lt;have ag:kds.length=rows.length:=by simpa using hb.len
 have ls:rows[a.toNat]? =some (VY rows a):=by
  unfold VY;rw[Eh (by have:=h3.1;lia)];rfl
 obtain⟨_,h5,_⟩:=hb.at ls;simp only[Hj,Hc] at h5;have:=h3.2;rw[h5] at this;injection this with this;rw[Qk,this]
theorem A8{rows:List dP}{kds:List Kd}(hb:Bl [] rows kds){ps:List (Int×Int)}(P:Prs rows ps){order:List Int}(o1:order.Perm (EF rows.length))(o2: ∀p∈ps,∀k:Nat,order[k]? =some p.2->p.1∈order.take k): ∀(rest pre:List Int),order=pre++rest->Bl (pre.map fun a=>QI .w (VY rows a)) ((rest.map .int).map (HY rows (LR order))) (order.map fun a=>QI .w (VY rows a))
 |[],pre,ho=>by rw[ho,Ef];exact .nil
 |r::rest,pre,ho=>by
  obtain⟨br,e,_,ok,mk⟩:=zDC hb P o1 o2 ho;have er:=F6 e;have ih:=A8 hb P o1 o2 rest (pre++[r]) (by rw[ho,Cn];rfl);rw[Ar,Ar,er];refine .cons ok ?_;rw[mk];simpa using ih
theorem zB7(ns:List Int)(n:Nat)(most:Int)(hl:ns.length<=63)(hn:n<100000)(h0:0<=most)(h40:most<=10):
  ∃(sure:Int) (rows:List dP) (kds:List Kd) (n':Nat),Bl [] rows kds/\(rows.length:Int)<=most/\0<=sure/\sure<=64/\n'<=n+1000/\aC [X0 ns,YG n,.int most]=some (.tup [.int sure,.tup rows],[YG n']):=by
 obtain⟨x,hx,ex⟩:=WH ns n [.int 3,.int 6,.int 9,.int 64] hl (by lia) (by simp);obtain⟨ab,rfl,r0,r1⟩: ∃q:Int,x= .int q/\0<q/\q<=64:=by
  simp only[Al,Bg,or_false] at hx;rcases hx with rfl|rfl|rfl|rfl<;>exact⟨_,rfl,by lia,by lia⟩
 have d1:=YA ns (n+1) (ab+1) hl (by lia) (by lia);have d1a:=Q0 ns (n+1) (b:=ab+1) (by lia);have d1b:N5 ns (n+1) (ab+1)<ab+1:=Eb _ (by lia);obtain⟨y,hy,ey⟩:=WH ns (n+2) [.int 0,.int ab,.int ab,.int (N5 ns (n+1) (ab+1))] hl (by lia) (by simp);obtain⟨sure,rfl,s0,s1⟩: ∃q:Int,y= .int q/\0<=q/\q<=64:=by
  simp only[Al,Bg,or_false] at hy;rcases hy with rfl|rfl|rfl|rfl<;>exact⟨_,rfl,by lia,by lia⟩
 have d2:=YA ns (n+3) (most+1) hl (by lia) (by lia);have d2a:=Q0 ns (n+3) (b:=most+1) (by lia);have d2b:N5 ns (n+3) (most+1)<most+1:=Eb _ (by lia);obtain⟨rows,kds,n1,hb,ag,m1,m2,e1⟩:=zBR ns (n+4) (N5 ns (n+3) (most+1)) ab hl (by lia) r0 r1 d2a (by lia);have d3:=YA ns n1 3 hl (by lia) (by decide);have hrl:rows.length<=10:=by lia
 by_cases h3:0<N5 ns n1 3
 ·refine ⟨sure,rows,kds,n1 + 1,hb,by lia,s0,s1,by lia,?_⟩
  unfold aC;rw[cR];unfold W6;simp[cI,ex,d1,ey,d2,e1,d3,h3]
 ·obtain ⟨ps,order,P,o1,o2,e2⟩ := AD ns (n1 + 1) (sure := sure) hl (by lia) hb hrl
  have hol:order.length=rows.length:=by rw[o1.length_eq,L8]
  have nd:order.Nodup:=o1.nodup_iff.mpr ((IA _).imp fun h=>by lia);have c1:=U1 0 ZX (fun _=>true) (aN (dL (fV 1) (dL (fV 0) cP))) swD [] rfl (YX 0 (order.map .int)) [] (fun d hd=>by
   obtain⟨i,hi,e⟩:=List.getElem_of_mem hd;obtain⟨z,_,rfl⟩:=OH (Ag.mpr ⟨hi,e⟩);exact⟨_,_,rfl,by simp,fun _=>by simp[swD]⟩) (by rw[OI];simp;lia)
  have f1:(YX 0 (order.map dP.int)).filter (fun _=>true)=YX 0 (order.map .int):=Mo.mpr fun _ _=>rfl;rw[f1,Bh] at c1;have hd:FS (.lst ((YX 0 (order.map .int)).map swD))=some (LR order):=by
   show(SR ((YX 0 (order.map .int)).map swD)).bind (fun kds=>if(kds.map Ct).Nodup then some (dP.dct (kds.map Ct) (kds.map Du)) else none)=_;rw[JP,At,if_pos]
   ·rfl
   ·rw[QH]
    exact Kh _ (fun a b h e=>h (by injection e)) nd
  have c2:=YW 2 (dC 2 [] cS (aE (f2 cZ (f2 cZ (fV 0) (fC (.int 1))) (fV 2)) (aE (fV 1) cN))) [.va (.tup [.int sure,.tup rows]),.va (LR order)] (HY rows (LR order)) rfl (order.map .int) [] (fun d hd=>by
   obtain⟨r,hr,rfl⟩:=Bd.mp hd;obtain⟨pre,rest,ho⟩:=List.append_of_mem hr;obtain⟨br,e,ea,_,_⟩:=zDC hb P o1 o2 ho;have er:=F6 e;rw[er];simp[ea,e]) (by simp;lia)
  rw[Bh] at c2;have B:=A8 hb P o1 o2 order [] rfl;refine⟨sure,(order.map .int).map (HY rows (LR order)),_,n1+1+rows.length,B,by simp;lia,s0,s1,by lia,?_⟩;have h3': ¬0<N5 ns n1 3:=h3;unfold aC;rw[cR];unfold W6;have hln:((order.map dP.int).map (HY rows (LR order))).length<=16777216:=by simp;lia
  generalize (order.map dP.int).map (HY rows (LR order))=R at*;generalize (YX 0 (order.map dP.int)).map swD=S at*;generalize LR order=D at*;simp[cI,ex,d1,ey,d2,e1,d3,h3',e2,cF,c1,hd,c2]
noncomputable def CQ:Kd->Bool
 | .w=>true
 |_=>false
theorem zJS{kds:List Kd}{a:Int}(h:Nm kds .w a):Ab (kds.map CQ) a:=⟨h.1,by rw[Cv,h.2];rfl⟩
theorem mkw{x:String}{t:List dP}:ZH [.tup (.str x::t)]=some (.bl (CQ (QI .w (.tup (.str x::t)))),[]):=by
 unfold ZH;rw[cR];unfold V8;by_cases h:x= "store"
 ·subst h
  simp[cI,Y9,QI,aY,CQ]
 ·by_cases h2:x= "put"
  ·subst h2
   simp[cI,Y9,QI,aY,CQ]
  ·have h3 : ¬ "store" = x := fun z => h z.symm
   have h4: ¬ "put"=x:=fun z=>h2 z.symm;simp[cI,Y9,QI,aY,CQ,h,h2,h3,h4]
theorem zD6(rest:List dP)(blk rws:dP)(sure:Int){kds ak:List Kd}{rows:List dP}(h:Bl kds rows ak):kds.length+rows.length<1000-> ∀s:Sl,∃s',XW (gN 4) YU (rows++rest) [.va blk,.va (.int sure),.va rws,.ow (.lst ((kds.map CQ).map .bl)),s]=XW (gN 4) YU rest [.va blk,.va (.int sure),.va rws,.ow (.lst ((ak.map CQ).map .bl)),s']:=by
 induction h with
 |nil=>exact fun _ s=>⟨s,rfl⟩
 | @cons kds ak row rows ok h ih=>
  intro hk s;obtain⟨s',ih⟩:=ih (by simp at hk⊢;lia) (.va row);refine⟨s',?_⟩;have e:=zAL (ok.imp fun a=>zJS);obtain⟨x,t,rfl,_⟩:=SZ ok;have hk':kds.length<16777216:=by simp at hk;lia
  rw[Dn,Dn] at ih;simp only[Ar,Dj] at ih;rw[Fy,TL,OL,PP];have b1:YU [.va blk,.va (.int sure),.va rws,.ow (.lst ((kds.map CQ).map .bl)),.va (.tup (.str x::t))]=some (.nx [.va blk,.va (.int sure),.va rws,.ow (.lst ((kds.map CQ).map .bl++[.bl (CQ (QI .w (.tup (.str x::t))))])),.va (.tup (.str x::t))]):=by
   unfold YU;simp only[Cm] at e;simp[e,mkw,hk',dP.hard]
  have s1:([.va blk,.va (.int sure),.va rws,.ow (.lst ((kds.map CQ).map .bl)),s]:Ev).set 4 (.va (.tup (.str x::t)))=[.va blk,.va (.int sure),.va rws,.ow (.lst ((kds.map CQ).map .bl)),.va (.tup (.str x::t))]:=rfl;rw[s1,b1,PQ];exact ih
theorem HF{sure:Int}{rows:List dP}{kds:List Kd}(h:Bl [] rows kds)(s0:0<=sure)(s1:sure<=64)(r40:rows.length<=40):ZA [.tup [.int sure,.tup rows]]=some (.bl true,[]):=by
 obtain⟨s',e1⟩:=zD6 [] (.tup [.int sure,.tup rows]) (.tup rows) sure h (by simp;lia) .no;rw[Ef] at e1;simp only[Dj] at e1;have h40: ¬(40:Int)<(rows.length:Int):=by lia
 unfold ZA;rw[cR,TM.eq_1];simp[cI,UX,UW,s0,s1,h40,e1]
def C5(n:Nat)(s:List Int):Prop:=s.Pairwise (· < ·)/\ ∀i∈s,0<=i/\i<n
noncomputable def YT:Nat->List (List Int)
 |0=>[[]]
 |n+1=>YT n++(YT n).map fun s=>s++[(n:Int)]
theorem XG{n:Nat}{s:List Int}{b:Int}:C5 n (s++[b])↔C5 n s/\(∀i∈s,i<b)/\0<=b/\b<n:=by
 unfold C5;rw[Mb];constructor
 ·rintro ⟨⟨h1,_,h2⟩,h3⟩
  exact⟨⟨h1,fun i hi=>h3 i (Bo _ hi)⟩,fun i hi=>h2 i hi b (by simp),h3 b (by simp)⟩
 ·rintro ⟨⟨h1,h2⟩,h3,h4⟩
  refine⟨⟨h1,Hn _ _,fun i hi j hj=> ?_⟩,fun i hi=> ?_⟩
  ·obtain rfl:=Ax.mp hj
   exact h3 i hi
  ·rcases Cc.mp hi with hi|hi
   ·exact h2 i hi
   ·obtain rfl:=Ax.mp hi
    exact h4
theorem X6: ∀{n:Nat} {s:List Int},s∈YT n↔C5 n s
 | 0,s => by
  constructor
  ·intro h
   obtain rfl:=Ax.mp h;exact⟨.nil,fun i hi=>by cases hi⟩
  ·rintro ⟨_,h⟩
   cases s with
   |nil=>exact Ax.mpr rfl
   |cons i s=>have:=h i Ai;lia
 | n + 1,s => by
  show s∈YT n++_↔_;rw[Cc,Bd];constructor
  ·rintro (h|⟨t,h,rfl⟩)
   ·obtain⟨h1,h2⟩:=X6.mp h
    exact⟨h1,fun i hi=>by have:=h2 i hi;lia⟩
   ·obtain⟨h1,h2⟩:=X6.mp h
    exact XG.mpr ⟨⟨h1,fun i hi=>by have:=h2 i hi;lia⟩,fun i hi=>(h2 i hi).2,by lia,by lia⟩
  ·intro h
   rcases Fh s with rfl|⟨t,b,rfl⟩
   ·exact .inl (X6.mpr ⟨.nil,fun i hi=>by cases hi⟩)
   ·rw[Fi] at h⊢
    obtain⟨⟨h1,h2⟩,h3,h4,h5⟩:=XG.mp h;by_cases e:b=n
    ·subst e
     exact .inr ⟨t,X6.mpr ⟨h1,fun i hi=>⟨(h2 i hi).1,h3 i hi⟩⟩,rfl⟩
    ·exact .inl (X6.mpr (XG.mpr ⟨⟨h1,fun i hi=>by have:=h2 i hi;have:=h3 i hi;lia⟩,h3,h4,by lia⟩))
theorem MC: ∀n:Nat,(YT n).Nodup
 |0=>by simp[YT]
 |n+1=>by
  refine Ke.mpr ⟨MC n,(Ft.mpr ((MC n).imp fun h e=>h (List.append_cancel_right e))),fun a ha b hb e=> ?_⟩;obtain⟨t,_,rfl⟩:=Bd.mp hb;subst e;have:=(X6.mp ha).2 n (by simp);lia
def bG(n m:Nat):List Int:=((Am n).filter fun r=>m.testBit r).map fun r:Nat=>(r:Int)
theorem JW: ∀n:Nat,(Am (2 ^ n)).map (bG n)=YT n
 |0=>rfl
 | n + 1 => by
  have ih:=JW n;rw[Nat.pow_succ,Nat.mul_two,List.range_add,Dn,Cm];show _=YT n++(YT n).map fun s=>s++[(n:Int)];rw[<- ih,Cm];congr 1
  ·refine Ck fun m hm => ?_
   have:=Bk.mp hm;unfold bG;rw[Ql,Js,Dn,List.filter_cons_of_neg (by rw[Lh this];decide)];simp
  ·refine Ck fun m hm => ?_
   have:=Bk.mp hm;simp only[Ir];unfold bG;rw[Ql,Js,Dn,List.filter_cons_of_pos (by rw[Nat.testBit_two_pow_add_eq,Lh this];rfl)];congr 2;refine Ki fun r hr=> ?_;rw[Nat.testBit_two_pow_add_gt (Bk.mp hr)]
def WQ(n:Nat)(s:List Int):List (List Int):=(Am ((n:Int) - (s.getLastD 0+1)).toNat).map fun k:Nat=>s++[s.getLastD 0+1+k]
noncomputable def VV(P:List Int->Bool)(n:Nat):Nat->List (List Int)
 |0=>(Am n).map fun r:Nat=>[(r:Int)]
 |k+1=>((VV P n k).flatMap (WQ n)).filter P
theorem OZ{n:Nat}{s:List Int}{b:Int}(hs:C5 n s)(hne:s≠[]):s++[b]∈WQ n s↔C5 n (s++[b]):=by
 obtain⟨t,c,rfl⟩: ∃t c,s=t++[c]:=by
  rcases Fh s with e|⟨t,c,e⟩
  ·exact absurd e hne
  ·exact⟨t,c,by rw[e,Fi]⟩
 obtain⟨_,h3,h4,h5⟩:=XG.mp hs;have el:(t++[c]).getLastD 0=c:=by simp
 rw[XG];unfold WQ;rw[el,Bd];constructor
 ·rintro ⟨k,hk,e⟩
  have hk:=Bk.mp hk;obtain⟨_,e⟩:=List.append_inj' e rfl;simp at e;subst e;refine⟨hs,fun i hi=> ?_,by lia,by lia⟩;rcases Cc.mp hi with hi|hi
  ·have:=h3 i hi;lia
  ·have:=Ax.mp hi;lia
 ·rintro ⟨_,g1,g2,g3⟩
  have:=g1 c (by simp);exact⟨(b - (c+1)).toNat,Bk.mpr (by lia),by congr 2;lia⟩
theorem UM{n:Nat}{s u:List Int}(h:u∈WQ n s): ∃b,u=s++[b]:=by
 obtain⟨k,_,e⟩:=Bd.mp h;exact⟨_,e.symm⟩
theorem WC{P:List Int->Bool}{n:Nat}(hP: ∀s b,P (s++[b])=true->P s=true): ∀{k:Nat} {s:List Int},s∈VV P n k↔C5 n s/\s.length=k+1/\(k=0∨P s=true)
 | 0,s => by
  show s∈(Am n).map _↔_;rw[Bd];constructor
  ·rintro ⟨r,hr,rfl⟩
   have:=Bk.mp hr;exact⟨⟨Hn _ _,fun i hi=>by have:=Ax.mp hi;lia⟩,rfl,.inl rfl⟩
  ·rintro ⟨⟨_,h1⟩,h2,_⟩
   match s,h2 with
   |[i],_=>
    have:=h1 i Ai;exact⟨i.toNat,Bk.mpr (by lia),by congr 1;lia⟩
 | k + 1,s => by
  show s∈((VV P n k).flatMap (WQ n)).filter P↔_;rw[Dm,Lb];constructor
  ·rintro ⟨⟨t,h1,h2⟩,h3⟩
   obtain⟨b,rfl⟩:=UM h2;obtain⟨g1,g2,_⟩:=(WC hP).mp h1;exact⟨(OZ g1 (fun e=>by rw[e] at g2;simp at g2)).mp h2,by simp[g2],.inr h3⟩
  ·rintro ⟨h1,h2,h3⟩
   have h3:=h3.resolve_left (by lia);obtain⟨t,b,rfl⟩: ∃t c,s=t++[c]:=by
    rcases Fh s with e|⟨t,c,e⟩
    ·rw[e] at h2;simp at h2
    ·exact⟨t,c,by rw[e,Fi]⟩
   have hl:t.length=k+1:=by simpa using h2
   have ht:=(XG.mp h1).1;exact⟨⟨t,(WC hP).mpr ⟨ht,hl,.inr (hP _ _ h3)⟩,(OZ ht (fun e=>by rw[e] at hl;simp at hl)).mpr h1⟩,h3⟩
theorem FK: ∀{a b:List Int} (x y:List Int),a.length=b.length->TS.lexL a b=true->TS.lexL (a++x) (b++y)=true
 |[],[],_,_,_,h=>by simp[TS.lexL] at h
 |[],_::_,_,_,e,_=>by simp at e
 |_::_,[],_,_,e,_=>by simp at e
 | i :: a,j :: b,x,y,e,h => by
  unfold TS.lexL at h;show TS.lexL (i::(a++x)) (j::(b++y))=true;unfold TS.lexL;by_cases q:i=j
  ·rw[if_pos q] at h⊢
   exact FK x y (by simpa using e) h
  ·rw[if_neg q] at h⊢
   exact h
theorem OW{i j:Int}(h:i<j): ∀s:List Int,TS.lexL (s++[i]) (s++[j])=true
 |[]=>by
  show TS.lexL [i] [j]=true;unfold TS.lexL;rw[if_neg (by lia)];exact decide_eq_true h
 |a::s=>by
  show TS.lexL (a::(s++[i])) (a::(s++[j]))=true;unfold TS.lexL;rw[if_pos rfl];exact OW h s
theorem Q1{n:Nat}: ∀{L:List (List Int)} {k:Nat},(∀s∈L,s.length=k)->(L.Pairwise fun a b=>TS.lexL a b=true)->((L.flatMap (WQ n)).Pairwise fun a b=>TS.lexL a b=true)
 |[],_,_,_=> .nil
 | s :: L,k,hk,h => by
  rw[Gr];obtain⟨h1,h2⟩:=Fg.mp h;refine Mb.mpr ⟨?_,Q1 (fun t ht=>hk t (Ah _ ht)) h2,fun a ha b hb=> ?_⟩
  ·unfold WQ
   exact Ft.mpr (List.pairwise_lt_range.imp fun h=>OW (by lia) _)
  ·obtain⟨t,ht,hb⟩:=Lb.mp hb
   obtain⟨x,rfl⟩:=UM ha;obtain⟨y,rfl⟩:=UM hb;exact FK _ _ (by rw[hk s Ai,hk t (Ah _ ht)]) (h1 t ht)
theorem OY{P:List Int->Bool}{n:Nat}(hP: ∀s b,P (s++[b])=true->P s=true): ∀k:Nat,(VV P n k).Pairwise fun a b=>TS.lexL a b=true
 |0=>Ft.mpr (List.pairwise_lt_range.imp fun h=>OW (by lia) [])
 |k+1=>(Q1 (k:=k+1) (fun s hs=>((WC hP).mp hs).2.1) (OY hP k)).filter _
theorem P1{α:Type}{r:α->α->Prop}(hi: ∀a,¬r a a)(ht: ∀a b c,r a b->r b c->r a c): ∀{l m:List α},l.Pairwise r->m.Pairwise r->(∀x,x∈l↔x∈m)->l=m
 |[],[],_,_,_=>rfl
 |[],b::m,_,_,h=>by have:=(h b).mpr Ai;cases this
 |a::l,[],_,_,h=>by have:=(h a).mp Ai;cases this
 | a :: l,b :: m,h1,h2,h => by
  obtain⟨p1,p2⟩:=Fg.mp h1;obtain⟨q1,q2⟩:=Fg.mp h2;have e:a=b:=by
   rcases Al.mp ((h a).mp Ai) with e|e
   ·exact e
   ·rcases Al.mp ((h b).mpr Ai) with g|g
    ·exact g.symm
    ·exact absurd (ht _ _ _ (p1 b g) (q1 a e)) (hi _)
  subst e;congr 1;refine P1 hi ht p2 q2 fun x=>⟨fun hx=> ?_,fun hx=> ?_⟩
  ·rcases Al.mp ((h x).mp (Ah _ hx)) with e|e
   ·exact absurd (e▸p1 x hx) (hi _)
   ·exact e
  ·rcases Al.mp ((h x).mpr (Ah _ hx)) with e|e
   ·exact absurd (e▸q1 x hx) (hi _)
   ·exact e
theorem BR{P:List Int->Bool}{n k:Nat}(hP: ∀s b,P (s++[b])=true->P s=true)(hk:k≠0){M:List (List Int)}(h1:M.Perm ((YT n).filter fun s=>decide (s.length=k+1) && P s))(h2:M.Pairwise fun a b=>TS.lexL b a=false):M=VV P n k:=by
 have nd:M.Nodup:=h1.nodup_iff.mpr ((MC n).filter _);refine P1 (r:=fun a b=>TS.lexL a b=true) (fun a=>by rw[TS.SS];decide) TS.WB (h2.imp₂ (fun a b g1 g2=> ?_) nd) (OY hP k) fun x=> ?_
 ·cases e:TS.lexL a b with
  |true=>rfl
  |false=>exact absurd (TS.OV a b e g1) g2
 ·rw[h1.mem_iff,Dm,X6,WC hP,Ae,decide_eq_true_eq]
  constructor
  ·rintro ⟨a,b,c⟩;exact⟨a,b,.inr c⟩
  ·rintro ⟨a,b,c⟩;exact⟨a,b,c.resolve_left hk⟩
theorem GI{f:List Int->Bool}: ∀ps:List (List Int×List Int),(∀p∈ps,¬(f p.1=true/\f p.2=true))->(ps.map Ct).countP f+(ps.map Du).countP f<=ps.length
 |[],_=>by simp
 |p::ps,h=>by
  have ih:=GI ps fun q hq=>h q (Ah _ hq);have h0:=h p Ai;simp only[Ar,La,Bb];cases e1:f p.1<;>cases e2:f p.2
  ·simp only[Dk,if_false];lia
  ·simp only[Dk,if_false,if_true];lia
  ·simp only[Dk,if_false,if_true];lia
  ·exact absurd ⟨e1,e2⟩ h0
noncomputable def cfl:List (List Int×List Int):=[([0,1,2,3],[0,2,3,4]),([0,1,2,4],[0,2,4,5]),([0,1,2,5],[0,2,5,6]),([0,1,2,6],[0,2,6,7]),([0,1,3,4],[0,3,4,5]),([0,1,3,5],[0,3,5,6]),([0,1,3,6],[0,3,6,7])]
def zAZ:List (List Int):=(YT 8).filter fun s=>decide (s.length=4)
def F7:List (List Int):=zAZ.filter fun s=> !((cfl.map Ct).contains s || (cfl.map Du).contains s)
theorem zAY:zAZ.isPerm ((cfl.map Ct++cfl.map Du)++F7)=true:=by decide+kernel
theorem zCZ:(Am 9).all (fun n=>[2,3,4].all fun k=>(decide (n=8) && decide (k=4)) || decide (((YT n).filter fun s=>decide (s.length=k)).length<64))=true:=by decide+kernel
theorem few{P:List Int->Bool}{n k:Nat}(hn:n<=8)(hk:k=2∨k=3∨k=4)(hc:n=8-> ∀a b c x y,¬(P [0,a,b,c]=true/\P [0,b,x,y]=true)):((YT n).filter fun s=>decide (s.length=k) && P s).length<64:=by
 have e:((YT n).filter fun s=>decide (s.length=k) && P s)=((YT n).filter fun s=>decide (s.length=k)).filter P:=by
  rw[List.filter_filter];exact Ki fun s _=>Bool.and_comm _ _
 rw[e];by_cases h:n=8/\k=4
 ·obtain⟨rfl,rfl⟩:=h
  have hp:=List.isPerm_iff.mp zAY;have e2:((YT 8).filter fun s=>decide (s.length=4))=zAZ:=rfl;rw[e2,<- List.countP_eq_length_filter,hp.countP_eq,Nl,Nl];have c1:=GI (f:=P) cfl fun p hp=>by
   simp only[cfl,Al,Bg,or_false] at hp;rcases hp with rfl|rfl|rfl|rfl|rfl|rfl|rfl<;>exact hc rfl _ _ _ _ _
  have c2:F7.countP P<=F7.length:=List.countP_le_length;have c3:F7.length=56:=by decide+kernel
  have c4:cfl.length=7:=rfl;lia
 ·have a1 := Ei.mp zCZ n (Bk.mpr (by lia))
  have a2:=Ei.mp a1 k (by rcases hk with rfl|rfl|rfl<;>decide);rw[Er,Ae,decide_eq_true_eq,decide_eq_true_eq,decide_eq_true_eq] at a2;exact My (Gk _ _) (a2.resolve_left h)
def ZV(rows:List dP)(i:Int):dP:=(V1 rows i).getD .non
noncomputable def OQ:dP->Str
 | .tup (.str x::_)=>x
 |_=>Aw ""
noncomputable def Q7:dP->Int
 | .tup (_:: .int p::_)=>p
 |_=>0
noncomputable def K8(row:dP):List Int:=((Z8 [row]).bind fun q=>(YS q.1).bind YZ).getD []
theorem D9{x:String}(h: ¬IW x){t:List dP}:Z9 [.tup (.str x::t)]=some (.non,[]):=by
 obtain⟨⟨_,z1⟩,⟨_,z2⟩,⟨_,z3⟩,_,z4⟩:=off4 h;unfold Z9;rw[cR];unfold WA;simp[cI,UJ,Y9,z1,z2,z3,z4]
theorem KB{x:String}(h:IW x){d:dP}{t:List dP}:Z9 [.tup (.str x::d::t)]=some (d,[]):=by
 unfold Z9;rw[cR];unfold WA;rcases h with rfl|rfl|rfl|rfl<;>simp[cI,UJ,Y9]
noncomputable def onB(x:Str):Bool:=decide (Aw "load"=x) || (decide (Aw "take"=x) || (decide (Aw "store"=x) || decide (Aw "put"=x)))
theorem zA2{x:String}(h:IW x):onB (Aw x)=true:=by
 have:=cel4 h;simpa[onB,aY] using this
theorem zDM{x:String}(h: ¬IW x):onB (Aw x)=false:=by
 obtain⟨⟨_,z1⟩,⟨_,z2⟩,⟨_,z3⟩,_,z4⟩:=off4 h;simp[onB,aY,z1,z2,z3,z4]
theorem row0{rows:List dP}{kds:List Kd}(hb:Bl [] rows kds){x:String}{t:List dP}(e:V1 rows 0=some (.tup (.str x::t))):x= "number" ∨x= "load":=by
 cases hb with
 |nil=>cases (show none=some _ from e)
 | @cons _ _ row rows ok _=>
  rw[XD (by decide) (by simp)] at e;have e1:row=_:=Cb e;have no: ∀{a:Int},¬Nm [] .w a:=fun h=>by cases h.2
  cases ok with
  |number _ _=>
   simp only[dP.tup.injEq,Et,dP.str.injEq,aY] at e1;exact .inl e1.1.symm
  |two _ h _=>exact absurd h no
  |pick h _ _=>exact absurd h no
  |load _ _=>
   simp only[dP.tup.injEq,Et,dP.str.injEq,aY] at e1;exact .inr e1.1.symm
  |take _ _ h _=>exact absurd h no
  |store _ _ h=>exact absurd h no
  |put _ _ h _=>exact absurd h no
theorem X7{rows:List dP}{kds:List Kd}(hb:Bl [] rows kds){i:Int}(h0:0<=i)(h1:i<rows.length): ∃(x:String) (a:Int) (as:List Int),ZV rows i= .tup (.str x:: .int a::as.map .int)/\V1 rows i=some (.tup (.str x:: .int a::as.map .int))∧
  Z8 [ZV rows i]=some (.lst ((K8 (ZV rows i)).map .int),[])/\cB [ZV rows i]=some (.lst ((K8 (ZV rows i)).map .int),[])/\(K8 (ZV rows i)).length<=3:=by
 have hi:i.toNat<rows.length:=by lia
 have e0:V1 rows i=some rows[i.toNat]:=by rw[XD h0 h1];simp[hi]
 have ok:=hb.all _ (Gx hi);have er:ZV rows i=rows[i.toNat]:=by unfold ZV;rw[e0];rfl
 obtain⟨x,a,as,e,_⟩:=ok.ints;obtain⟨bs,_,n0,n1,n2⟩:=O9 ok;have hc:cnt rows[i.toNat]<=3:=by unfold cnt;split<;>(try split)<;>(try split)<;>(try split)<;>lia
 have en:K8 rows[i.toNat]=bs:=by
  unfold K8;rw[n2,At,zED,At,YI];rfl
 rw[er,en];exact⟨x,a,as,e,e▸e0,n2,n1,by lia⟩
noncomputable def mf(rows:List dP)(i j:Int):Bool:=
 decide (i<j) && (!decide (OQ (ZV rows i)=Aw "number") && (decide (OQ (ZV rows j)=OQ (ZV rows i)) && (!onB (OQ (ZV rows i)) || decide (Q7 (ZV rows j)=Q7 (ZV rows i)+1))))
theorem DN{rows:List dP}{kds:List Kd}(hb:Bl [] rows kds){i j:Int}(h0:0<=i)(h1:i<rows.length)(g0:0<=j)(g1:j<rows.length):Z7 [.tup rows,.int i,.int j]=some (.bl (mf rows i j),[]):=by
 obtain⟨x,a,as,e1,e2,_⟩:=X7 hb h0 h1;obtain⟨y,b,bs,f1,f2,_⟩:=X7 hb g0 g1;unfold mf;rw[e1,f1];simp only[OQ,Q7];unfold Z7;rw[cR];unfold V9;by_cases hij:i<j
 ·have fg : ¬ j <= i := by lia
  by_cases hx:x= "number"
  ·subst hx
   simp[cI,e2,hij,fg]
  ·by_cases hy:y=x
   ·subst hy
    by_cases hc:IW y
    ·have p1:=KB hc (d:= .int a) (t:=as.map .int)
     have p2:=KB hc (d:= .int b) (t:=bs.map .int);have o:=zA2 hc;simp[cI,e2,f2,hij,fg,hx,p1,p2,o,aY];rfl
    ·have p1:=D9 hc (t:= .int a::as.map .int)
     have o:=zDM hc;simp[cI,e2,f2,hij,fg,hx,p1,o,aY]
   ·simp[cI,e2,f2,hij,fg,hx,hy,aY]
 ·have fg : j <= i := by lia
  simp[cI,e2,hij,fg]
def IU(rows:List dP):List Int->Bool
 |i::j::r=>mf rows i j && IU rows (j::r)
 |_=>true
def inB(js:List Int)(a:Int):Bool:=QS (.int a) (js.map .int)
theorem FA{js:List Int}{a:Int}:inB js a=true↔a∈js:=QE
noncomputable def K9(rows:List dP)(js is:List Int):List Bool:=is.flatMap fun i=>(K8 (ZV rows i)).map (inB js)
noncomputable def XN(rows:List dP)(is:List Int):Bool:=IU rows is && !(K9 rows is is).any id
theorem EW: ∀bs:List Bool,OC (bs.map .bl)=some bs
 |[]=>rfl
 |b::bs=>by rw[Ar,zH5,EW bs];rfl
theorem cut1(ds:List dP):XE ds (some 1) none=ds.drop 1:=by
 unfold XE;cases ds with
 |nil=>rfl
 |cons d ds=>
  have e:HT.sIx (d::ds).length 0 (some 1)=1:=by
   show(if(1:Int)<0 then((1:Int)+((d::ds).length:Nat)).toNat else min (1:Int).toNat (d::ds).length)=1;rw[if_neg (by decide)];simp
  rw[e];exact Ca (by simp[HT.sIx])
noncomputable def fD(rows:List dP):dP->dP
 | .tup [.int i,.int j]=> .bl (mf rows i j)
 |_=> .non
theorem GS: ∀{is js:List Int} {d:dP},d∈YO (is.map .int) (js.map .int)-> ∃i∈is,∃j∈js,d= .tup [.int i,.int j]
 |[],_,_,h=>by simp[YO] at h
 |_::_,[],_,h=>by simp[YO] at h
 | i :: is,j :: js,d,h => by
  have h:d∈dP.tup [.int i,.int j]::YO (is.map .int) (js.map .int):=h;rcases Al.mp h with rfl|h
  ·exact⟨i,Ai,j,Ai,rfl⟩
  ·obtain⟨a,ha,b,hb,e⟩:=GS h
   exact⟨a,Ah _ ha,b,Ah _ hb,e⟩
theorem GR: ∀(ds es:List dP),(YO ds es).length<=ds.length
 |[],_=>by simp[YO]
 |_::_,[]=>by simp[YO]
 |d::ds,e::es=>by have:=GR ds es;simp[YO];lia
theorem EZ(rows:List dP): ∀is:List Int,∃bs:List Bool,(YO (is.map .int) ((is.drop 1).map .int)).map (fD rows)=bs.map .bl/\bs.all id=IU rows is
 |[]=>⟨[],rfl,rfl⟩
 |[i]=>⟨[],rfl,rfl⟩
 |i::j::r=>by
  obtain⟨bs,h1,h2⟩:=EZ rows (j::r);exact⟨mf rows i j::bs,by simp only[List.drop_succ_cons,Jv,Ar] at h1⊢;show fD rows (.tup [.int i,.int j])::_=_;rw[<- h1];rfl,by rw[Nb,h2];rfl⟩
theorem zAO(js:List Int)(R r:dP): ∀(as:List Int) (acc:List dP) (s:Sl),acc.length+as.length<100000-> ∃s',T0 (gN 3) ZX (f2 (bE false) (fV 3) (fV 0)) (as.map .int) acc [.va (.tup (js.map .int)),.va R,.va r,s]=some (acc++(as.map (inB js)).map .bl,[.va (.tup (js.map .int)),.va R,.va r,s'])
 |[],acc,s,_=>⟨s,by simp[T0]⟩
 |a::as,acc,s,hl=>by
  simp only[Bb] at hl;obtain⟨s',ih⟩:=zAO js R r as (acc++[.bl (inB js a)]) (.va (.int a)) (by simp;lia);refine⟨s',?_⟩;have aq:acc.length<16777216:=by lia
  have hin:bE false (.int a) (.tup (js.map .int))=some (.bl (inB js a)):=J4 (j:=0) (k:=0) ZN (aH js);generalize js.map dP.int=J at*;simp only[Ar,T0];simp[aq,ih,hin]
theorem E5{rows:List dP}{kds:List Kd}(hb:Bl [] rows kds)(js:List Int): ∀(is:List Int) (acc:List dP),(∀i∈is,0<=i/\i<rows.length)->acc.length+(K9 rows js is).length<100000→
  ZF 2 2 (gN 2) ZX (ZZ (dC 1 [] Z8 (aE (f2 cZ (fV 1) (fV 2)) cN))) (gN 3) ZX (f2 (bE false) (fV 3) (fV 0)) (is.map .int) acc [.va (.tup (js.map .int)),.va (.tup rows)]=some (acc++(K9 rows js is).map .bl,[.va (.tup (js.map .int)),.va (.tup rows)])
 |[],acc,_,_=>by simp[ZF,K9]
 | i :: is,acc,h,hl => by
  have en:K9 rows js (i::is)=(K8 (ZV rows i)).map (inB js)++K9 rows js is:=by unfold K9;rw[Gr]
  rw[en] at hl⊢;simp only[Bv,Bf] at hl;obtain⟨x,a,as,e1,e2,n1,_⟩:=X7 hb (h i Ai).1 (h i Ai).2;obtain⟨s',e⟩:=zAO js (.tup rows) (.int i) (K8 (ZV rows i)) acc .no (by lia);have ih:=E5 hb js is (acc++((K8 (ZV rows i)).map (inB js)).map .bl) (fun j hj=>h j (Ah _ hj)) (by simp;lia);rw[<- e1] at e2;have ei:ZZ (dC 1 [] Z8 (aE (f2 cZ (fV 1) (fV 2)) cN)) [.va (.tup (js.map .int)),.va (.tup rows),.va (.int i),.no]=some ((K8 (ZV rows i)).map .int,[.va (.tup (js.map .int)),.va (.tup rows),.va (.int i),.no]):=by
   generalize js.map dP.int=J at*;simp[e2,n1]
  simp only[Ar,ZF,J1,Fy,Bh,OL,No,Jt,At,LH,if_true,ei,e,Je,Mg];rw[ih];simp
theorem HW{ix:List Nat}{nl:Nat}{fi fi2:VI}{gg gg2:VG}{tb tb2:VB}{fe:VF}{ds es:List dP}{δ δ1 δ2:Ev}(h1:fi δ=some (ds,δ1))(h2:ZF ix.length nl gg tb fi2 gg2 tb2 fe ds [] (cF ix δ1)=some (es,δ2)):W0 ix nl fi gg tb fi2 gg2 tb2 fe δ=some (.lst es,Z3 ix δ2 δ1):=by
 unfold W0;rw[h1,At,h2];rfl
theorem FQ{rows:List dP}{kds:List Kd}(hb:Bl [] rows kds)(js:List Int): ∀is:List Int,(∀i∈is,0<=i/\i<rows.length)->(K9 rows js is).length<=3*is.length
 |[],_=>by simp[K9]
 |i::is,h=>by
  have ih:=FQ hb js is fun j hj=>h j (Ah _ hj);obtain⟨_,_,_,_,_,_,_,hc⟩:=X7 hb (h i Ai).1 (h i Ai).2;unfold K9 at ih⊢;rw[Gr,Bv,Bf,Bb];lia
theorem zH7{ds:List dP}:(ds.map fun _=>dP.bl true)=(ds.map fun _=>true).map .bl:=by simp
theorem FY{sure:Int}{rows:List dP}{kds:List Kd}(hb:Bl [] rows kds){is:List Int}(h: ∀i∈is,0<=i/\i<rows.length)(hl:is.length<1000):Z0 [.tup [.int sure,.tup rows],.int is.length,.tup (is.map .int)]=some (.bl (XN rows is),[]):=by
 have c1:=YW 1 (dC 3 [] b8 (aE (fV 1) (aE (fC (.int 0)) (aE (f2 PF (f1 aR (fV 0)) (fC (.int 1))) cN)))) [.va (.tup rows)] (fun _=> .bl true) rfl (is.map .int) [] (fun d hd=>by
  obtain⟨i,hi,rfl⟩:=Bd.mp hd;have h1:=(h i hi).1;have h2:i<=(rows.length:Int) - 1:=by have:=(h i hi).2;lia
  simp[h1,h2]) (by simp;lia)
 obtain⟨bs,z1,z2⟩:=EZ rows is;have c2:=U1 1 ZX (fun _=>true) (dC 3 [] Z7 (aE (fV 0) (aE (fV 1) (aE (fV 2) cN)))) (fD rows) [.va (.tup rows)] rfl (YO (is.map .int) ((is.drop 1).map .int)) [] (fun d hd=>by
  obtain⟨i,hi,j,hj,rfl⟩:=GS hd;have hj:=Ma hj;have e:=DN hb (h i hi).1 (h i hi).2 (h j hj).1 (h j hj).2;exact⟨_,_,rfl,by simp,fun _=>by simp[e,fD]⟩) (by have:=GR (is.map .int) ((is.drop 1).map .int);simp at this⊢;lia)
 rw[Mo.mpr fun _ _=>rfl,Bh,z1] at c2;rw[Bh,zH7] at c1;have c3:=E5 hb is is [] h (by have:=FQ hb is is h;simp;lia);rw[Bh] at c3;have e1:oSl (.tup (is.map .int)) (some 1) none=some (.tup ((is.drop 1).map .int)):=by
  show some (dP.tup (XE (is.map .int) (some 1) none))=_;rw[cut1,List.map_drop]
 have hn:((is.map dP.int).length:Int)=is.length:=by simp
 have ob: ∀{g:List Bool->Bool} {cs:List Bool},J3 g (.lst (cs.map .bl))=some (.bl (g cs)):=fun{g cs}=>by rw[FR,EW];rfl
 have g1:HL (.lst (((is.map dP.int).map fun _=>true).map .bl))=some (.bl true):=by
  refine ob.trans ?_;simp
 have g2:HL (.lst (bs.map .bl))=some (.bl (IU rows is)):=by rw[<- z2];exact ob
 have g3:oAny (.lst ((K9 rows is is).map .bl))=some (.bl ((K9 rows is is).any id)):=ob;unfold Z0;rw[cR];unfold RL;have c3':=HW (ix:=[2,3]) (fi:=ZZ (fV 2)) (δ:=[.va (.tup [.int sure,.tup rows]),.va (.int is.length),.va (.tup (is.map .int)),.va (.tup rows)]) (ds:=is.map .int) (δ1:=[.va (.tup [.int sure,.tup rows]),.va (.int is.length),.va (.tup (is.map .int)),.va (.tup rows)]) (by simp) c3;unfold XN;generalize (is.drop 1).map dP.int=D1 at*;generalize ((is.map dP.int).map fun _=>true)=T at*;generalize is.map dP.int=J at*;generalize (is.length:Int)=n at*;generalize K9 rows is is=N at*;generalize N.any id=nb at*;generalize IU rows is=cb at*;cases cb<;>simp[-FR,cI,cF,c1,c2,c3',e1,hn,g1,g2,g3]
theorem JS{k:b9}: ∀ks:List b9,(∀j∈ks,j=k)->ks.foldl aD [k]=[k]
 |[],_=>rfl
 |j::ks,h=>by
  rw[Hr,h j Ai];have e:aD [k] k=[k]:=if_pos (YJ.mpr Ai);rw[e];exact JS ks fun i hi=>h i (Ah _ hi)
theorem zAH: ∀(ks σ:List b9),σ.length<=(ks.foldl aD σ).length
 |[],σ=>Ao _
 |k::ks,σ=>by
  rw[Hr];refine Cf ?_ (zAH ks _);unfold aD;split<;>simp
theorem JR{k:b9}: ∀ks:List b9,(¬ ∀j∈ks,j=k)->2<=(ks.foldl aD [k]).length
 |[],h=>absurd (fun j hj=>by cases hj) h
 | j :: ks,h => by
  rw[Hr];by_cases e:j=k
  ·subst e
   have e:aD [j] j=[j]:=if_pos (YJ.mpr Ai);rw[e];refine JR ks fun z=>h fun i hi=> ?_;rcases Al.mp hi with rfl|hi
   ·rfl
   ·exact z i hi
  ·have e2 : aD [k] j = [k,j] := if_neg fun z => e (by simpa using YJ.mp z)
   rw[e2];exact zAH ks [k,j]
theorem FG: ∀xs:List Str,ksD (xs.map .str)=some (xs.map Kl)
 |[]=>rfl
 |x::xs=>by
  show(XX (.str x)).bind (fun k=>(ksD (xs.map .str)).map fun ks=>k::ks)=_;rw[FG xs];rfl
theorem DX(x:Str)(xs:List Str)(hl:xs.length<4000): ∃n:Int,WE (.lst ((x::xs).map .str))=some (.int n)/\(n=1↔ ∀y∈xs,y=x):=by
 have e:WE (.lst ((x::xs).map .str))=(ksD ((x::xs).map .str)).bind fun ks=>if ks.length+1<4096 then some (.int (ks.foldl aD []).length) else none:=rfl
 rw[FG,At,if_pos (by simp;lia),Ar (f:=Kl),Hr,show aD [] (.inr x)=[.inr x] from rfl] at e;refine⟨_,e,?_⟩;constructor
 ·intro h
  refine Classical.byContradiction fun z=> ?_;have:=JR (k:= .inr x) (xs.map Kl) fun q=>z fun y hy=>by
   have:=q (.inr y) (Bd.mpr ⟨y,hy,rfl⟩);injection this
  lia
 ·intro h
  rw[JS _ fun j hj=>by
   obtain⟨y,hy,rfl⟩:=Bd.mp hj;rw[h y hy]]
  rfl
theorem O8{rows:List dP}{i j:Int}:mf rows i j=true↔i<j/\OQ (ZV rows i)≠Aw "number" /\OQ (ZV rows j)=OQ (ZV rows i)/\(onB (OQ (ZV rows i))=true->Q7 (ZV rows j)=Q7 (ZV rows i)+1):=by
 unfold mf;simp only[Ae,decide_eq_true_eq,Of,decide_eq_false_iff_not,Er];constructor
 ·rintro ⟨h1,h2,h3,h4⟩
  exact⟨h1,h2,h3,fun z=>h4.resolve_left (by rw[z];decide)⟩
 ·rintro ⟨h1,h2,h3,h4⟩
  refine⟨h1,h2,h3,?_⟩;cases e:onB (OQ (ZV rows i)) with
  |true=>exact .inr (h4 e)
  |false=>exact .inl rfl
theorem J9(p:Int)(n:Nat):((Am (n+1)).map fun k:Nat=>p+(k:Int))=p::(Am n).map fun k:Nat=>p+1+(k:Int):=by
 rw[Ew,Ar,Cm];congr 1
 ·simp
 ·refine Ck fun k _ => ?_
  simp only[Ir];push_cast
  lia
theorem E1{rows:List dP}: ∀(r:List Int) (i:Int),(i::r).Pairwise (· < ·)->r≠[]->(IU rows (i::r)=true↔OQ (ZV rows i)≠Aw "number" /\(∀j∈r,OQ (ZV rows j)=OQ (ZV rows i))∧
  (onB (OQ (ZV rows i))=true->((i::r).map fun j=>Q7 (ZV rows j))=(Am (r.length+1)).map fun k:Nat=>Q7 (ZV rows i)+(k:Int)))
 |[],_,_,h=>absurd rfl h
 | [j],i,hp,_ => by
  have hij:=(Fg.mp hp).1 j (by simp);show(mf rows i j && true)=true↔_;rw[Bool.and_true,O8];have e:(([i,j].map fun j=>Q7 (ZV rows j))=(Am ([j].length+1)).map fun k:Nat=>Q7 (ZV rows i)+(k:Int))↔Q7 (ZV rows j)=Q7 (ZV rows i)+1:=by
   show[_,_]=[_,_]↔_;simp
  rw[e];simp[hij]
 | j :: k :: r,i,hp,_ => by
  obtain⟨h1,hp⟩:=Fg.mp hp;have hij:=h1 j (by simp);have ih:=E1 (rows:=rows) (k::r) j hp (by simp);show(mf rows i j && IU rows (j::k::r))=true↔_;rw[Ae,O8,ih];have e:(((i::j::k::r).map fun j=>Q7 (ZV rows j))=(Am ((j::k::r).length+1)).map fun k:Nat=>Q7 (ZV rows i)+(k:Int))↔((j::k::r).map fun j=>Q7 (ZV rows j))=(Am ((k::r).length+1)).map fun k:Nat=>Q7 (ZV rows i)+1+(k:Int):=by
   rw[J9,Ar,Et];simp
  rw[e];constructor
  ·rintro ⟨⟨_,a2,a3,a4⟩,b1,b2,b3⟩
   refine⟨a2,fun q hq=> ?_,fun z=> ?_⟩
   ·rcases Al.mp hq with rfl|hq
    ·exact a3
    ·rw[b2 q hq,a3]
   ·rw[a3] at b3
    rw[b3 z,a4 z]
  ·rintro ⟨a1,a2,a3⟩
   have a3':=a2 j (by simp);have a4:onB (OQ (ZV rows i))=true->Q7 (ZV rows j)=Q7 (ZV rows i)+1:=fun z=>by
    have:=a3 z;rw[Ar,J9,Et] at this;rw[this.1]
   refine⟨⟨hij,a1,a3',a4⟩,by rw[a3'];exact a1,fun q hq=>by rw[a2 q (Ah _ hq),a3'],fun z=> ?_⟩;rw[a3'] at z;rw[a4 z];exact a3 z
theorem LU{α:Type}{p:α->Bool}: ∀l:List α,(!(l.filter p).isEmpty)=l.any p
 |[]=>rfl
 |a::l=>by
  rw[Fu,<- LU l];cases e:p a<;>simp[Lc,e]
theorem zGV{as:List Int}: ∀{bs:List Int},HB (.lst (as.map .int)) (.lst (bs.map .int))=decide (as=bs):=by
 induction as with
 |nil=>intro bs;cases bs<;>rfl
 |cons a as ih=>
  intro bs;cases bs with
  |nil=>rfl
  |cons b bs=>
   show(HB (.int a) (.int b) && HB (.lst (as.map .int)) (.lst (bs.map .int)))=_;rw[ih,zB1,<- Bool.decide_and];exact decide_eq_decide.mpr (by simp)
def strD(d:dP):dP:= .str (OQ d)
def plD(d:dP):dP:= .int (Q7 d)
noncomputable def nmT(js:List Int)(d:dP):Bool:=(K8 d).any (inB js)
theorem FP(rows:List dP)(js is:List Int):(K9 rows js is).any id=(is.map (ZV rows)).any (nmT js):=by
 unfold K9 nmT;rw[List.any_flatMap,Om];congr 1;funext i;simp[Om,Oe]
theorem zAB{sure:Int}{rows:List dP}{kds:List Kd}(hb:Bl [] rows kds){i:Int}{r:List Int}(h: ∀j∈i::r,0<=j/\j<rows.length)(hp:(i::r).Pairwise (· < ·))(hr:r≠[])(hl:r.length<100):
  aM [.tup [.int sure,.tup rows],.int ((i::r).length:Nat),.tup ((i::r).map .int)]=some (.bl (XN rows (i::r)),[]):=by
 have c1:=YW 1 (f2 cZ (f2 cZ (fV 0) (fC (.int 1))) (fV 1)) [.va (.tup [.int sure,.tup rows])] (fun d=>match d with| .int j=>ZV rows j|_=> .non) rfl ((i::r).map .int) [] (fun d hd=>by
  obtain⟨j,hj,rfl⟩:=Bd.mp hd;obtain⟨x,a,as,e1,e2,_⟩:=X7 hb (h j hj).1 (h j hj).2;simp[e1,e2]) (by simp;lia)
 rw[Bh,Cm] at c1;have w1:((i::r).map ((fun d=>match d with|dP.int j=>ZV rows j|_=> .non)∘dP.int))=(i::r).map (ZV rows):=rfl;rw[w1] at c1;have shp: ∀d∈(i::r).map (ZV rows),∃(x:String) (a:Int) (as:List Int),d= .tup (.str x:: .int a::as.map .int)/\cB [d]=some (.lst ((K8 d).map .int),[])/\(K8 d).length<=3:=fun d hd=>by
  obtain⟨j,hj,rfl⟩:=Bd.mp hd;obtain⟨x,a,as,e1,_,_,e2,e3⟩:=X7 hb (h j hj).1 (h j hj).2;exact⟨x,a,as,e1,e2,e3⟩
 have ag:((i::r).map (ZV rows)).length<200:=by simp;lia
 have c2:=YW 0 (f2 cZ (fV 0) (fC (.int 0))) [] strD rfl ((i::r).map (ZV rows)) [] (fun d hd=>by
  obtain⟨x,a,as,rfl,_⟩:=shp d hd;simp[strD,OQ]) (by simp;lia)
 have c3:=YW 0 (f2 cZ (fV 0) (fC (.int 1))) [] plD rfl ((i::r).map (ZV rows)) [] (fun d hd=>by
  obtain⟨x,a,as,rfl,_⟩:=shp d hd;simp[plD,Q7]) (by simp;lia)
 obtain⟨x,a,as,e1,e2,_⟩:=X7 hb (h i Ai).1 (h i Ai).2;have c4:=YW 1 (f2 a6 (f2 cZ (f2 cZ (fV 0) (fC (.int 0))) (fC (.int 1))) (fV 1)) [.va (.lst ((i::r).map (ZV rows)))] (fun d=>match d with| .int k=> .int (a+k)|_=> .non) rfl (bZ 0 (i::r).length) [] (fun d hd=>by
  unfold bZ at hd;obtain⟨k,_,rfl⟩:=Bd.mp hd;rw[Ar,e1];simp) (by simp[bZ];lia)
 have c5:=XV 1 (fB (f2 TJ (bW [0] 1 (ZZ (dC 1 [] cB (aE (fV 1) cN))) (gN 1) (fB (f2 (bE false) (fV 1) (fV 0))) (fV 1)) (ZL cP))) (nmT (i::r)) (fV 1) id [.va (.tup ((i::r).map .int))] rfl ((i::r).map (ZV rows)) [] (fun d hd=>by
  obtain⟨x,a,as,_,e,h3⟩:=shp d hd;refine⟨?_,fun _=>by simp⟩;have c:=XV 1 (fB (f2 (bE false) (fV 1) (fV 0))) (fun d=>QS d ((i::r).map .int)) (fV 1) id [.va (.tup ((i::r).map .int))] rfl ((K8 d).map .int) [] (fun q hq=>by
   obtain⟨b,_,rfl⟩:=Bd.mp hq;have hin:bE false (.int b) (.tup ((i::r).map .int))=some (.bl (QS (.int b) ((i::r).map .int))):=J4 (j:=0) (k:=0) ZN (aH (i::r));generalize (i::r).map dP.int=J at*;exact⟨by simp[hin],fun _=>by simp⟩) (by simp;lia)
  have hq:TJ (.lst ((((K8 d).map dP.int).filter (fun d=>QS d ((i::r).map .int))).map id)) (.lst [])=some (.bl (nmT (i::r) d)):=by
   rw[NB (j:=1) (k:=1) (aZ fun q hq=>by
    obtain⟨q',hq',rfl⟩:=Bd.mp hq;exact aH _ q' (Dm.mp hq').1) (aZ aA),OJ,Kr,Jl,Pd,LU]
   rfl
  rw[Bh] at c;generalize ((((K8 d).map dP.int).filter (fun d=>QS d ((i::r).map .int))).map id)=W at*;generalize (K8 d).map dP.int=N at*;generalize (i::r).map dP.int=J at*;simp[cF,e,c,hq]) (by simp;lia)
 have hx:OQ (ZV rows i)=Aw x:=by rw[e1];rfl
 have ha:Q7 (ZV rows i)=a:=by rw[e1];rfl
 have ci:=E1 (rows:=rows) r i hp hr;rw[hx,ha] at ci;obtain⟨n,l1,l2⟩:=DX (Aw x) (r.map fun j=>OQ (ZV rows j)) (by simp;lia);have s1:((i::r).map (ZV rows)).map strD=(Aw x::r.map fun j=>OQ (ZV rows j)).map .str:=by
  rw[Ar,Ar,Ar,Cm,Cm,<- hx];rfl
 have s2:((i::r).map (ZV rows)).map plD=((i::r).map fun j=>Q7 (ZV rows j)).map .int:=by
  rw[Cm,Cm];rfl
 have s3:((bZ 0 (i::r).length).map fun d=>match d with|dP.int k=>dP.int (a+k)|_=> .non)=((Am (r.length+1)).map fun k:Nat=>a+(k:Int)).map .int:=by
  unfold bZ;rw[Cm,Cm];refine Ck fun k _=> ?_;simp
 rw[Bh,s1] at c2;rw[Bh,s2] at c3;rw[Bh,s3] at c4;rw[Bh,Kr] at c5;have l2:n=1↔ ∀j∈r,OQ (ZV rows j)=Aw x:=l2.trans ⟨fun z j hj=>z _ (Bd.mpr ⟨j,hj,rfl⟩),fun z y hy=>by
  obtain⟨j,hj,rfl⟩:=Bd.mp hy;exact z j hj⟩
 have hne:TJ (.lst (((i::r).map fun j=>Q7 (ZV rows j)).map .int)) (.lst (((Am (r.length+1)).map fun k:Nat=>a+(k:Int)).map .int))=some (.bl (!decide (((i::r).map fun j=>Q7 (ZV rows j))=(Am (r.length+1)).map fun k:Nat=>a+(k:Int)))):=by rw[NB (j:=1) (k:=1) (aZ (aH _)) (aZ (aH _)),zGV]
 have j9:YC (.lst (((i::r).map (ZV rows)).filter (nmT (i::r)))) (.lst [])=some (.bl (!(K9 rows (i::r) (i::r)).any id)):=by
  rw[zA6 (j:=2) (k:=1) (aZ fun d hd=>by
   obtain⟨x,a,as,rfl,_⟩:=shp d (Dm.mp hd).1;exact WG (bS ZO (bS ZN (aH as)))) (aZ aA),OJ,FP,<- LU,Bool.not_not]
 have hlt:(((i::r).map dP.int).length:Int)=((i::r).length:Nat):=by simp
 have at0:V1 ((i::r).map (ZV rows)) 0=some (.tup (.str x:: .int a::as.map .int)):=by
  rw[Ar,e1,XD (by decide) (by simp)];rfl
 unfold XN;unfold aM;rw[cR];unfold W2;generalize (K9 rows (i::r) (i::r)).any id=nb at*;generalize ((i::r).map (ZV rows)).filter (nmT (i::r))=FL at*;generalize (i::r).map (ZV rows)=RH at*;generalize (Aw x::r.map fun j=>OQ (ZV rows j)).map dP.str=HS at*;generalize (i::r).map dP.int=J at*;have hb1:((i::r).length:Nat)<1000:=by simp;lia
 generalize (i::r).length=b at*;have hb2:(b:Int)<4611686018427387904:=by lia
 have hb3:(-4611686018427387904:Int)<=b:=by lia
 by_cases h1:n=1
 ·have h1':=l2.mp h1
  subst h1;by_cases h2:x= "number"
  ·have hc:IU rows (i::r)=false:=by
    rw[<- Il,ci];rintro ⟨z,_⟩;exact z (by rw[h2])
   subst h2;simp -implicitDefEqProofs [cI,cF,c1,c2,hlt,l1,at0,hc]
  ·by_cases h3:IW x
   ·have o:=zA2 h3
    have o4:=cel4 h3;by_cases h4:((i::r).map fun j=>Q7 (ZV rows j))=(Am (r.length+1)).map fun k:Nat=>a+(k:Int)
    ·have hc : IU rows (i :: r) = true := ci.mpr ⟨by rw [Ne,aY];exact h2,h1',fun _ => h4⟩
     rw[decide_eq_true h4] at hne;generalize ((i::r).map fun j=>Q7 (ZV rows j)).map dP.int=PL at*;generalize ((Am (r.length+1)).map fun k:Nat=>a+(k:Int)).map dP.int=PR at*;simp -implicitDefEqProofs [cI,cF,c1,c2,c3,c4,c5,hlt,l1,at0,hc,h2,o4,hb2,hb3,hne,j9]
    ·have hc:IU rows (i::r)=false:=by
      rw[<- Il,ci];rintro ⟨_,_,z⟩;exact h4 (z o)
     rw[decide_eq_false h4] at hne;generalize ((i::r).map fun j=>Q7 (ZV rows j)).map dP.int=PL at*;generalize ((Am (r.length+1)).map fun k:Nat=>a+(k:Int)).map dP.int=PR at*;simp -implicitDefEqProofs [cI,cF,c1,c2,c3,c4,c5,hlt,l1,at0,hc,h2,o4,hb2,hb3,hne,j9]
   ·obtain⟨⟨_,z1⟩,⟨_,z2⟩,⟨_,z3⟩,_,z4⟩:=off4 h3
    have hc:IU rows (i::r)=true:=ci.mpr ⟨by rw[Ne,aY];exact h2,h1',fun z=>by rw[zDM h3] at z;cases z⟩;simp -implicitDefEqProofs [cI,cF,c1,c2,c5,hlt,l1,at0,hc,h2,z1,z2,z3,z4,j9]
 ·have hc:IU rows (i::r)=false:=by
   rw[<- Il,ci];rintro ⟨_,z,_⟩;exact h1 (l2.mpr z)
  simp -implicitDefEqProofs [cI,cF,c1,c2,hlt,l1,h1,hc]
theorem zF4{rows:List dP}{js is:List Int}:(K9 rows js is).any id=true↔ ∃i∈is,∃a∈K8 (ZV rows i),a∈js:=by
 rw[FP,Ik];constructor
 ·rintro ⟨d,hd,h⟩
  obtain⟨i,hi,rfl⟩:=Bd.mp hd;obtain⟨a,ha,h⟩:=Ik.mp h;exact⟨i,hi,a,ha,FA.mp h⟩
 ·rintro ⟨i,hi,a,ha,h⟩
  exact⟨_,Bd.mpr ⟨i,hi,rfl⟩,Ik.mpr ⟨a,ha,FA.mpr h⟩⟩
theorem E2{rows:List dP}{b:Int}: ∀s:List Int,IU rows (s++[b])=true->IU rows s=true
 |[],_=>rfl
 |[_],_=>rfl
 |i::j::r,h=>by
  have h:(mf rows i j && IU rows ((j::r)++[b]))=true:=h;rw[Ae] at h;show(mf rows i j && IU rows (j::r))=true;rw[h.1,E2 (j::r) h.2];rfl
theorem AQ(rows:List dP)(s:List Int)(b:Int)(h:XN rows (s++[b])=true):XN rows s=true:=by
 unfold XN at h⊢;rw[Ae,Of,<- Il,zF4] at h⊢;refine⟨E2 s h.1,?_⟩;rintro ⟨i,hi,a,ha,hs⟩;exact h.2 ⟨i,Bo _ hi,a,ha,Bo _ hs⟩
def cO(s:List Int):dP:= .tup (s.map .int)
theorem zAP(n:Int)(s:List Int): ∀(ds acc:List dP) (x:Sl),acc.length+ds.length<100000->s.length<1000-> ∃x',T0 (gN 2) ZX (f2 a6 (fV 1) (aN (dL (fV 2) cP))) ds acc [.va (.int n),.va (cO s),x]=some (acc++ds.map (fun d=>dP.tup (s.map .int++[d])),[.va (.int n),.va (cO s),x'])
 |[],acc,x,_,_=>⟨x,by simp[T0]⟩
 |d::ds,acc,x,hl,hs=>by
  simp only[Bb] at hl;obtain⟨x',ih⟩:=zAP n s ds (acc++[.tup (s.map .int++[d])]) (.va d) (by simp;lia) hs;refine⟨x',?_⟩;have aq:acc.length<16777216:=by lia
  have hs':s.length+1<=16777216:=by lia
  unfold cO at ih⊢;simp only[T0];simp[aq,ih,hs']
theorem zCQ{s:List Int}(h:s≠[]):V1 (s.map dP.int) (-1)=some (.int (s.getLastD 0)):=by
 obtain⟨t,c,rfl⟩: ∃t c,s=t++[c]:=by
  rcases Fh s with e|⟨t,c,e⟩
  ·exact absurd e h
  ·exact⟨t,c,by rw[e,Fi]⟩
 rw[Dn,Np,UV];simp
theorem E4(n:Nat)(hn:n<=8): ∀(L:List (List Int)) (acc:List dP),(∀s∈L,s≠[]/\s.length<1000/\0<=s.getLastD 0/\s.getLastD 0<n)->acc.length+L.length*8<100000→
  ZF 1 2 (gN 1) ZX (CP (f2 a6 (f2 cZ (fV 1) (f1 PD (fC (.int 1)))) (fC (.int 1))) (fV 0)) (gN 2) ZX (f2 a6 (fV 1) (aN (dL (fV 2) cP))) (L.map cO) acc [.va (.int n)]=some (acc++(L.flatMap (WQ n)).map cO,[.va (.int n)])
 |[],acc,_,_=>by simp[ZF]
 | s :: L,acc,h,hl => by
  obtain⟨h1,h2,h3,h4⟩:=h s Ai;simp only[Bb] at hl;have er:(bZ (s.getLastD 0+1) ((n:Int) - (s.getLastD 0+1)).toNat).map (fun d=>dP.tup (s.map .int++[d]))=(WQ n s).map cO:=by
   unfold bZ WQ cO;rw[Cm,Cm];refine Ck fun k _=> ?_;simp
  have el:(WQ n s).length<=8:=by unfold WQ;rw[Bf,Eo];lia
  obtain⟨x',e⟩:=zAP (n:Int) s (bZ (s.getLastD 0+1) ((n:Int) - (s.getLastD 0+1)).toNat) acc .no (by simp only[bZ,Bf,Eo];lia) h2;have ih:=E4 n hn L (acc++(WQ n s).map cO) (fun t ht=>h t (Ah _ ht)) (by simp;lia);rw[er] at e;have la:=zCQ h1;have ei:CP (f2 a6 (f2 cZ (fV 1) (f1 PD (fC (.int 1)))) (fC (.int 1))) (fV 0) [.va (.int n),.va (cO s),.no]=some (bZ (s.getLastD 0+1) ((n:Int) - (s.getLastD 0+1)).toNat,[.va (.int n),.va (cO s),.no]):=zAR (δ1:=[.va (.int n),.va (cO s),.no]) (by unfold cO;simp[la]) rfl (by lia);simp only[Ar,ZF,J1,Fy,Bh,OL,No,Jt,At,LH,if_true,ei,e,Je,Mg];rw[ih,Gr,Dn,Cn]
noncomputable def pD(rows:List dP):dP->Bool
 | .tup ds=>XN rows ((YZ ds).getD [])
 |_=>false
theorem AE(rows:List dP)(s:List Int):pD rows (cO s)=XN rows s:=by
 show XN rows ((YZ (s.map .int)).getD [])=_;rw[YI];rfl
theorem PV{n:Nat}{s:List Int}(h:C5 n s)(hne:s≠[]):0<=s.getLastD 0/\s.getLastD 0<n:=by
 obtain⟨t,c,rfl⟩: ∃t c,s=t++[c]:=by
  rcases Fh s with e|⟨t,c,e⟩
  ·exact absurd e hne
  ·exact⟨t,c,by rw[e,Fi]⟩
 have:=(XG.mp h).2.2;simpa using this
theorem zB0{n:Nat}(hn:n<=8){s:List Int}(h:0<=s.getLastD 0):(WQ n s).length<=8:=by unfold WQ;rw[Bf,Eo];lia
theorem OK{n:Nat}(hn:n<=8): ∀{L:List (List Int)},(∀s∈L,0<=s.getLastD 0)->(L.flatMap (WQ n)).length<=L.length*8
 |[],_=>by simp
 |s::L,h=>by
  have:=OK hn (L:=L) fun t ht=>h t (Ah _ ht);have:=zB0 hn (h s Ai);rw[Gr,Bv,Bb];lia
theorem FM{P:List Int->Bool}{n:Nat}(hP: ∀s b,P (s++[b])=true->P s=true)(hn:n<=8): ∀k,(VV P n k).length<=8 ^ (k+1)
 |0=>by simp[VV,hn]
 | k + 1 => by
  have ih:=FM hP hn k;have h:=OK hn (L:=VV P n k) fun s hs=>by
   obtain⟨h1,h2,_⟩:=(WC hP).mp hs;exact(PV h1 fun e=>by rw[e] at h2;simp at h2).1
  refine Cf (Gk _ _) (Cf h ?_);rw[Nat.pow_succ 8 (k+1)];exact Nat.mul_le_mul_right _ ih
theorem zCP{sure:Int}{rows:List dP}{kds:List Kd}(hb:Bl [] rows kds)(hn:rows.length<=8)(k:Nat)(hk:k<=3)(la:Sl)(x:Sl):
  ∃x',ZB [.va (.tup [.int sure,.tup rows]),la,.va (.int rows.length),.va (.lst ((VV (XN rows) rows.length k).map cO)),.va (.int ((k:Int)+2)),x]=some (.nx [.va (.tup [.int sure,.tup rows]),la,.va (.int rows.length),.va (.lst ((VV (XN rows) rows.length (k+1)).map cO)),.va (.int ((k:Int)+2)),x']):=by
 have hP:=AQ rows;have hm: ∀s∈VV (XN rows) rows.length k,C5 rows.length s/\s.length=k+1:=fun s hs=>⟨((WC hP).mp hs).1,((WC hP).mp hs).2.1⟩;have ag:=FM hP hn k;have h84:8 ^ (k+1)<=4096:=by
  have:8 ^ (k+1)<=8 ^ 4:=Io (by decide) (by lia);simpa using this
 have hne: ∀s∈VV (XN rows) rows.length k,s≠[]:=fun s hs e=>by have:=(hm s hs).2;rw[e] at this;simp at this
 have c1:=E4 rows.length hn (VV (XN rows) rows.length k) [] (fun s hs=>⟨hne s hs,by have:=(hm s hs).2;lia,PV (hm s hs).1 (hne s hs)⟩) (by simp;lia);rw[Bh] at c1;have fl:=OK hn (L:=VV (XN rows) rows.length k) fun s hs=>(PV (hm s hs).1 (hne s hs)).1;have c2:=XV 2 (fB (dC 3 [] Z0 (aE (fV 0) (aE (fV 1) (aE (fV 2) cN))))) (pD rows) (fV 2) id [.va (.tup [.int sure,.tup rows]),.va (.int ((k:Int)+2))] rfl (((VV (XN rows) rows.length k).flatMap (WQ rows.length)).map cO) [] (fun d hd=>by
  obtain⟨u,hu,rfl⟩:=Bd.mp hd;obtain⟨s,hs,hu⟩:=Lb.mp hu;obtain⟨b,rfl⟩:=UM hu;have hr:=(OZ (hm s hs).1 (hne s hs)).mp hu;have hl2:(s++[b]).length=k+2:=by have:=(hm s hs).2;simp;lia
  have e:=FY (sure:=sure) hb hr.2 (by lia);rw[hl2,show(((k+2:Nat)):Int)=(k:Int)+2 by push_cast;rfl] at e;rw[AE];refine⟨?_,fun _=>by simp⟩;unfold cO;generalize (s++[b]).map dP.int=J at*;generalize (k:Int)+2=K at*;simp[e]) (by rw[Bf,Hj];lia)
 rw[Bh,Kr] at c2;have ef:(((VV (XN rows) rows.length k).flatMap (WQ rows.length)).map cO).filter (pD rows)=(VV (XN rows) rows.length (k+1)).map cO:=by
  rw[Jl];congr 1;exact Ki fun s _=>AE rows s
 rw[ef] at c2;refine⟨.va (.lst (((VV (XN rows) rows.length k).flatMap (WQ rows.length)).map cO)),?_⟩;have c1':=HW (ix:=[2]) (fi:=ZZ (fV 3)) (δ:=[.va (.tup [.int sure,.tup rows]),la,.va (.int rows.length),.va (.lst ((VV (XN rows) rows.length k).map cO)),.va (.int ((k:Int)+2)),x]) (ds:=(VV (XN rows) rows.length k).map cO) (δ1:=[.va (.tup [.int sure,.tup rows]),la,.va (.int rows.length),.va (.lst ((VV (XN rows) rows.length k).map cO)),.va (.int ((k:Int)+2)),x]) (by simp) c1;unfold ZB;generalize ((VV (XN rows) rows.length k).flatMap (WQ rows.length)).map cO=A at*;generalize (VV (XN rows) rows.length k).map cO=B at*;generalize (VV (XN rows) rows.length (k+1)).map cO=C at*;simp[cF,c1',c2]
theorem rngS(lo:Int)(n:Nat):bZ lo (n+1)= .int lo::bZ (lo+1) n:=by
 unfold bZ;rw[Ew];simp only[Ar,Cm];refine congr (congrArg List.cons (by simp)) (Ck fun k _=> ?_);simp only[Ir];congr 1;push_cast
 lia
theorem FJ{sure:Int}{rows:List dP}{kds:List Kd}(hb:Bl [] rows kds)(hn:rows.length<=8)(la:Sl): ∀(m k:Nat) (y x:Sl),k+m<=3-> ∃y' x',XW (gN 4) ZB (bZ ((k:Int)+2) m) [.va (.tup [.int sure,.tup rows]),la,.va (.int rows.length),.va (.lst ((VV (XN rows) rows.length k).map cO)),y,x]=some (.nx [.va (.tup [.int sure,.tup rows]),la,.va (.int rows.length),.va (.lst ((VV (XN rows) rows.length (k+m)).map cO)),y',x'])
 |0,k,y,x,_=>⟨y,x,rfl⟩
 |m+1,k,y,x,h=>by
  obtain⟨x1,e⟩:=zCP (sure:=sure) hb hn k (by lia) la x;obtain⟨y',x',ih⟩:=FJ hb hn la m (k+1) (.va (.int ((k:Int)+2))) x1 (by lia);refine⟨y',x',?_⟩;have e1:bZ ((k:Int)+2) (m+1)= .int ((k:Int)+2)::bZ (((k+1:Nat):Int)+2) m:=by rw[rngS,show((k:Int)+2+1)=(((k+1:Nat):Int)+2) by push_cast;lia]
  rw[e1,TL,OL,PP];rw[show([.va (.tup [.int sure,.tup rows]),la,.va (.int rows.length),.va (.lst ((VV (XN rows) rows.length k).map cO)),y,x]:Ev).set 4 (.va (.int ((k:Int)+2)))=[.va (.tup [.int sure,.tup rows]),la,.va (.int rows.length),.va (.lst ((VV (XN rows) rows.length k).map cO)),.va (.int ((k:Int)+2)),x] from rfl,e,PQ,ih];rw[show k+1+m=k+(m+1) by lia]
theorem JB{sure:Int}{rows:List dP}{kds:List Kd}(hb:Bl [] rows kds)(hn:rows.length<=8){b:Nat}(h1:2<=b)(h2:b<=4):Y4 [.tup [.int sure,.tup rows],.int b]=some (.lst ((VV (XN rows) rows.length (b - 1)).map cO),[]):=by
 obtain⟨y',x',e⟩:=FJ (sure:=sure) hb hn (.va (.int b)) (b - 1) 0 .no .no (by lia);rw[Hc] at e;have c:=YW 0 (aN (dL (fV 0) cP)) [] (fun d=> .tup [d]) rfl (bZ 0 rows.length) [] (fun d _=>by simp) (by simp[bZ];lia);have e0:(bZ 0 rows.length).map (fun d=>dP.tup [d])=(VV (XN rows) rows.length 0).map cO:=by
  unfold bZ VV cO;rw[Cm,Cm];refine Ck fun k _=> ?_;simp
 rw[Bh,e0] at c;have hr:(((b:Int)+1) - 2).toNat=b - 1:=by lia
 have hb1: -4611686018427387904<=(b:Int)+1:=by lia
 have hb2:(b:Int)+1<4611686018427387904:=by lia
 have hn1:(-4611686018427387904:Int)<=rows.length:=by lia
 have hn2:(rows.length:Int)<4611686018427387904:=by lia
 have ei:CP (fC (.int 2)) (f2 a6 (fV 1) (fC (.int 1))) [.va (.tup [.int sure,.tup rows]),.va (.int b),.va (.int rows.length),.va (.lst ((VV (XN rows) rows.length 0).map cO)),.no,.no]=some (bZ (((0:Nat):Int)+2) (b - 1),[.va (.tup [.int sure,.tup rows]),.va (.int b),.va (.int rows.length),.va (.lst ((VV (XN rows) rows.length 0).map cO)),.no,.no]):=by
  rw[zAR (δ1:=[.va (.tup [.int sure,.tup rows]),.va (.int b),.va (.int rows.length),.va (.lst ((VV (XN rows) rows.length 0).map cO)),.no,.no]) rfl rfl (by lia),hr];rfl
 unfold Y4;rw[cR,U2.eq_1];generalize (VV (XN rows) rows.length 0).map cO=A at*;generalize (VV (XN rows) rows.length (b - 1)).map cO=C at*;have s1:aV 2 (xV (f1 aR (f2 cZ (fV 0) (fC (.int 1))))) (cI [] 6 [.tup [.int sure,.tup rows],.int b])=some (.nx [.va (.tup [.int sure,.tup rows]),.va (.int b),.va (.int rows.length),.no,.no,.no]):=by simp[cI]
 have s2:aV 3 (xV (bW [] 1 (HD (fV 2)) (gN 0) ZX (aN (dL (fV 0) cP)))) [.va (.tup [.int sure,.tup rows]),.va (.int b),.va (.int rows.length),.no,.no,.no]=some (.nx [.va (.tup [.int sure,.tup rows]),.va (.int b),.va (.int rows.length),.va (.lst A),.no,.no]):=by simp[cF,c,hn1,hn2]
 have s3:RV (CP (fC (.int 2)) (f2 a6 (fV 1) (fC (.int 1)))) (gN 4) ZB [.va (.tup [.int sure,.tup rows]),.va (.int b),.va (.int rows.length),.va (.lst A),.no,.no]=some (.nx [.va (.tup [.int sure,.tup rows]),.va (.int b),.va (.int rows.length),.va (.lst C),y',x']):=by
  rw[IB,ei];exact e
 rw[VJ s1 rfl,VJ s2 rfl,VJ s3 rfl];simp
def tbD(m:Nat):dP->Bool
 | .int r=>m.testBit r.toNat
 |_=>false
theorem zH6(m r:Nat):decide ((m:Int)/2 ^ r % 2=1)=m.testBit r:=by
 rw[Nat.testBit_eq_decide_div_mod_eq];refine decide_eq_decide.mpr ?_;rw[show((2:Int) ^ r)=((2 ^ r:Nat):Int) by push_cast;rfl];have e:(m:Int)/((2 ^ r:Nat):Int) % 2=((m/2 ^ r % 2:Nat):Int):=by
  rw[Int.natCast_emod,Int.natCast_ediv];rfl
 rw[e];lia
theorem zB9(n m:Nat)(hn:n<=8):aU 1 1 (gN 1) (fB (f2 YC (f2 M9 (f2 D4 (fV 0) (fV 1)) (fC (.int 1))) (fC (.int 1)))) (fV 1) (bZ 0 n) [] [.va (.int m)]=some ((bG n m).map .int,[.va (.int m)]):=by
 have c:=XV 1 (fB (f2 YC (f2 M9 (f2 D4 (fV 0) (fV 1)) (fC (.int 1))) (fC (.int 1)))) (tbD m) (fV 1) id [.va (.int m)] rfl (bZ 0 n) [] (fun d hd=>by
  unfold bZ at hd;obtain⟨k,_,rfl⟩:=Bd.mp hd;have e:=zH6 m k;have e1:D4 (.int m) (.int (0+(k:Int)))=some (.int ((m:Int)/2 ^ k)):=by
   show(if decide (0<=0+(k:Int))=true then some (dP.int ((m:Int)/2 ^ (0+(k:Int)).toNat)) else none)=_;rw[if_pos (by simp),show(0+(k:Int)).toNat=k by lia]
  have e2:M9 (.int ((m:Int)/2 ^ k)) (.int 1)=some (.int ((m:Int)/2 ^ k % 2)):=rfl;have e3:tbD m (.int (0+(k:Int)))=m.testBit k:=by
   show m.testBit (0+(k:Int)).toNat=_;rw[show(0+(k:Int)).toNat=k by lia]
  rw[e3,<- e];generalize (0+(k:Int))=K at*;generalize (m:Int)/2 ^ k=Q at*;exact⟨by simp[e1,e2],fun _=>by simp⟩) (by simp[bZ];lia)
 rw[c,Bh,Kr];congr 2;unfold bZ bG;rw[Jl,Cm];have:((fun k:Nat=>dP.int (0+(k:Int))):Nat->dP)=(dP.int∘fun r:Nat=>(r:Int)):=by
  funext k;simp
 rw[this];congr 1
theorem zB8(n m:Nat):C5 n (bG n m):=by
 unfold bG;refine⟨Ft.mpr ((List.pairwise_lt_range.filter _).imp fun h=>by lia),fun i hi=> ?_⟩;obtain⟨r,hr,rfl⟩:=Bd.mp hi;have:=Bk.mp (Dm.mp hr).1;lia
noncomputable def QK(rows:List dP)(b:Nat)(s:List Int):Bool:=decide (s.length=b) && XN rows s
theorem zGH{sure:Int}{rows:List dP}{kds:List Kd}(hb:Bl [] rows kds){b:Nat}(h1:2<=b)(h2:b<=4){s:List Int}(hs:C5 rows.length s)(hl:s.length=b):aM [.tup [.int sure,.tup rows],.int b,cO s]=some (.bl (XN rows s),[]):=by
 match s,hl with
 |[],hl=>simp at hl;lia
 |[i],hl=>simp at hl;lia
 |i::j::r,hl=>
  have e:=zAB (sure:=sure) hb hs.2 hs.1 (by simp) (by simp at hl⊢;lia);rw[hl] at e;exact e
def OG(a t blk:Sl)(b:Nat)(D:List (List Int))(m x:Sl):Ev:=[a,t,blk,.va (.int b),.ow (.lst (D.map cO)),m,x]
theorem zJK{sure:Int}{rows:List dP}{kds:List Kd}(hb:Bl [] rows kds)(hn:rows.length<=8){b:Nat}(h1:2<=b)(h2:b<=4)(a t:Sl)(D:List (List Int))(m:Nat)(x:Sl)(hD:D.length<1000):
  SJ (OG a t (.va (.tup [.int sure,.tup rows])) b D (.va (.int m)) x)=some (.nx (OG a t (.va (.tup [.int sure,.tup rows])) b (D++[bG rows.length m].filter (QK rows b)) (.va (.int m)) (.va (cO (bG rows.length m))))):=by
 have c:=zB9 rows.length m hn;have hr:=zB8 rows.length m;have hn1:(-4611686018427387904:Int)<=rows.length:=by lia
 have hn2:(rows.length:Int)<4611686018427387904:=by lia
 have hbl:(bG rows.length m).length<=8:=by
  unfold bG;rw[Bf];exact Cf (Gk _ _) (by simpa using hn)
 have ht:XF (.lst ((bG rows.length m).map .int))=some (cO (bG rows.length m)):=rfl;have hle:aR (cO (bG rows.length m))=some (.int (bG rows.length m).length):=by
  show some (dP.int (((bG rows.length m).map dP.int).length:Nat))=_;rw[Bf]
 have hD':(D.map cO).length<16777216:=by simp;lia
 have s1:aV 6 (xV (f1 XF (bW [5] 1 (HD (f1 aR (f2 cZ (fV 2) (fC (.int 1))))) (gN 1) (fB (f2 YC (f2 M9 (f2 D4 (fV 0) (fV 1)) (fC (.int 1))) (fC (.int 1)))) (fV 1)))) (OG a t (.va (.tup [.int sure,.tup rows])) b D (.va (.int m)) x)=some (.nx (OG a t (.va (.tup [.int sure,.tup rows])) b D (.va (.int m)) (.va (cO (bG rows.length m))))):=by
  unfold OG;generalize cO (bG rows.length m)=T at*;generalize (bG rows.length m).map dP.int=B at*;generalize D.map cO=E at*;simp[cF,c,hn1,hn2,ht]
 unfold SJ;rw[WL s1];by_cases hl:(bG rows.length m).length=b
 ·have e:=zGH (sure:=sure) hb h1 h2 hr hl
  have ef:[bG rows.length m].filter (QK rows b)=if XN rows (bG rows.length m)=true then[bG rows.length m] else[]:=by
   unfold QK;rw[Lc,hl];simp
  rw[ef];rw[hl] at hle;unfold OG;cases hp:XN rows (bG rows.length m) with
  |true=>
   rw[hp] at e;rw[if_pos rfl,Dn,Np];generalize cO (bG rows.length m)=T at*;generalize D.map cO=E at*;simp[hle,e,hD']
  |false=>
   rw[hp] at e;rw[if_neg (by decide),Ef];generalize cO (bG rows.length m)=T at*;generalize D.map cO=E at*;simp[hle,e]
 ·have ef:[bG rows.length m].filter (QK rows b)=[]:=by
   unfold QK;rw[Lc];simp[hl]
  rw[ef,Ef];unfold OG;have hl': ¬((bG rows.length m).length:Int)=(b:Int):=by lia
  generalize cO (bG rows.length m)=T at*;generalize D.map cO=E at*;simp[hle,hl']
theorem zDT{sure:Int}{rows:List dP}{kds:List Kd}(hb:Bl [] rows kds)(hn:rows.length<=8){b:Nat}(h1:2<=b)(h2:b<=4)(a t:Sl): ∀(ms:List Nat) (D:List (List Int)) (y x:Sl),D.length+ms.length<1000→
  ∃y' x',XW (gN 5) SJ (ms.map fun m:Nat=> .int m) (OG a t (.va (.tup [.int sure,.tup rows])) b D y x)=some (.nx (OG a t (.va (.tup [.int sure,.tup rows])) b (D++(ms.map (bG rows.length)).filter (QK rows b)) y' x'))
 |[],D,y,x,_=>⟨y,x,by simp⟩
 | m :: ms,D,y,x,h => by
  simp only[Bb] at h;have e:=zJK (sure:=sure) hb hn h1 h2 a t D m x (by lia);have hf:([bG rows.length m].filter (QK rows b)).length<=1:=Gk _ _;obtain⟨y',x',ih⟩:=zDT (sure:=sure) hb hn h1 h2 a t ms (D++[bG rows.length m].filter (QK rows b)) (.va (.int m)) (.va (cO (bG rows.length m))) (by rw[Bv];lia);refine⟨y',x',?_⟩;have ef:(D++[bG rows.length m].filter (QK rows b))++(ms.map (bG rows.length)).filter (QK rows b)=D++((m::ms).map (bG rows.length)).filter (QK rows b):=by
   rw[Cn,<- Js];rfl
  rw[Ar,TL,OL,PP,show(OG a t (.va (.tup [.int sure,.tup rows])) b D y x).set 5 (.va (.int m))=OG a t (.va (.tup [.int sure,.tup rows])) b D (.va (.int m)) x from rfl,e,PQ,ih,ef]
theorem zAG: ∀(ks σ:List b9),(σ++ks).Nodup->ks.foldl aD σ=σ++ks
 |[],σ,_=>by simp
 |k::ks,σ,h=>by
  have hk:k∉σ:=fun z=>(Ke.mp h).2.2 k z k Ai rfl;have e:aD σ k=σ++[k]:=if_neg fun z=>hk (YJ.mp z);rw[Hr,e,zAG ks (σ++[k]) (by rw[Cn];exact h),Cn];rfl
theorem FF: ∀xs:List Int,ksD (xs.map .int)=some (xs.map Mh)
 |[]=>rfl
 |x::xs=>by
  show(XX (.int x)).bind (fun k=>(ksD (xs.map .int)).map fun ks=>k::ks)=_;rw[FF xs];rfl
theorem CL(s:List Int)(hl:s.length<1000):Z1 [.tup [cO s]]=some (.lst (s.map .int),[]):=by
 have inr: ∀(ds acc:List dP) (x:Sl),acc.length+ds.length<10000-> ∃x',T0 (gN 1) ZX (fV 1) ds acc [.va (cO s),x]=some (acc++ds,[.va (cO s),x']):=by
  intro ds;induction ds with
  |nil=>exact fun acc x _=>⟨x,by simp[T0]⟩
  |cons d ds ih=>
   intro acc x hl;simp only[Bb] at hl;obtain⟨x',e⟩:=ih (acc++[d]) (.va d) (by simp;lia);refine⟨x',?_⟩;have aq:acc.length<16777216:=by lia
   simp only[T0];simp[aq,e]
 obtain⟨x',e⟩:=inr (s.map .int) [] .no (by simp;lia);have c:ZF 0 2 (gN 0) ZX (ZZ (fV 0)) (gN 1) ZX (fV 1) [cO s] [] []=some (s.map .int,[]):=by
  have ei:ZZ (fV 0) [.va (cO s),.no]=some (s.map .int,[.va (cO s),.no]):=rfl;simp only[ZF,J1,Bh,OL,Jt,At,LH,if_true,ei,e,Mg]
 have c':=HW (ix:=[]) (fi:=ZZ (fV 0)) (δ:=[.va (.tup [cO s])]) (ds:=[cO s]) (δ1:=[.va (.tup [cO s])]) (by simp) c;unfold Z1;rw[cR];unfold W3;generalize cO s=T at*;simp[cI,c']
theorem zF2{sure:Int}{rows:List dP}{kds:List Kd}(hb:Bl [] rows kds)(hib:ZA [.tup [.int sure,.tup rows]]=some (.bl true,[])){b:Nat}(h1:2<=b)(h2:b<=4){s:List Int}(hs:C5 rows.length s)(hl:s.length=b)(hp:XN rows s=true):
  Y7 [.tup [.int sure,.tup rows],.int b,.tup [cO s]]=some (.bl true,[]):=by
 have e0:=FY (sure:=sure) hb hs.2 (by lia);rw[hl,hp] at e0;have e:Z0 [.tup [.int sure,.tup rows],.int b,cO s]=some (.bl true,[]):=e0;clear e0;have w:=CL s (by lia);have nd:s.Nodup:=hs.1.imp fun h=>by lia
 have l1:WE (.lst (s.map .int))=some (.int s.length):=by
  have e:WE (.lst (s.map .int))=(ksD (s.map .int)).bind fun ks=>if ks.length+1<4096 then some (.int (ks.foldl aD []).length) else none:=rfl
  rw[e,FF,At,if_pos (by simp;lia),zAG _ _ (by
   rw[Bh];exact Ft.mpr (nd.imp fun h z=>h (by injection z)))]
  simp
 have l2:aR (.lst (s.map .int))=some (.int s.length):=by
  show some (dP.int ((s.map dP.int).length:Nat))=_;rw[Bf]
 have hne:s≠[]:=fun z=>by rw[z] at hl;simp at hl;lia
 have tp:tpD (cO s)=some s:=by
  show(YZ (s.map .int)).bind (fun ns=>if ns.isEmpty then none else some ns)=_;rw[YI,At,if_neg (by cases s with|nil=>exact absurd rfl hne|cons=>simp)]
 obtain⟨ys,p1,_,_,p2⟩:=BP cO id [] [s] (fun a ha=>by rw[Ax.mp ha];exact tp) (by simp);have p3:ys=[s]:=List.perm_singleton.mp p1;subst p3;have okt:SF 1 (cO s):=WG (aH s);have q:YC (.lst [cO s]) (.lst [cO s])=some (.bl true):=by rw[zA6 (j:=2) (k:=2) (aZ (bS okt aA)) (aZ (bS okt aA)),JK (k:=2) (aZ (bS okt aA))]
 have h2':(2:Int)<=b:=by lia
 have h4':(b:Int)<=4:=by lia
 have kl:bV [.tup [.int sure,.tup rows],.int b]=some (.non,[]):=by
  have il:ZP [.int b]=some (.bl true,[]):=by
   unfold ZP;rw[cR];unfold V6;simp[cI,X8,XU,h2',h4']
  unfold bV;rw[cR];unfold YB;generalize dP.tup [.int sure,.tup rows]=blk at*;simp[cI,hib,il]
 have fp:Y6 [.tup [.int sure,.tup rows],.int b,.tup [cO s]]=some (.bl true,[]):=by
  unfold Y6;rw[cR];unfold U4;have p2:WF (.tup [cO s])=some (.lst [cO s]):=p2;generalize dP.tup [.int sure,.tup rows]=blk at*;generalize cO s=T at*;generalize s.map dP.int=S at*;simp[cI,cF,e,w,l1,l2,p2,q]
 unfold Y7;rw[cR];unfold RM;generalize dP.tup [.int sure,.tup rows]=blk at*;generalize cO s=T at*;simp[cI,kl,fp]
theorem zF3{rows:List dP}{kds:List Kd}(hb:Bl [] rows kds)(h8:rows.length=8)(a b c x y:Int): ¬(XN rows [0,a,b,c]=true/\XN rows [0,b,x,y]=true):=by
 rintro ⟨h1,h2⟩;unfold XN at h1 h2;rw[Ae] at h1 h2;have h1:(mf rows 0 a && (mf rows a b && (mf rows b c && true)))=true:=h1.1;have h2:(mf rows 0 b && (mf rows b x && (mf rows x y && true)))=true:=h2.1;simp only[Ae] at h1 h2;obtain⟨_,n1,s1,p1⟩:=O8.mp h1.1;obtain⟨_,_,s2,p2⟩:=O8.mp h1.2.1;obtain⟨_,_,s3,p3⟩:=O8.mp h2.1;obtain⟨z,q,qs,e1,e2,_⟩:=X7 hb (i:=0) (by decide) (by lia);have hz:=row0 hb e2;have hd:OQ (ZV rows 0)=Aw z:=by rw[e1];rfl
 rw[hd] at n1 s1 p1 p3;rcases hz with rfl|rfl
 ·exact n1 rfl
 ·have o:=zA2 (x:= "load") (.inl rfl)
  have:=p1 o;have:=p3 o;rw[s1] at p2;have:=p2 o;lia
end L2
namespace RR
open PySem L2
theorem zAC(ns:List Int)(hl:ns.length<=63):ML [.lst (ns.map .int)]=some (.bl true,[]):=by
 obtain⟨sure,rows,kds,n,hb,ag,s0,s1,hn,e1⟩:=zB7 ns 0 8 hl (by lia) (by lia) (by lia);have r8:rows.length<=8:=by lia
 have hib:=HF hb s0 s1 (by lia);have d1:=YA ns n 3 hl (by lia) (by decide);have d0:=Q0 ns n (b:=3) (by decide);have d2:N5 ns n 3<3:=Eb _ (by decide);obtain⟨b,hbb,h1,h2⟩: ∃b:Nat,2+N5 ns n 3=(b:Int)/\2<=b/\b<=4:=⟨(2+N5 ns n 3).toNat,by lia,by lia,by lia⟩;have hP:=AQ rows;have fw:=few (P:=XN rows) (n:=rows.length) (k:=b) r8 (by lia) (zF3 hb);obtain⟨y',x',eL⟩:=zDT (sure:=sure) hb r8 h1 h2 (.va (X0 ns)) (.ow (YG (n+1))) (Am (2 ^ rows.length)) [] .no .no (by
  have:2 ^ rows.length<=2 ^ 8:=Io (by decide) r8;simp;lia)
 rw[Bh,JW] at eL;have hD: ∀s∈(YT rows.length).filter (QK rows b),C5 rows.length s/\s.length=b/\XN rows s=true:=fun s hs=>by
  obtain⟨m1,m2⟩:=Dm.mp hs;unfold QK at m2;rw[Ae,decide_eq_true_eq] at m2;exact⟨X6.mp m1,m2⟩
 have fw:((YT rows.length).filter (QK rows b)).length<64:=fw;obtain⟨ys,p1,p2,p3,_⟩:=BP cO id [] ((YT rows.length).filter (QK rows b)) (fun s hs=>by
  obtain⟨_,m2,_⟩:=hD s hs;show(YZ (s.map .int)).bind (fun ns=>if ns.isEmpty then none else some ns)=_;rw[YI,At,if_neg (by cases s with|nil=>simp at m2;lia|cons=>simp)];rfl) fw
 have p4:ys=VV (XN rows) rows.length (b - 1):=BR hP (by lia) (by
  rw[show b - 1+1=b by lia];exact p1) p2
 have ap:=JB (sure:=sure) hb r8 h1 h2;rw[<- p4] at ap;have okl:SF 2 (.lst (ys.map cO)):=aZ fun d hd=>by
  obtain⟨s,_,rfl⟩:=Bd.mp hd;exact WG (aH s)
 have ne:TJ (.lst (ys.map cO)) (.lst (ys.map cO))=some (.bl false):=by
  rw[NB okl okl,JK okl];rfl
 have h2':(2:Int)<=b:=by lia
 have h4':(b:Int)<=4:=by lia
 have pk:V0 [.tup [.int sure,.tup rows],.int b]=some (.lst (ys.map cO),[]):=by
  have il:ZP [.int b]=some (.bl true,[]):=by
   unfold ZP;rw[cR];unfold V6;simp -implicitDefEqProofs [cI,X8,XU,h2',h4']
  have kl:bV [.tup [.int sure,.tup rows],.int b]=some (.non,[]):=by
   unfold bV;rw[cR];unfold YB;generalize dP.tup [.int sure,.tup rows]=blk at*;simp -implicitDefEqProofs [cI,hib,il]
  have kf:Y5 [.tup [.int sure,.tup rows],.int b]=some (.non,[]):=by
   have h8: ¬(8:Int)<rows.length:=by lia
   unfold Y5;rw[cR];unfold U3;simp -implicitDefEqProofs [cI,kl,YV,h8]
  unfold V0;rw[cR];unfold LV;generalize dP.tup [.int sure,.tup rows]=blk at*;generalize ys.map cO=Y at*;simp -implicitDefEqProofs [cI,kf,ap]
 have cf:=XV 2 (fB (f2 NC (dC 3 [] Y7 (aE (fV 0) (aE (fV 1) (aE (aN (dL (fV 2) cP)) cN)))) (fC (.bl true)))) (fun _=>false) (fV 2) id [.va (.tup [.int sure,.tup rows]),.va (.int b)] rfl (((YT rows.length).filter (QK rows b)).map cO) [] (fun d hd=>by
  obtain⟨s,hs,rfl⟩:=Bd.mp hd;obtain⟨m1,m2,m3⟩:=hD s hs;have e:=zF2 hb hib h1 h2 m1 m2 m3;generalize dP.tup [.int sure,.tup rows]=blk at*;generalize cO s=T at*;have nb:NC (.bl true) (.bl true)=some (.bl false):=rfl;exact⟨by simp -implicitDefEqProofs [e,nb],fun z=>by cases z⟩) (by rw[Bf,Hj];lia)
 have ff:(((YT rows.length).filter (QK rows b)).map cO).filter (fun _=>false)=[]:=Lg.mpr fun _ _=>by decide
 rw[Bh,ff,Dj] at cf;have hS:dP.lst (ns.map .int)=X0 ns:=rfl;have hx0:cI [] 7 [X0 ns]=[.va (X0 ns),.no,.no,.no,.no,.no,.no]:=rfl;have pw:(2:Int) ^ rows.length=((2 ^ rows.length:Nat):Int):=by push_cast;rfl
 have oo:2 ^ rows.length<=256:=Io (n:=2) (by decide) r8;have rg:bZ 0 (2 ^ rows.length)=(Am (2 ^ rows.length)).map fun m:Nat=>dP.int m:=by
  unfold bZ;exact Ck fun k _=>by simp
 have g2:Q8 2 3 (xV (dC 3 [1] aC (aE (fV 0) (aO 1 (aE (fC (.int 8)) cN))))) (xV (f2 a6 (fC (.int 2)) (dC 3 [1] cT (aE (fV 0) (aO 1 (aE (fC (.int 3)) cN)))))) [.va (X0 ns),.ow (YG 0),.no,.no,.no,.no,.no]=some (.nx [.va (X0 ns),.ow (YG (n+1)),.va (.tup [.int sure,.tup rows]),.va (.int b),.no,.no,.no]):=by
  rw[<- hbb];simp -implicitDefEqProofs [e1,d1]
 have g3:aV 4 (xO (ZL cP)) [.va (X0 ns),.ow (YG (n+1)),.va (.tup [.int sure,.tup rows]),.va (.int b),.no,.no,.no]=some (.nx (OG (.va (X0 ns)) (.ow (YG (n+1))) (.va (.tup [.int sure,.tup rows])) b [] .no .no)):=rfl;have g4:RV (HD (f2 oShl (fC (.int 1)) (f1 aR (f2 cZ (fV 2) (fC (.int 1)))))) (gN 5) SJ (OG (.va (X0 ns)) (.ow (YG (n+1))) (.va (.tup [.int sure,.tup rows])) b [] .no .no)=some (.nx (OG (.va (X0 ns)) (.ow (YG (n+1))) (.va (.tup [.int sure,.tup rows])) b ((YT rows.length).filter (QK rows b)) y' x')):=by
  have ei:HD (f2 oShl (fC (.int 1)) (f1 aR (f2 cZ (fV 2) (fC (.int 1))))) (OG (.va (X0 ns)) (.ow (YG (n+1))) (.va (.tup [.int sure,.tup rows])) b [] .no .no)=some ((Am (2 ^ rows.length)).map (fun m:Nat=>dP.int m),OG (.va (X0 ns)) (.ow (YG (n+1))) (.va (.tup [.int sure,.tup rows])) b [] .no .no):=by
   have es:oShl (.int 1) (.int rows.length)=some (.int ((2 ^ rows.length:Nat):Int)):=by
    show(if G1 1 (rows.length:Int)=true then some (dP.int (1*2 ^ (rows.length:Int).toNat)) else none)=_;rw[if_pos (by unfold G1;simp;lia),Int.one_mul,Gq,pw]
   have q1:(-4611686018427387904:Int)<=((2 ^ rows.length:Nat):Int):=by lia
   have q2:((2 ^ rows.length:Nat):Int)<4611686018427387904:=by lia
   rw[<- rg];generalize 2 ^ rows.length=M at*;unfold OG;simp -implicitDefEqProofs [es,q1,q2]
  rw[IB,ei];exact eL
 have g5:XA (fB (f2 TJ (dC 2 [] V0 (aE (fV 2) (aE (fV 3) cN))) (f1 WF (fO 4)))) (cD (fC (.bl false))) aS (OG (.va (X0 ns)) (.ow (YG (n+1))) (.va (.tup [.int sure,.tup rows])) b ((YT rows.length).filter (QK rows b)) y' x')=some (.nx (OG (.va (X0 ns)) (.ow (YG (n+1))) (.va (.tup [.int sure,.tup rows])) b ((YT rows.length).filter (QK rows b)) y' x')):=by
  unfold OG;generalize ((YT rows.length).filter (QK rows b)).map cO=A at*;generalize ys.map cO=Y at*;generalize dP.tup [.int sure,.tup rows]=blk at*;simp -implicitDefEqProofs [pk,p3,ne]
 have g6:cD (f2 YC (bW [2,3] 1 (ZZ (fO 4)) (gN 2) (fB (f2 NC (dC 3 [] Y7 (aE (fV 0) (aE (fV 1) (aE (aN (dL (fV 2) cP)) cN)))) (fC (.bl true)))) (fV 2)) (ZL cP)) (OG (.va (X0 ns)) (.ow (YG (n+1))) (.va (.tup [.int sure,.tup rows])) b ((YT rows.length).filter (QK rows b)) y' x')=some (.rt (.bl true) (OG (.va (X0 ns)) (.ow (YG (n+1))) (.va (.tup [.int sure,.tup rows])) b ((YT rows.length).filter (QK rows b)) y' x')):=by
  have q:YC (.lst []) (.lst [])=some (.bl true):=rfl;unfold OG;generalize ((YT rows.length).filter (QK rows b)).map cO=A at*;generalize dP.tup [.int sure,.tup rows]=blk at*;simp -implicitDefEqProofs [cF,cf,q]
 rw[hS];unfold ML;rw[cR,zAW.eq_1,hx0,WL (show aV 1 (xO (ZL cP)) [.va (X0 ns),.no,.no,.no,.no,.no,.no]=some (.nx [.va (X0 ns),.ow (YG 0),.no,.no,.no,.no,.no]) from rfl),WL g2,WL g3,WL g4,WL g5,g6];rfl
end RR
namespace KK
open PySem PySem.W
noncomputable abbrev g(a i:Nat)(n:Str)(d m:Value):Obj:=⟨.type "function",none,.func (fnOf n n (L2.X9 (RR.top i)) (L2.ZK (RR.top i)) (L2.dF (RR.top i)) d .none .none m none (.ref (a - 1)) .none),#[]⟩
theorem p(P:Pk)(a i:Nat)(n:Str)(m:Value)(h1:nsIn (K P) mainGlobals n=some (some (.ref a)):=by kernel_rfl)(h2:(K P).lookup a=some (g a i n .none m):=by kernel_rfl)(h3:codeIn (K P) (.ref (a - 1)) n=true:=by kernel_rfl):L2.A4 (K P) n (RR.top i) a:=L2.a4 h1 h2 h3 (by unfold keepIn;simp only[h2])
end KK
namespace RR
open PySem L2
abbrev Zn(K:As)(x:Str):Prop:=Ol K mainGlobals x=some none
abbrev Gn(K:As)(x:Str)(v:Value):Prop:=Ol K mainGlobals x=some (some v)
theorem LA{α:Type}{P:List α->Prop}(z: ∀a,P [a]): ∀us:List α,us.length=1->P us
 |[a],_=>z a
theorem LB{α:Type}{P:List α->Prop}(z: ∀a b,P [a,b]): ∀us:List α,us.length=2->P us
 |[a,b],_=>z a b
theorem QM{α:Type}{P:List α->Prop}(z: ∀a b c,P [a,b,c]): ∀us:List α,us.length=3->P us
 |[a,b,c],_=>z a b c
theorem Len4{α:Type}{P:List α->Prop}(z: ∀a b c d,P [a,b,c,d]): ∀us:List α,us.length=4->P us
 |[a,b,c,d],_=>z a b c d
theorem Len5{α:Type}{P:List α->Prop}(z: ∀a b c d e,P [a,b,c,d,e]): ∀us:List α,us.length=5->P us
 |[a,b,c,d,e],_=>z a b c d e
theorem Len6{α:Type}{P:List α->Prop}(z: ∀a b c d e f,P [a,b,c,d,e,f]): ∀us:List α,us.length=6->P us
 |[a,b,c,d,e,f],_=>z a b c d e f
theorem zH8{l:Rk}{w:World}{K:As}{h:Heap}{mg:Str->Option Value}{fa:Addr}(X:K.In h)(G:h.Ns mainGlobals mg)(hfa:mg "law"=some (.ref fa))
  {f_x0 f_x1 f_x2 f_x3 f_x4 f_x5 f_x6 f_x7 f_x8 f_x9 f_x10 f_x11 f_x12 f_x13 f_x14 f_x15 f_x16 f_x17 f_x18 f_x19 f_x20 f_x21 f_x22 f_x23 f_x24 f_x26 f_x25 f_x28 f_x29 f_x30 f_x32 f_x33 f_x27 f_x31 f_x34:Addr}
  {kV_x34 dc_x34 pm_x34 cd_x34 ct_x34:Value}
  {t1 t2 t3 t4 t5 t6 t7 t8:Tok}
  {a9:Addr}
  {t10 t11 t12 t13 t14:Tok}
  {a15:Addr}
  {t16 t17 t18 t19 t20 t21 t22:Tok}
  {a23:Addr}
  {t24 t25 t26:Tok}
  {a27:Addr}
  {t28:Tok}
  {a29:Addr}
  {t30 t31 t32:Tok}
  {a33:Addr}
  {t34 t35:Tok}
  {a36:Addr}
  {t37 t38 t39:Tok}
  {a40 a41:Addr}
  {h42 h43 h44 h45 h46 h47:Int}
  {t48 t49:Tok}
  {a50:Addr}
  {t51 t52:Tok}
  {a53:Addr}
  {t54 t55 t56:Tok}
  (my:A4 K "is_whole" (top 8) f_x0)
  (mx:A4 K "parts_of" (top 17) f_x1)
  (mw:A4 K "makes_word" (top 18) f_x2)
  (mq:A4 K "place_of" (top 19) f_x3)
  (mo:A4 K "names_of" (top 20) f_x4)
  (mn:A4 K "may_name" (top 21) f_x5)
  (mm:A4 K "fits" (top 22) f_x6)
  (mj:A4 K "is_row" (top 23) f_x7)
  (mi:A4 K "is_block" (top 24) f_x8)
  (mh:A4 K "is_lanes" (top 28) f_x9)
  (l0:A4 K "may_follow" (top 29) f_x10)
  (kz:A4 K "is_pack" (top 30) f_x11)
  (kx:A4 K "rows_within" (top 31) f_x12)
  (ku:A4 K "fits_plan" (top 32) f_x13)
  (kr:A4 K "check_lanes" (top 33) f_x14)
  (kq:A4 K "is_plan" (top 34) f_x15)
  (ko:A4 K "check_few" (top 37) f_x16)
  (kn:A4 K "all_packs" (top 38) f_x17)
  (km:A4 K "packs" (top 39) f_x18)
  (kj:A4 K "_law_cell_at" (top 41) f_x19)
  (ki:A4 K "_law_mixed" (top 42) f_x20)
  (kg:A4 K "_law_draw" (top 43) f_x21)
  (kc:A4 K "_law_pick" (top 44) f_x22)
  (ka:A4 K "_law_place" (top 45) f_x23)
  (k9:A4 K "_law_row" (top 46) f_x24)
  (k7:A4 K "_law_next" (top 48) f_x26)
  (k8:A4 K "_law_rows" (top 47) f_x25)
  (k5:A4 K "_law_names" (top 50) f_x28)
  (k4:A4 K "_law_may" (top 51) f_x29)
  (jz:A4 K "_law_must" (top 52) f_x30)
  (jx:A4 K "_law_mixed_order" (top 54) f_x32)
  (jw:A4 K "_law_renamed" (top 55) f_x33)
  (k6:A4 K "_law_block" (top 49) f_x27)
  (jy:A4 K "_law_is_pack" (top 53) f_x31)
  (m9:Ol K mainGlobals "law"=some (some (.ref f_x34)))
  (lm:K.lookup f_x34=some ⟨.type "function",none,.func (Mc "law" "law" (X9 (top 56)) (ZK (top 56)) (dF (top 56)) .none kV_x34 dc_x34 pm_x34 none cd_x34 ct_x34),#[]⟩)
  (m8:Mu K cd_x34 "law"=true)
  (lp:Lx K (.ref f_x34)=true)
  (jq:Zn K "len")
  (i8:Zn K "range")
  (jm:Zn K "min")
  (jo:Zn K "max")
  (iu:Zn K "list")
  (i7:Zn K "tuple")
  (ft:Zn K "sorted")
  (d8:Zn K "isinstance")
  (iy:Zn K "bool")
  (jr:Zn K "int")
  (jk:Zn K "str")
  (df:Zn K "enumerate")
  (jj:Zn K "zip")
  (ju:Zn K "all")
  (jt:Zn K "any")
  (iw:Zn K "dict")
  (jl:Zn K "set")
  (dn:Gn K "MOST_WORD" (.int 999 t1))
  (mz:K.lookup a9=some ⟨.type "tuple",none,.seq #[.str "plus" t2,.str "minus" t3,.str "times" t4,.str "least" t5,.str "most" t6,.str "less" t7,.str "over" t8] 0,#[]⟩)
  (ig:Gn K "DEEDS" (.ref a9))
  (dq:Gn K "MOST_SURE" (.int 64 t10))
  (dr:Gn K "MOST_ROWS" (.int 40 t11))
  (da:Gn K "MOST_PLACE" (.int 63 t12))
  (lh:K.lookup a15=some ⟨.type "tuple",none,.seq #[.str "row" t13,.str "row" t14] 0,#[]⟩)
  (de:Gn K "DEED_PARTS" (.ref a15))
  (lg:K.lookup a23=some ⟨.type "tuple",none,.seq #[.str "word" t22] 0,#[]⟩)
  (lf:K.lookup a27=some ⟨.type "tuple",none,.seq #[.str "row" t24,.str "row" t25,.str "row" t26] 0,#[]⟩)
  (lc:K.lookup a29=some ⟨.type "tuple",none,.seq #[.str "place" t28] 0,#[]⟩)
  (lb:K.lookup a33=some ⟨.type "tuple",none,.seq #[.str "place" t30,.str "row" t31,.str "row" t32] 0,#[]⟩)
  (l9:K.lookup a36=some ⟨.type "tuple",none,.seq #[.str "place" t34,.str "row" t35] 0,#[]⟩)
  (l8:K.lookup a40=some ⟨.type "tuple",none,.seq #[.str "place" t37,.str "row" t38,.str "row" t39] 0,#[]⟩)
  (l7:K.lookup a41=some ⟨.type "dict",none,.dict #[⟨h42,.str "number" t16,.ref a23⟩,⟨h43,.str "pick" t17,.ref a27⟩,⟨h44,.str "load" t18,.ref a29⟩,⟨h45,.str "take" t19,.ref a33⟩,⟨h46,.str "store" t20,.ref a36⟩,⟨h47,.str "put" t21,.ref a40⟩] 6,#[]⟩)
  (ll:(a41==Fm)=false)
  (cv:Gn K "OTHER_PARTS" (.ref a41))
  (l6:K.lookup a50=some ⟨.type "tuple",none,.seq #[.str "load" t48,.str "take" t49] 0,#[]⟩)
  (fm:Gn K "READERS" (.ref a50))
  (l5:K.lookup a53=some ⟨.type "tuple",none,.seq #[.str "store" t51,.str "put" t52] 0,#[]⟩)
  (fj:Gn K "WRITERS" (.ref a53))
  (cw:Gn K "LEAST_LANES" (.int 2 t54))
  (db:Gn K "MOST_LANES" (.int 4 t55))
  (bu:Gn K "MOST_TRIED_ROWS" (.int 8 t56)):
  ∃fd:Gd,(∀(s:Af) (v:Value),Pp s fd ⟨[v],[]⟩ [("_law_script",v)])/\ ∀base:Heap,K.In base->base.Ns mainGlobals mg->aW l.prog w K mg base CX0 9 fa fd ["_law_script"] (spV K [] 1 ML):=by
 have e:=hfa.symm.trans (Hm X G m9);cases e;have T:Txt K mg:=⟨fun _ _ e=>Hm X G e,
   Cz X G jq,
   Cz X G i8,
   Cz X G jm,
   Cz X G jo,
   Cz X G iu,
   Cz X G i7,
   Cz X G ft,
   Cz X G d8,
   Cz X G iy,
   Cz X G jr,
   Cz X G jk,
   Cz X G df,
   Cz X G jj,
   Cz X G ju,
   Cz X G jt,
   Cz X G iw,
   Cz X G jl,
   ⟨_,.ref a9,Hm X G ig,rfl,fun _ _ _=>(.tup (xs:=[.str "plus",.str "minus",.str "times",.str "least",.str "most",.str "less",.str "over"]) (.inr ⟨_,_,_,mz,rfl,rfl,(by show 7<=sizeLine;decide),(.cons ⟨_,rfl⟩ (.cons ⟨_,rfl⟩ (.cons ⟨_,rfl⟩ (.cons ⟨_,rfl⟩ (.cons ⟨_,rfl⟩ (.cons ⟨_,rfl⟩ (.cons ⟨_,rfl⟩ .nil)))))))⟩) (.cons (.str _) (.cons (.str _) (.cons (.str _) (.cons (.str _) (.cons (.str _) (.cons (.str _) (.cons (.str _) .nil))))))))⟩,
   ⟨_,.ref a15,Hm X G de,rfl,fun _ _ _=>(.tup (xs:=[.str "row",.str "row"]) (.inr ⟨_,_,_,lh,rfl,rfl,(by show 2<=sizeLine;decide),(.cons ⟨_,rfl⟩ (.cons ⟨_,rfl⟩ .nil))⟩) (.cons (.str _) (.cons (.str _) .nil)))⟩,
   ⟨_,.int 2,Hm X G cw,⟨_,rfl⟩,fun _ _ _=>(.int _)⟩,
   ⟨_,.int 4,Hm X G db,⟨_,rfl⟩,fun _ _ _=>(.int _)⟩,
   ⟨_,.int 63,Hm X G da,⟨_,rfl⟩,fun _ _ _=>(.int _)⟩,
   ⟨_,.int 40,Hm X G dr,⟨_,rfl⟩,fun _ _ _=>(.int _)⟩,
   ⟨_,.int 64,Hm X G dq,⟨_,rfl⟩,fun _ _ _=>(.int _)⟩,
   ⟨_,.int 8,Hm X G bu,⟨_,rfl⟩,fun _ _ _=>(.int _)⟩,
   ⟨_,.int 999,Hm X G dn,⟨_,rfl⟩,fun _ _ _=>(.int _)⟩,
   ⟨_,.ref a41,Hm X G cv,rfl,fun _ _ _=>(.ktb (D:=[("number",.ref a23),("pick",.ref a27),("load",.ref a29),("take",.ref a33),("store",.ref a36),("put",.ref a40)]) ⟨ll,_,_,_,l7,⟨rfl,rfl,rfl⟩,rfl,(.cons rfl rfl (.cons rfl rfl (.cons rfl rfl (.cons rfl rfl (.cons rfl rfl (.cons rfl rfl .nil))))))⟩ (.cons (.tup (xs:=[.str "word"]) (.inr ⟨_,_,_,lg,rfl,rfl,(by show 1<=sizeLine;decide),(.cons ⟨_,rfl⟩ .nil)⟩) (.cons (.str _) .nil)) (.cons (.tup (xs:=[.str "row",.str "row",.str "row"]) (.inr ⟨_,_,_,lf,rfl,rfl,(by show 3<=sizeLine;decide),(.cons ⟨_,rfl⟩ (.cons ⟨_,rfl⟩ (.cons ⟨_,rfl⟩ .nil)))⟩) (.cons (.str _) (.cons (.str _) (.cons (.str _) .nil)))) (.cons (.tup (xs:=[.str "place"]) (.inr ⟨_,_,_,lc,rfl,rfl,(by show 1<=sizeLine;decide),(.cons ⟨_,rfl⟩ .nil)⟩) (.cons (.str _) .nil)) (.cons (.tup (xs:=[.str "place",.str "row",.str "row"]) (.inr ⟨_,_,_,lb,rfl,rfl,(by show 3<=sizeLine;decide),(.cons ⟨_,rfl⟩ (.cons ⟨_,rfl⟩ (.cons ⟨_,rfl⟩ .nil)))⟩) (.cons (.str _) (.cons (.str _) (.cons (.str _) .nil)))) (.cons (.tup (xs:=[.str "place",.str "row"]) (.inr ⟨_,_,_,l9,rfl,rfl,(by show 2<=sizeLine;decide),(.cons ⟨_,rfl⟩ (.cons ⟨_,rfl⟩ .nil))⟩) (.cons (.str _) (.cons (.str _) .nil))) (.cons (.tup (xs:=[.str "place",.str "row",.str "row"]) (.inr ⟨_,_,_,l8,rfl,rfl,(by show 3<=sizeLine;decide),(.cons ⟨_,rfl⟩ (.cons ⟨_,rfl⟩ (.cons ⟨_,rfl⟩ .nil)))⟩) (.cons (.str _) (.cons (.str _) (.cons (.str _) .nil)))) .nil)))))))⟩,
   ⟨_,.ref a50,Hm X G fm,rfl,fun _ _ _=>(.tup (xs:=[.str "load",.str "take"]) (.inr ⟨_,_,_,l6,rfl,rfl,(by show 2<=sizeLine;decide),(.cons ⟨_,rfl⟩ (.cons ⟨_,rfl⟩ .nil))⟩) (.cons (.str _) (.cons (.str _) .nil)))⟩,
   ⟨_,.ref a53,Hm X G fj,rfl,fun _ _ _=>(.tup (xs:=[.str "store",.str "put"]) (.inr ⟨_,_,_,l5,rfl,rfl,(by show 2<=sizeLine;decide),(.cons ⟨_,rfl⟩ (.cons ⟨_,rfl⟩ .nil))⟩) (.cons (.str _) (.cons (.str _) .nil)))⟩⟩
 have ma:=zAX (st:=top 56) lm m8 lp;refine⟨Mc "law" "law" (X9 (top 56)) (ZK (top 56)) (dF (top 56)) .none kV_x34 dc_x34 pm_x34 none cd_x34 ct_x34,fun s v=> .of_eq rfl,fun base _ _=> ?_⟩;have bh:cM l.prog w K mg base "is_whole" 1 Qx0 [] b8 f_x0:=ZM X G my (fun U=>zIV U T) (QM fun _ _ _=>rfl);have fo:cM l.prog w K mg base "parts_of" 1 Qx1 [] bH f_x1:=ZM X G mx (fun U=>zIU U T) (LA fun _=>rfl);have ji:cM l.prog w K mg base "makes_word" 1 Qx2 [] ZH f_x2:=ZM X G mw (fun U=>zIT U T) (LA fun _=>rfl);have ik:cM l.prog w K mg base "place_of" 1 Qx3 [] Z9 f_x3:=ZM X G mq (fun U=>zIS U T) (LA fun _=>rfl);have jh:cM l.prog w K mg base "names_of" 2 Qx4 [] Z8 f_x4:=ZM X G mo (fun U=>zIR U T fo) (LA fun _=>rfl);have jg:cM l.prog w K mg base "may_name" 2 Qx5 [] YF f_x5:=ZM X G mn (fun U=>zIQ U T bh) (LB fun _ _=>rfl);have jf:cM l.prog w K mg base "fits" 3 Qx6 [] WY f_x6:=ZM X G mm (fun U=>zIP U T bh jg) (QM fun _ _ _=>rfl);have je:cM l.prog w K mg base "is_row" 4 Qx7 [] WP f_x7:=ZM X G mj (fun U=>zIO U T fo jf) (LB fun _ _=>rfl);have jd:cM l.prog w K mg base "is_block" 5 Qx8 [] ZA f_x8:=ZM X G mi (fun U=>zIN U T bh ji je) (LA fun _=>rfl);have jc:cM l.prog w K mg base "is_lanes" 2 Qx9 [] ZP f_x9:=ZM X G mh (fun U=>zIM U T bh) (LA fun _=>rfl);have i6:cM l.prog w K mg base "may_follow" 2 Qx10 [] Z7 f_x10:=ZM X G l0 (fun U=>zGB U T ik) (QM fun _ _ _=>rfl);have d7:cM l.prog w K mg base "is_pack" 3 C1 [] Z0 f_x11:=ZM X G kz (fun U=>zGA U T bh jh i6) (QM fun _ _ _=>rfl);have i5:cM l.prog w K mg base "rows_within" 1 Qx12 [] Z1 f_x12:=ZM X G kx (fun U=>zG9 U T) (LA fun _=>rfl);have i4:cM l.prog w K mg base "fits_plan" 4 Qx13 [] Y6 f_x13:=ZM X G ku (fun U=>zG8 U T d7 i5) (QM fun _ _ _=>rfl);have cz:cM l.prog w K mg base "check_lanes" 6 C2 [] bV f_x14:=ZM X G kr (fun U=>zG7 U T jd jc) (LB fun _ _=>rfl);have i3:cM l.prog w K mg base "is_plan" 7 Qx15 [] Y7 f_x15:=ZM X G kq (fun U=>zG6 U T i4 cz) (QM fun _ _ _=>rfl);have gy:cM l.prog w K mg base "check_few" 7 Qx16 [] Y5 f_x16:=ZM X G ko (fun U=>zG5 U T cz) (LB fun _ _=>rfl);have gx:cM l.prog w K mg base "all_packs" 4 Qx17 [] Y4 f_x17:=ZM X G kn (fun U=>zG4 U T d7) (LB fun _ _=>rfl);have gw:cM l.prog w K mg base "packs" 8 Qx18 [] V0 f_x18:=ZM X G km (fun U=>zG3 U T gy gx) (LB fun _ _=>rfl);have gv:cM l.prog w K mg base "_law_cell_at" 1 Qx19 [] aX f_x19:=ZM X G kj (fun U=>zG2 U T) (LB fun _ _=>rfl);have gu:cM l.prog w K mg base "_law_mixed" 2 Qx20 [] Y8 f_x20:=ZM X G ki (fun U=>zG1 U T gv) (QM fun _ _ _=>rfl);have al:cM l.prog w K mg base "_law_draw" 3 LF [1] cT f_x21:=ZM X G kg (fun U=>zG0 U T gu) (QM fun _ _ _=>rfl);have ao:cM l.prog w K mg base "_law_pick" 4 NW [1] cC f_x22:=ZM X G kc (fun U=>zFZ U T al) (QM fun _ _ _=>rfl);have cu:cM l.prog w K mg base "_law_place" 5 Qx23 [1,2] bC f_x23:=ZM X G ka (fun U=>zFY U T al ao) (Len5 fun _ _ _ _ _=>rfl);have gq:cM l.prog w K mg base "_law_row" 6 Qx24 [1,3] XI f_x24:=ZM X G k9 (fun U=>zFX U T al ao cu) (Len5 fun _ _ _ _ _=>rfl);have gn:cM l.prog w K mg base "_law_next" 5 Qx26 [1,4] Z6 f_x26:=ZM X G k7 (fun U=>zFV U T ao) (Len6 fun _ _ _ _ _ _=>rfl);have gp:cM l.prog w K mg base "_law_rows" 7 Qx25 [1] YE f_x25:=ZM X G k8 (fun U=>zFW U T ao gq gn) (Len4 fun _ _ _ _=>rfl);have cy:cM l.prog w K mg base "_law_names" 1 C3 [] cB f_x28:=ZM X G k5 (fun U=>zFT U T) (LA fun _=>rfl);have cx:cM l.prog w K mg base "_law_may" 1 Qx29 [] ZG f_x29:=ZM X G k4 (fun U=>zFS U T) (LB fun _ _=>rfl);have gl:cM l.prog w K mg base "_law_must" 2 Qx30 [] YD f_x30:=ZM X G jz (fun U=>zFR U T cy cx) (LA fun _=>rfl);have gj:cM l.prog w K mg base "_law_mixed_order" 5 Qx32 [1] bA f_x32:=ZM X G jx (fun U=>zFP U T ao gl) (QM fun _ _ _=>rfl);have gh:cM l.prog w K mg base "_law_renamed" 1 Qx33 [] cS f_x33:=ZM X G jw (fun U=>zFO U T) (LB fun _ _=>rfl);have gm:cM l.prog w K mg base "_law_block" 8 Qx27 [1] aC f_x27:=ZM X G k6 (fun U=>zFU U T al ao gp gj gh) (QM fun _ _ _=>rfl);have gk:cM l.prog w K mg base "_law_is_pack" 2 Qx31 [] aM f_x31:=ZM X G jy (fun U=>zFQ U T cy) (QM fun _ _ _=>rfl);exact zFN ma T i3 gw al gm gk
theorem BS(K:As)(H:Hp)(a:Addr)(ns:List Int)(hl:ns.length<=63)(h:X1 K H a (ns.map V.int)):spV K [] 1 ML [.ref a] H (fun v _=>v= .bl true) fun _ _ _=>False:=by
 have hr:cY K (Zp (fun _=>False) [] [.ref a]) H (ns.map V.int) (ns.map dP.int):=by
  clear h hl;induction ns with
  |nil=>exact .nil
  |cons n ns ih=>exact .cons (.int n) ih
 have hz: ∀b,¬Zp (fun _=>False) [] [V.ref a] b:=fun b h=>by
  rcases h with h|⟨i,h,_⟩
  ·exact h
  ·cases h
 refine⟨fun _=>False,[.lst (ns.map .int)],.bl true,[],rfl,⟨rfl,(fun i h=>nomatch h),fun i d hi e=> ?_,(fun i d h=>nomatch h),(fun i j b h=>nomatch h),fun a h=>h.elim⟩,zAC ns hl,fun v H' _ _ r=>by cases r;rfl⟩;cases i with
 |zero=>
  cases e;refine⟨_,rfl,?_⟩;rcases h with(h|⟨o,h⟩)|h
  ·exact .lst h (hz a) hr
  ·exact .fzl (.inl ⟨o,h⟩) hr
  ·exact .fzl (.inr h) hr
 |succ i=>cases i<;>cases e
end RR
open PySem PySem.W PyProof.Rows
set_option maxRecDepth 100000 in
set_option maxHeartbeats 0 in
theorem PySem.Challenge.cw_lanepacks_k22_whole_packs_holds : PySem.Challenge.rw_lanepacks_k22_whole_packs.Holds := by
 w_on;refine holds_law KK.said fun said=> ?_
 refine holds_open (q:=KK.view) (loose:=KK.lo) (Xt:=KK.X) (XP:=XL KK.view []) (Yf:=KK.H.obs) (Ya:=KK.H.val) (YP:=KK.H.says) (N:=4398) KK.hl (Hook.of _) (Hook.keeps _) (fun s e=>xl_of s (Di.mp e).1) XL.keeps (by rfl) (by rfl) (by rfl) (fun s e=>recFacts_of (Di.mp e).2) (by rfl) (by first|assumption|decide+kernel) (by decide+kernel) ⟨rfl,rfl,rfl,rfl,rfl,by decide+kernel⟩ ?hw ?hc
 case hw=>w_witness2
 refine L2.CJ (l:=Kk) (n:=63) (k:=9) (x:= "_law_script") (CX:=L2.CX0) (sp:=fun K=>L2.spV K [] 1 L2.ML) rfl (by decide) rfl ⟨rfl,by decide,by decide⟩ (fun w h Y=>W.kIn_of (K:=KK.K) (as:=KK.A) (e:=KK.kA) Y) ?F (fun K H a ns hl _ hS=>RR.BS K H a ns hl hS) fun _ _ _ _ z=>z
 case F=>
  intro w mg fa h KX G hmg;exact RR.zH8 (K:=KK.K w.params) (f_x0:=71) (f_x1:=88) (f_x2:=95) (f_x3:=102) (f_x4:=107) (f_x5:=114) (f_x6:=121) (f_x7:=126) (f_x8:=133) (f_x9:=140) (f_x10:=147) (f_x11:=152) (f_x12:=157) (f_x13:=162) (f_x14:=169) (f_x15:=176) (f_x16:=183) (f_x17:=188) (f_x18:=195) (f_x19:=202) (f_x20:=209) (f_x21:=216) (f_x22:=223) (f_x23:=230) (f_x24:=235) (f_x26:=249) (f_x25:=242) (f_x28:=261) (f_x29:=266) (f_x30:=271) (f_x32:=281) (f_x33:=286) (f_x27:=254) (f_x31:=276) (f_x34:=291) (kV_x34:= .none) (dc_x34:= .none) (pm_x34:= .str "law_lanepacks_k22_whole_packs" 465) (cd_x34:= .ref 290) (ct_x34:= .none) (t1:=257) (t2:=259) (t3:=260) (t4:=261) (t5:=262) (t6:=263) (t7:=264) (t8:=265) (a9:=64) (t10:=278) (t11:=280) (t12:=282) (t13:=284) (t14:=285) (a15:=72) (t16:=287) (t17:=289) (t18:=293) (t19:=295) (t20:=299) (t21:=302) (t22:=288) (a23:=74) (t24:=290) (t25:=291) (t26:=292) (a27:=75) (t28:=294) (a29:=76) (t30:=296) (t31:=297) (t32:=298) (a33:=77) (t34:=300) (t35:=301) (a36:=78) (t37:=303) (t38:=304) (t39:=305) (a40:=79) (a41:=73) (h42:=Ek w.params "number") (h43:=Ek w.params "pick") (h44:=Ek w.params "load") (h45:=Ek w.params "take") (h46:=Ek w.params "store") (h47:=Ek w.params "put") (t48:=313) (t49:=314) (a50:=80) (t51:=316) (t52:=317) (a53:=81) (t54:=382) (t55:=384) (t56:=441) KX G hmg
   (KK.p _ 71 8 "is_whole" (.str "lanepacks.words" 255))
   (KK.p _ 88 17 "parts_of" (.str "lanepacks.blocks" 276))
   (KK.p _ 95 18 "makes_word" (.str "lanepacks.blocks" 276))
   (KK.p _ 102 19 "place_of" (.str "lanepacks.blocks" 276))
   (KK.p _ 107 20 "names_of" (.str "lanepacks.blocks" 276))
   (KK.p _ 114 21 "may_name" (.str "lanepacks.blocks" 276))
   (KK.p _ 121 22 "fits" (.str "lanepacks.blocks" 276))
   (KK.p _ 126 23 "is_row" (.str "lanepacks.blocks" 276))
   (KK.p _ 133 24 "is_block" (.str "lanepacks.blocks" 276))
   (KK.p _ 140 28 "is_lanes" (.str "lanepacks.plans" 380))
   (KK.p _ 147 29 "may_follow" (.str "lanepacks.plans" 380))
   (KK.p _ 152 30 "is_pack" (.str "lanepacks.plans" 380))
   (KK.p _ 157 31 "rows_within" (.str "lanepacks.plans" 380))
   (KK.p _ 162 32 "fits_plan" (.str "lanepacks.plans" 380))
   (KK.p _ 169 33 "check_lanes" (.str "lanepacks.plans" 380))
   (KK.p _ 176 34 "is_plan" (.str "lanepacks.plans" 380))
   (KK.p _ 183 37 "check_few" (.str "lanepacks.finding" 439))
   (KK.p _ 188 38 "all_packs" (.str "lanepacks.finding" 439))
   (KK.p _ 195 39 "packs" (.str "lanepacks.finding" 439))
   (KK.p _ 202 41 "_law_cell_at" KK.m)
   (KK.p _ 209 42 "_law_mixed" KK.m)
   (KK.p _ 216 43 "_law_draw" KK.m)
   (KK.p _ 223 44 "_law_pick" KK.m)
   (KK.p _ 230 45 "_law_place" KK.m)
   (KK.p _ 235 46 "_law_row" KK.m)
   (KK.p _ 249 48 "_law_next" KK.m)
   (KK.p _ 242 47 "_law_rows" KK.m)
   (KK.p _ 261 50 "_law_names" KK.m)
   (KK.p _ 266 51 "_law_may" KK.m)
   (KK.p _ 271 52 "_law_must" KK.m)
   (KK.p _ 281 54 "_law_mixed_order" KK.m)
   (KK.p _ 286 55 "_law_renamed" KK.m)
   (KK.p _ 254 49 "_law_block" KK.m)
   (KK.p _ 276 53 "_law_is_pack" KK.m)
   (by kernel_rfl)
   (by kernel_rfl)
   (by kernel_rfl)
   (by kernel_rfl)
   (by kernel_rfl)
   (by kernel_rfl)
   (by kernel_rfl)
   (by kernel_rfl)
   (by kernel_rfl)
   (by kernel_rfl)
   (by kernel_rfl)
   (by kernel_rfl)
   (by kernel_rfl)
   (by kernel_rfl)
   (by kernel_rfl)
   (by kernel_rfl)
   (by kernel_rfl)
   (by kernel_rfl)
   (by kernel_rfl)
   (by kernel_rfl)
   (by kernel_rfl)
   (by kernel_rfl)
   (by kernel_rfl)
   (by kernel_rfl)
   (by kernel_rfl)
   (by kernel_rfl)
   (by kernel_rfl)
   (by kernel_rfl)
   (by kernel_rfl)
   (by kernel_rfl)
   (by kernel_rfl)
   (by kernel_rfl)
   (by kernel_rfl)
   (by kernel_rfl)
   (by kernel_rfl)
   (by kernel_rfl)
   (by decide)
   (by kernel_rfl)
   (by kernel_rfl)
   (by kernel_rfl)
   (by kernel_rfl)
   (by kernel_rfl)
   (by kernel_rfl)
   (by kernel_rfl)
   (by kernel_rfl)
end
