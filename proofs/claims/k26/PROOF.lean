import PyProof.Rows.All
import KE.KFromBytes
import KE.KTab
import KE.KIsAll
import KE.KDictOf
import KE.KEqDeep
import KE.KItem
import KE.KUnpackStar
import Wide.FinOn
import Wide.Line
import KE.KSortTup
import PyProof.AttrMissSeq
import KE.KRevIter
import PyProof.DictCompW
import KE.KDictSum
import PyProof.DictUpdate
import PySem.Challenge.RW_lanepacks_k26_whole_needless
set_option Elab.async false
set_option linter.all false
set_option maxRecDepth 100000
set_option maxHeartbeats 4000000
set_option bootstrap.genMatcherCode false
set_option compiler.extract_closed false
open Option renaming bind_eq_some_iff→Aa,map_eq_some_iff→Ao,bind_some→Av,map_some→Ka,isSome_some→Nu,isSome_map→Oo,getD_none→Pn
open PySem renaming wpAny_bind→Ac,Shared→Af,starEach→Aj,wpAny_pure→Ak,bootBuiltins→Bj,wpAny_mono→Bm,Program→Bq,mem_of_lookup→Br,wpAny_holding→Ci,sizeLine_eq→Cm,wpAny_newObj_type→Cr,compareOp→Cw,Around→Cz,wpAny_call_entry→Dn,wpAny_callSpecial?_slot→Dq,wpAny_field→Dy,wpAny_truthy_bool→Ek,wpAny_seqItems→Ex,sysModules→Fi,swapsWithSole→Fl,swappedStores→Fm,wpAny_setField_rec→Fo,wpAny_passesOwn→Fx,wpAny_standAt→Ge,backTo→Gh,binaryOp→Go,FuncData→Gp,wpAny_Call_Name_kw→Gq,tupleKind_room_in1→Gr,assign→Gv,wpAny_pyIter_list→Hc,behindInMarks→Hd,wpAny_rule→Hj,wpAny_comprehension_free→Hm,swapsWith→Hn,letOwnedTupleGo→Ho,wpAny_pyIter_tuple→Hq,attributeBase→Hs,wpAny_pyIter_rangeiter→Hz,Spec→Ie,wpAny_assign_Name→Ih,sliceBounds→Ij,wpAny_of_eq→Ik,wpAny_bindName→Ir,wpAny_updateSeq_pair→Jd,bindName→Jf,unpackItems→Jm,codeAny→Jn,keywordEach→Jo,Keyword→Jp,pushCells_keeps→Jv,wpAny_typeOf→Kh,call_meetsIn→Ki,Builtin→Kl,newFunctionEnv→Km,wpAny_sequenceKey→Kt,wpAny_Call_method→Ku,pushCells→Ky,IsRangeIter→Lc,getItem→Ld,wpAny_onRaise→Lj,wpAny_eqBool_int→Lo,noFill_tuple_add→Lq,wpAny_pyNext_list_item→Lv,wpAny_pyNext_range_end→Lw,DictEntry→Lz,importedModules→Ma,wpAny_execs_nil→Mc,wpAny_pyNext_list_end→Md,concat_meets→Mf,wpAny_specialOf→Mj,codeAny_builtin→Mn,ZipApart→Mr,PyData→My,callerA→Nc,wpAny_dictSet_pairs→Nk,bltViewBooted→Nl,seq_tuple_add→Nr,backToKw→Nt,wpAny_attempt→Ny,name_of_addr→Nz,wpAny_newList→Od,getattributeRaised→Oe,plainId_quiet→Of,call_meets→Ol,valueAt→Om,wpAny_pyIter_enum→Ov,call_range_1→Pd,codeAny_mono→Pe,compEnvC→Py,Params→Qa,PassesOwn→Qe,lastMarks→Qf,BindsTo→Qg,wpAny_letGo→Ql,wpAny_Name→Ri,call→Rk,Within→Rs,Result→Ru,stored→Rv
open PySem.Heap renaming get?_push_of_some→Ad,lt_size→An,get?_push_size→As,size_push→Cv,SameBut→Fk,get?_push_ne→Il,ExtBut→Jr,get?_update_ne→Nj
open Bool renaming and_eq_true→Ae,and_eq_true_iff→Ds,false_ne_true→Dt,false_eq_true→Fn,or_eq_true→Hv,true_and→Ln,beq_eq_decide_eq→Mo,false_or→Ro
open List renaming getElem?_eq_some_iff→Ag,mem_cons→Ai,getElem?_append_left→Am,mem_cons_of_mem→Ap,map_cons→Aq,mem_cons_self→Au,size_toArray→Aw,not_mem_nil→Ay,range→Az,append_assoc→Ba,mem_singleton→Bb,replicate→Bd,mem_append_right→Bf,mem_append→Bk,length_cons→Bn,length_map→Bt,length_take→Bu,getElem?_eq_none→Bv,getElem?_append_right→Bw,mem_map→Bx,getElem?_set_ne→By,length_set→Cc,getElem?_take_of_lt→Ce,length_append→Cf,mem_append_left→Cg,take_of_length_le→Cn,getElem?_map→Co,lookup_cons→Cp,nodup_cons→Cq,getElem?_eq_getElem→Ct,getElem?_replicate→Cy,append_nil→Db,take_append_of_le_length→Dd,drop_eq_getElem_cons→De,map_nil→Dg,getElem?_set_self→Dh,nil_append→Dj,mem_range→Dm,drop_length→Dw,lookup_cons_self→Ec,perm_append_comm→Ed,take_append_drop→Ee,set_comm→Eg,mem_of_getElem?→Eh,pairwise_append→Ei,length_nil→Ep,nodup_append→Ey,map_congr_left→Fb,idxOf_lt_length_of_mem→Fd,foldl_cons→Fe,cons_append→Fj,map_map→Fp,set_append_right→Fs,mem_filter→Fw,map_append→Gc,length_eq_zero_iff→Gg,getElem_mem→Gi,range_succ_eq_map→Gk,pairwise_cons→Gs,length_singleton→Gx,find?_cons→Gy,length_range→He,pairwise_iff_getElem→Hi,getElem_idxOf→Hy,filter_eq_nil_iff→Ic,length_replicate→Iu,mem_iff_getElem?→Iy,all_eq_true→Iz,mem_reverse→Jb,any_cons→Jg,filterMap_cons→Jl,forIn_cons→Jq,mem_map_of_mem→Ju,perm_ext_iff_of_nodup→Kg,idxOf_append→Lb,isEmpty_iff→Lr,take_length→Ls,reverse_nil→Lu,of_mem_zip→Me,singleton_append→Mp,getElem?_mapIdx→Mt,mem_of_mem_drop→Mu,mem_of_mem_take→Mv,drop_zero→Mz,forIn_nil→Na,lookup→Nd,getElem_of_mem→Nh,mem_filterMap→Np,getElem_range→Nw,set_cons_succ→Og,set_cons_zero→Oh,ext_getElem?→Oq,zip_nil_left→Ot,reverse_perm→Oz,getElem_inj→Pj,length_drop→Pl,zipIdx_cons→Pp,countP_cons→Pt,ext_getElem→Pw,zip_append→Qi,zipIdx_nil→Qk,mapM_cons→Qu,take_succ→Qv,drop_take→Qw,drop_drop→Qx,take_take→Qy,take_left→Ra,all_cons→Rp,all_map→Rx
open Nat renaming le_refl→Ah,lt_of_lt_of_le→Ax,ne_of_lt→Be,le_trans→Cb,lt_irrefl→Cd,le_of_lt→Df,zero_le→Di,le_of_not_lt→Dv,le_of_succ_le→Eo,zero_add→Ew,le_succ→Fa,ne_of_gt→Gw,lt_of_succ_lt→Ip,le_antisymm→Jy,min_eq_left→Jz,le_of_lt_succ→Kz,add_assoc→Ll,min_le_left→Ml,lt_of_le_of_lt→Nv,lt_succ_of_lt→Pb,lt_trans→Pf,add_zero→Ph,lt_of_not_le→Po,succ_le_succ→Pr,not_le_of_lt→Ps,not_lt_zero→Qm
open PySem.W renaming Frag→Ar,mg_none_of→Dk,kia_one→Fy,kas_item→Ji,mg_of→Jw,keepIn→Mq,fnOf→Mx,kitx_list→Nb,codeIn→Nq,kas_rev→Ox,nsIn→Pg,cellsFrom_some→Pk,methodObj→Qd,kasC_bind→Qn,kasC_modify→Qo,kasC_cons→Qp,kas_item_eq→Qr,looseW→Rb,instObj→Rr,OpenLaw→Rw
open PySem.Str renaming ofString→At,ofString_eq_toList→Ib
open Prod renaming fst→Bg,snd→Cj
open PySem.F renaming slot_list_append→Bh,type_list_append→Bi,slot_dict_get→Eb,entry_dict_get→Fg,slot_tuple_iterator_next→Fh,args_tuple_add_2→Hk,entry_tuple_add→Hr,args_dict_get_2→Ht,plainAttrs_dict→Hu,slot_tuple_add→Ia,args_tuple_iterator_next_1→Jh,entry_tuple_iterator_next→Js,slot_zip_next→Jt,slot_dict_getitem→Kk,slot_dict_update→La,args_dict_get_3→Le,plainAttrs_list→Li,type_dict_get→Mg,plain_reversed_new→Mw,args_zip_next_1→Ow,entry_zip_next→Pq
open PySem.Value renaming ref→Bo,type→Kr,int→Qb,str→Qc,bool→Rh,isStrOf→Rm,builtin→Rq,isInt→Sa,float→Sb
open PySem.NameKind renaming free→Bp,cell→Bz
open PySem.Builtin.SmallTypes renaming nextOf→Ca,ownedTupleIsFree→Dz,ownedTupleHandOut→Hh
open Option.some renaming inj→Ck
open PyProof.Rows renaming callWith_type1→Cs,assignInOrder_cons→Ef,SortSt→Ej,slot_tuple_getitem→Em,seqObj→Gu,assignInOrder_nil→Ii,IntsAre→Lg,envOfC→Lp,subscriptTail_builtinR→Lx,AllBare→Mb,listUpdate_at→Ob,unpackItems_tuple→Oj,pairsOf→Pa,SortKind→Pz,seqEpoch_at→Qq,expectedOf→Rc,plainGoodE→Rf,plainGoodD→Rg,boot_range→Rj,drecsOf→Rl,tail_any→Rn
open PySem.Builtin.Range renaming rangeFitsLong→Cu,rangeSize→Gf,rangeFields→Qz,small→Sg
open ForInStep renaming yield→Dc
open Ne renaming symm→Dr
open PySem.PassesOwn renaming never→Du
open Array renaming length_toList→Dx,toList_append→Ea,toList_push→Ez,getD→Gd,getD_eq_getD_getElem?→Ha,toList_reverse→Hf,toList_inj→Ja,perm_iff_toList_perm→Kf,eraseIdxIfInBounds→Kx,getElem?_toList→Mm,append_empty→Oa,append_push→Oy,toList→Rt
open Int renaming toNat_natCast→El,emod_lt_of_pos→Et,emod_nonneg→Hx
open PySem.SeqAt renaming shaped→Er
open PySem.Calls renaming spliced_cons→Es,callWith_builtin→Ff,evalArgs_plain→Fv,spliced_nil→Fz,Name_function_global→Kb,call_function_entry→Ko
open PySem.PyData renaming keyHash→Eu,depthAll→Fc,canLay0→Gj,canLayAll0→Im,depth→Ix,eqv→Jj,int→Op,strOk→Ry
open List.Perm renaming append_left→Fq,append_right→Gm,trans→Jx,eq_of_pairwise→Kw
open PySem.Builtin.Slice renaming slicePlaces→Ft,sliceAdjust→Hg,sliceApplied→Kc,slicePartIndex→Px,sliceFields→Qt
open PyProof.Rows.KTD renaming datumAt→Fu
open PySem.Builtin.Tuple renaming tupleExact→Ga,tupleItemsOf→Ke,tupleIsExact→Qs
open PySem.Obj renaming mapSeq→Gb,data_mapFields→Nx
open Pure renaming pure→Gz
open False renaming elim→Hb
open PySem.AutoSeq1 renaming wpAny_loadPart'→Hl
open List.cons renaming injEq→Hw
open Sum renaming inl→Ig,inr→Oi
open PyProof.Rows.SortSt renaming mk'→Io
open List.Pairwise renaming map→Iq,nil→Kv
open PySem.Around renaming under_plainId→Je
open Prod.mk renaming inj→Jk
open PySem.Challenge renaming pw_lanepacks_k26_whole_needless→Kj,rw_lanepacks_k26_whole_needless→Kp
open Classical renaming byContradiction→Kn,choose_spec→Mk
open PyProof.Rows.IsTup renaming new→Ks
open Function renaming comp→Lk
open PySem.Builtin.Dict renaming updateFrom→Lm,pairItems→Ly,missed→Ng
open Or renaming inl→Mh,inr→Mi
open PySem.Heap.SameBut renaming update→Nf
open PySem.Paired renaming length→No,snoc→Sf
open Char renaming toNat→Pc
open PySem.Heap.DictOf renaming new→Qh
open PySem.Shared renaming heap→Qj
open PySem.MeetsSeq.EqGives renaming int→Rz
open PySem.Walks renaming range→Sc
open PySem.IsRange renaming new→Se
open PySem.Heap.Ns renaming new→Sh
open PySem.Heap.IsSliceOf renaming new→Si
open PySem.W.WShape renaming has→Sj
noncomputable section
namespace RR
open PySem
def top(i:Nat):Stmt:=PySem.Challenge.pw_lanepacks_k26_whole_needless.main.body.getD i (.Pass ⟨0,0,0,0⟩)
end RR
namespace KK
open PySem PySem.W PySem.Calls PyProof.Rows
def dA(s:Stmt):Arguments:=match s with
 | .FunctionDef _ a _ _ _ _ _ _ _ _=>a
 |_=>⟨[],[],none,[],[],none,[]⟩
def dB(s:Stmt):List Stmt:=match s with
 | .FunctionDef _ _ b _ _ _ _ _ _ _=>b
 |_=>[]
def dS(s:Stmt):Scope:=match s with
 | .FunctionDef _ _ _ _ _ _ c _ _ _=>c
 |_=>{kind:= .function,names:=[],isGenerator:=false,isCoroutine:=false}
abbrev s(x:Str)(t:Nat):Value:= .str x t
abbrev e(P:Qa)(x:Str)(t:Nat)(v:Value):Lz:=⟨PyData.keyHash P x,s x t,v⟩
abbrev f(a i:Nat)(n:Str)(d m:Value):Nat×Obj:=(a,⟨.type "function",none,.func (fnOf n n (dA (RR.top i)) (dB (RR.top i)) (dS (RR.top i)) d .none .none m none (.ref (a - 1)) .none),#[]⟩)
abbrev fk(a i:Nat)(n:Str)(d k m:Value):Nat×Obj:=(a,⟨.type "function",none,.func (fnOf n n (dA (RR.top i)) (dB (RR.top i)) (dS (RR.top i)) d k .none m none (.ref (a - 1)) .none),#[]⟩)
abbrev co(a:Nat)(n:Str)(t:Nat)(l k:Int)(u:Nat)(x y z v:Value):Nat×Obj:=(a,⟨.type "code",none,.fields #[s n t,s n (t+1),s "/claim/cut.py" (t+2),.int l 0,.int k 0,.int 0 0,.int 0 0,.int 3 0,x,.bool true,.int 181 0,y,.none,z,v,.ref (a - 1),.int u 0,.int l 0,s "/claim/cut.py" (u+1)],#[]⟩)
abbrev c(a:Nat)(n:Str)(t:Nat)(l k:Int)(u:Nat):Nat×Obj:=co a n t l k u (.ref (a - 5)) (.ref (a - 4)) (.ref (a - 3)) (.ref (a - 2))
abbrev b(a:Nat)(n:Str)(t:Nat)(l k:Int)(u:Nat):Nat×Obj:=co a n t l k u (.ref (a - 3)) (.ref (a - 2)) .none .none
abbrev m:Value:=s "law_lanepacks_k26_whole_needless" 404
noncomputable def K(P:Qa):Frag:=[(3,⟨.type "dict",none,.dict #[e P "__name__" 165 (s "law_lanepacks_k26_whole_needless" 404),e P "__doc__" 166 (.none),e P "__package__" 167 (.none),e P "__loader__" 168 (.builtin "__main__.__loader__#opaque"),e P "__spec__" 169 (.none),e P "__annotations__" 170 (.ref 6),e P "__builtins__" 171 (.ref 4),e P "__file__" 173 (s "/claim/cut.py" 172),e P "__cached__" 174 (.none),e P "PackError" 206 (.ref 24),e P "NoBlock" 222 (.ref 37),e P "MOST_WORD" 226 (.int 999 225),e P "DEEDS" 234 (.ref 40),e P "is_whole" 243 (.ref 47),e P "MOST_SURE" 247 (.int 64 246),e P "MOST_ROWS" 249 (.int 40 248),e P "MOST_PLACE" 251 (.int 63 250),e P "DEED_PARTS" 254 (.ref 48),e P "OTHER_PARTS" 280 (.ref 49),e P "READERS" 283 (.ref 56),e P "WRITERS" 286 (.ref 57),e P "parts_of" 293 (.ref 64),e P "makes_word" 300 (.ref 71),e P "place_of" 307 (.ref 78),e P "names_of" 313 (.ref 83),e P "with_names" 321 (.ref 90),e P "may_name" 329 (.ref 97),e P "fits" 338 (.ref 104),e P "is_row" 344 (.ref 109),e P "is_block" 355 (.ref 116),e P "writes" 364 (.ref 123),e P "is_safe_number" 371 (.ref 130),e P "can_fault" 383 (.ref 137),e P "needed_rows" 391 (.ref 142),e P "needless" 397 (.ref 147),e P "pruned" 403 (.ref 152),e P "_law_cell_at" 415 (.ref 159),e P "_law_mixed" 425 (.ref 166),e P "_law_draw" 434 (.ref 173),e P "_law_pick" 443 (.ref 180),e P "_law_place" 454 (.ref 187),e P "_law_row" 460 (.ref 192),e P "_law_rows" 474 (.ref 199),e P "_law_next" 491 (.ref 206),e P "_law_block" 497 (.ref 211),e P "_law_names" 504 (.ref 218),e P "_law_may" 510 (.ref 223),e P "_law_must" 516 (.ref 228),e P "_law_mixed_order" 522 (.ref 233),e P "_law_renamed" 528 (.ref 238),e P "law" 534 (.ref 243)] 51,#[]⟩),
 (40,⟨.type "tuple",none,.seq #[s "plus" 227,s "minus" 228,s "times" 229,s "least" 230,s "most" 231,s "less" 232,s "over" 233] 0,#[]⟩),
 f 47 6 "is_whole" (.none) (s "lanepacks.words" 223),
 c 46 "is_whole" 235 9 3 241,
 (48,⟨.type "tuple",none,.seq #[s "row" 252,s "row" 253] 0,#[]⟩),
 (49,⟨.type "dict",none,.dict #[e P "number" 255 (.ref 50),e P "pick" 257 (.ref 51),e P "load" 261 (.ref 52),e P "take" 263 (.ref 53),e P "store" 267 (.ref 54),e P "put" 270 (.ref 55)] 6,#[]⟩),
 (50,⟨.type "tuple",none,.seq #[s "word" 256] 0,#[]⟩),
 (51,⟨.type "tuple",none,.seq #[s "row" 258,s "row" 259,s "row" 260] 0,#[]⟩),
 (52,⟨.type "tuple",none,.seq #[s "place" 262] 0,#[]⟩),
 (53,⟨.type "tuple",none,.seq #[s "place" 264,s "row" 265,s "row" 266] 0,#[]⟩),
 (54,⟨.type "tuple",none,.seq #[s "place" 268,s "row" 269] 0,#[]⟩),
 (55,⟨.type "tuple",none,.seq #[s "place" 271,s "row" 272,s "row" 273] 0,#[]⟩),
 (56,⟨.type "tuple",none,.seq #[s "load" 281,s "take" 282] 0,#[]⟩),
 (57,⟨.type "tuple",none,.seq #[s "store" 284,s "put" 285] 0,#[]⟩),
 f 64 15 "parts_of" (.none) (s "lanepacks.blocks" 244),
 c 63 "parts_of" 287 21 1 291,
 f 71 16 "makes_word" (.none) (s "lanepacks.blocks" 244),
 c 70 "makes_word" 294 25 1 298,
 f 78 17 "place_of" (.none) (s "lanepacks.blocks" 244),
 c 77 "place_of" 301 27 1 305,
 f 83 18 "names_of" (.none) (s "lanepacks.blocks" 244),
 b 82 "names_of" 308 29 1 311,
 f 90 19 "with_names" (.none) (s "lanepacks.blocks" 244),
 c 89 "with_names" 314 32 2 319,
 f 97 20 "may_name" (.none) (s "lanepacks.blocks" 244),
 c 96 "may_name" 322 34 2 327,
 f 104 21 "fits" (.none) (s "lanepacks.blocks" 244),
 c 103 "fits" 330 36 3 336,
 f 109 22 "is_row" (.none) (s "lanepacks.blocks" 244),
 b 108 "is_row" 339 42 2 342,
 f 116 23 "is_block" (.none) (s "lanepacks.blocks" 244),
 c 115 "is_block" 345 50 1 353,
 f 123 25 "writes" (.none) (s "lanepacks.orders" 356),
 c 122 "writes" 358 65 1 362,
 f 130 26 "is_safe_number" (.none) (s "lanepacks.orders" 356),
 c 129 "is_safe_number" 365 67 1 369,
 f 137 27 "can_fault" (.none) (s "lanepacks.orders" 356),
 c 136 "can_fault" 372 69 2 381,
 f 142 29 "needed_rows" (.none) (s "lanepacks.needs" 384),
 b 141 "needed_rows" 386 77 1 389,
 f 147 30 "needless" (.none) (s "lanepacks.needs" 384),
 b 146 "needless" 392 87 1 395,
 f 152 31 "pruned" (.none) (s "lanepacks.needs" 384),
 b 151 "pruned" 398 90 1 401,
 f 159 33 "_law_cell_at" (.none) m,
 c 158 "_law_cell_at" 406 97 2 413,
 f 166 34 "_law_mixed" (.none) m,
 c 165 "_law_mixed" 416 106 3 423,
 f 173 35 "_law_draw" (.none) m,
 c 172 "_law_draw" 426 109 3 432,
 f 180 36 "_law_pick" (.none) m,
 c 179 "_law_pick" 435 112 3 441,
 f 187 37 "_law_place" (.none) m,
 c 186 "_law_place" 444 114 5 452,
 f 192 38 "_law_row" (.none) m,
 b 191 "_law_row" 455 117 5 458,
 f 199 39 "_law_rows" (.none) m,
 c 198 "_law_rows" 461 135 4 472,
 f 206 40 "_law_next" (.none) m,
 c 205 "_law_next" 475 147 6 489,
 f 211 41 "_law_block" (.none) m,
 b 210 "_law_block" 492 158 3 495,
 f 218 42 "_law_names" (.none) m,
 c 217 "_law_names" 498 167 1 502,
 f 223 43 "_law_may" (.none) m,
 b 222 "_law_may" 505 171 2 508,
 f 228 44 "_law_must" (.none) m,
 b 227 "_law_must" 511 176 1 514,
 f 233 45 "_law_mixed_order" (.none) m,
 b 232 "_law_mixed_order" 517 188 3 520,
 f 238 46 "_law_renamed" (.none) m,
 b 237 "_law_renamed" 523 195 2 526,
 f 243 47 "law" (.none) m,
 b 242 "law" 529 200 1 532]
noncomputable def A:List Nat:=[3,40,47,46,48,49,50,51,52,53,54,55,56,57,64,63,71,70,78,77,83,82,90,89,97,96,104,103,109,108,116,115,123,122,130,129,137,136,142,141,147,146,152,151,159,158,166,165,173,172,180,179,187,186,192,191,199,198,206,205,211,210,218,217,223,222,228,227,233,232,238,237,243,242]
noncomputable def view:Bq:={Kj with main:={PySem.Challenge.pw_lanepacks_k26_whole_needless.main with body:=[1,2,4,5,6,8,9,10,11,12,13,14,15,16,17,18,19,20,21,22,23,25,26,27,29,30,31,33,34,35,36,37,38,39,40,41,42,43,44,45,46,47].map RR.top}}
abbrev lo:List Str:=["OTHER_PARTS"]
theorem kA(P:Qa):A=(K P).map (·.1):=by kernel_rfl
noncomputable def X(s:Af):Bool:=xlAt view [] s && recOk (RowW.records (OpenRow.toRowW PySem.Challenge.rw_lanepacks_k26_whole_needless.row)) s
noncomputable abbrev H:Hook:=kHook K A kA
abbrev pr:Bq:=PySem.Challenge.rw_lanepacks_k26_whole_needless.row.prog
abbrev go(w:World)(b:Bool):Option Af:=openEnds treeTable pr (w.withFollow "special-get-raises" b) 3266
noncomputable abbrev fA(s:Af):=seen ((recsOf view).map (·.name)) (ownsOf view) [] {s with gens:= #[]}
noncomputable abbrev fB(s:Af):=(s.heap.bltView,tabsOk view s)
noncomputable abbrev fC(s:Af):Bool:=s.heap.keysOk (Rb view lo) ((recsOf view).map (·.name)) ((litsOf view).map (·.1)) ((clssOf view (Rb view lo)).map (·.name)) && s.heap.accountedOkI (Ma pr.main.body) && s.heap.isNs mainGlobals && s.heap.isNs builtinsNs && tablesOk view s.heap && X s && (if true then s.gens.size==0 else !leftWithCleanup s.gens)
noncomputable abbrev fD(s:Af):=(pinSeenD view (Rl view) s,plainSeenE view (Rb view lo) s,plainSeenD view lo s,wideSeen view s,clsSeenW view lo s,H.obs s)
set_option maxRecDepth 100000 in
set_option maxHeartbeats 0 in
theorem rAf(w:World):(go w false).map fA=some (Rc view):=by kernel_rfl
set_option maxRecDepth 100000 in
set_option maxHeartbeats 0 in
theorem rBf(w:World):(go w false).map fB=some ((Nl,true)):=by kernel_rfl
set_option maxRecDepth 100000 in
set_option maxHeartbeats 0 in
theorem rCf(w:World):(go w false).map fC=some (true):=by kernel_rfl
set_option maxRecDepth 100000 in
set_option maxHeartbeats 0 in
theorem rDf(w:World):(go w false).map fD=some ((pinGoodD (Rl view),Rf view (Rb view lo),Rg view lo,wideGood view,clsGoodW view lo,H.val (w.withFollow "special-get-raises" false))):=by kernel_rfl
set_option maxRecDepth 100000 in
set_option maxHeartbeats 0 in
theorem rAt(w:World):(go w true).map fA=some (Rc view):=by kernel_rfl
set_option maxRecDepth 100000 in
set_option maxHeartbeats 0 in
theorem rBt(w:World):(go w true).map fB=some ((Nl,true)):=by kernel_rfl
set_option maxRecDepth 100000 in
set_option maxHeartbeats 0 in
theorem rCt(w:World):(go w true).map fC=some (true):=by kernel_rfl
set_option maxRecDepth 100000 in
set_option maxHeartbeats 0 in
theorem rDt(w:World):(go w true).map fD=some ((pinGoodD (Rl view),Rf view (Rb view lo),Rg view lo,wideGood view,clsGoodW view lo,H.val (w.withFollow "special-get-raises" true))):=by kernel_rfl
theorem jn{o:Option Af}{v:H.α}(ha:o.map fA=some (Rc view))(hb:o.map fB=some (Nl,true))(hc:o.map fC=some true)(hd:o.map fD=some (pinGoodD (Rl view),Rf view (Rb view lo),Rg view lo,wideGood view,clsGoodW view lo,v)):
  o.map (fun s=>(openSeen view lo (Ma pr.main.body) X true s,H.obs s))=some (openGood view lo,v):=by
 cases o with
 |none=>cases ha
 |some s=>
  have ea:fA s=_:=Ck ha;have eb:fB s=_:=Ck hb;have ec:fC s=_:=Ck hc;have ed:fD s=_:=Ck hd;obtain⟨b1,b2⟩:=Jk eb;obtain⟨d1,ed⟩:=Jk ed;obtain⟨d2,ed⟩:=Jk ed;obtain⟨d3,ed⟩:=Jk ed;obtain⟨d4,ed⟩:=Jk ed;obtain⟨d5,d6⟩:=Jk ed;show some ((fA s,s.heap.bltView,fC s,tabsOk view s,pinSeenD view (Rl view) s,plainSeenE view (Rb view lo) s,plainSeenD view lo s,wideSeen view s,clsSeenW view lo s),H.obs s)=_;rw[ea,b1,ec,b2,d1,d2,d3,d4,d5,d6];rfl
theorem hl:LeftO pr view lo X H.obs H.val 3266:=fun w=>byRow2 "special-get-raises" (P:=fun w=>(openEnds treeTable pr w 3266).map (fun s=>(openSeen view lo (Ma pr.main.body) X true s,H.obs s))=some (openGood view lo,H.val w)) (fun w=>jn ((rAf w)) ((rBf w)) ((rCf w)) ((rDf w))) (fun w=>jn ((rAt w)) ((rBt w)) ((rCt w)) ((rDt w))) w
set_option maxRecDepth 100000 in
set_option maxHeartbeats 0 in
theorem said:PySem.Challenge.rw_lanepacks_k26_whole_needless.wellSaid=true:=by kernel_rfl
end KK
namespace L2
open PySem PySem.Spec PyProof.Rows
abbrev bV:=Sum Int Str
noncomputable def N6:bV->Value->Bool
 | .inl k,v=>Sa k v
 | .inr x,v=>Rm x v
noncomputable def keyH(w:World):bV->Int
 | .inl k=>hashInt k
 | .inr x=>hashStr w x
theorem aT: ∀{k:bV} {v:Value},N6 k v=true->(∃i t,k=Ig i/\v=Qb i t)∨(∃x t,k=Oi x/\v=Qc x t)
 | .inl i,v,h=>by
  obtain⟨t,e⟩:=Value.isInt_shape (k:=i) (v:=v) h;exact .inl ⟨i,t,rfl,e⟩
 | .inr x,v,h=>by
  obtain⟨t,e⟩:=Value.isStrOf_shape (x:=x) (v:=v) h;exact .inr ⟨x,t,rfl,e⟩
theorem DJ(i:Int)(t:Tok):N6 (.inl i) (.int i t)=true:=by simp[N6,Sa]
theorem DK(x:Str)(t:Tok):N6 (.inr x) (.str x t)=true:=by simp[N6,Rm]
theorem zGS(a b:Int):decide ((Ig a:bV)=Ig b)=(a==b):=by
 by_cases e:a=b
 ·subst e;simp
 ·have h : ¬ (Ig a : bV) = Ig b := fun q => e (Sum.inl.inj q)
  rw[decide_eq_false h];exact(beq_eq_false_iff_ne.mpr e).symm
theorem zGP(a b:Str):decide ((Oi a:bV)=Oi b)=decide (a=b):=by
 by_cases e:a=b
 ·subst e;simp
 ·have h : ¬ (Oi a : bV) = Oi b := fun q => e (Sum.inr.inj q)
  rw[decide_eq_false h,decide_eq_false e]
theorem zGR(a:Int)(b:Str):decide ((Ig a:bV)=Oi b)=false:=decide_eq_false (fun q=>nomatch q)
theorem zGQ(a:Str)(b:Int):decide ((Oi a:bV)=Ig b)=false:=decide_eq_false (fun q=>nomatch q)
noncomputable def bQ(prog:Bq)(w:World):PySem.KeyKind prog w bV where
 is:=N6
 hash:=keyH w
 inj:=fun v a b ha hb=>by
  rcases aT ha with⟨i,t,rfl,rfl⟩|⟨x,t,rfl,rfl⟩
  ·rcases aT hb with⟨j,u,rfl,e⟩|⟨y,u,rfl,e⟩
   ·injection e with e1 _;rw[e1]
   ·exact nomatch e
  ·rcases aT hb with⟨j,u,rfl,e⟩|⟨y,u,rfl,e⟩
   ·exact nomatch e
   ·injection e with e1 _;rw[e1]
 byValue:=fun k v h=>by
  rcases aT h with⟨i,t,rfl,rfl⟩|⟨x,t,rfl,rfl⟩<;>rfl
 pyHash:=fun hv h=>by
  rcases aT hv with⟨i,t,rfl,rfl⟩|⟨x,t,rfl,rfl⟩
  ·exact wpAny_pyHash_int h
  ·exact wpAny_pyHash_str h
 eqBool:=fun hu hv h=>by
  rcases aT hu with⟨i,t,rfl,rfl⟩|⟨x,t,rfl,rfl⟩
  ·rcases aT hv with⟨j,u,rfl,rfl⟩|⟨y,u,rfl,rfl⟩
   ·rw[zGS] at h;exact Lo h
   ·rw[zGR] at h;exact SeqAt.EqAt.int_str i t y u _ _ _ _ h
  ·rcases aT hv with⟨j,u,rfl,rfl⟩|⟨y,u,rfl,rfl⟩
   ·rw[zGQ] at h;exact SeqAt.EqAt.str_int x t j u _ _ _ _ h
   ·rw[zGP] at h;exact wpAny_eqBool_str h
 «strs» :=fun k x t v h=>by
  rcases aT h with⟨i,u,rfl,e⟩|⟨y,u,rfl,e⟩
  ·exact nomatch e
  ·injection e with e1 _
   subst e1;cases v<;>rfl
theorem JA(prog:Bq)(w:World)(i:Int)(t:Tok):(bQ prog w).is (.inl i) (.int i t)=true:=DJ i t
theorem JB(prog:Bq)(w:World)(x:Str)(t:Tok):(bQ prog w).is (.inr x) (.str x t)=true:=DK x t
inductive V where
 |non|bl (b:Bool)|int (i:Int)|str (x:Str)|byt (b:Array UInt8)|flt (b:UInt64)|ref (a:Addr)|ty (n:String)
 deriving DecidableEq
def cB:V->Value->Prop
 | .non,u=>u=Value.none
 | .bl b,u=>u=Rh b
 | .int i,u=> ∃t,u=Qb i t
 | .str x,u=> ∃t,u=Qc x t
 | .byt b,u=> ∃t,u=Value.bytes b t
 | .flt b,u=> ∃t,u=Sb b t
 | .ref a,u=>u=Bo a
 | .ty n,u=>u=Kr n
abbrev b5:List V->List Value->Prop:=Paired cB
theorem b5.length{xs:List V}{us:List Value}(r:b5 xs us):xs.length=us.length:=No r
theorem b5.get: ∀{xs:List V} {us:List Value} {i:Nat} {x:V},b5 xs us->xs[i]? =some x-> ∃u,us[i]? =some u/\cB x u
 |_,_,_,_,.nil,e=>by simp at e
 |_,_,0,_,.cons r _,e=>by simp at e;subst e;exact⟨_,rfl,r⟩
 |_,_,i+1,x,.cons _ t,e=>by
  obtain⟨u,h1,h2⟩:=b5.get (i:=i) (x:=x) t (by simpa using e);exact⟨u,by simpa using h1,h2⟩
theorem b5.append: ∀{xs ys:List V} {us ws:List Value},b5 xs us->b5 ys ws->b5 (xs++ys) (us++ws)
 |_,_,_,_,.nil,s=>s
 |_,_,_,_,.cons r t,s=> .cons r (b5.append t s)
theorem b5.take: ∀{xs:List V} {us:List Value} (n:Nat),b5 xs us->b5 (xs.take n) (us.take n)
 |_,_,0,_=> .nil
 |_,_,_+1,.nil=> .nil
 |_,_,n+1,.cons r t=> .cons r (b5.take n t)
theorem b5.drop: ∀{xs:List V} {us:List Value} (n:Nat),b5 xs us->b5 (xs.drop n) (us.drop n)
 |_,_,0,r=>r
 |_,_,_+1,.nil=> .nil
 |_,_,n+1,.cons _ t=>b5.drop n t
def QL:Option V->Option Value->Prop
 |some v,some u=>cB v u
 |none,none=>True
 |_,_=>False
def KV{κ:Type}:List (κ×V)->List (κ×Value)->Prop:=Paired fun(p:κ×V) (q:κ×Value)=>p.1=q.1/\cB p.2 q.2
noncomputable def kV:bV->V
 | .inl i=> .int i
 | .inr x=> .str x
inductive HO where
 |lst (xs:List V)
 |tup (xs:List V)
 |dK (kvs:List (bV×V))|dT (kvs:List (List bV×V))
 |set (S:Int->Bool) (n:Nat)
 |ins (C dx:Addr) (fs:List (Str×V))
 |own (x:Addr)
 |xd (fs:List (Str×V))
 |met (f x:Addr)
 |rng (lo hi:Int)
 |frz (o:Obj) (u:HO)
 |tbl (ps:Array Value)
 |ext (φ:Heap->Prop)
abbrev Hp:=Addr->Option HO
noncomputable def bN(H:Hp)(a:Addr)(o:HO):Hp:=fun b=>if b=a then some o else H b
theorem cS{H:Hp}{a:Addr}{o:HO}:bN H a o a=some o:=by unfold bN;rw[if_pos rfl]
theorem cH{H:Hp}{a b:Addr}{o:HO}(h:b≠a):bN H a o b=H b:=by unfold bN;rw[if_neg h]
theorem zJ3{H:Hp}{a b:Addr}{o u:HO}(h:H a=some o)(h':H b=some u)(d:o≠u):a≠b:=by intro e;subst e;rw[h] at h';exact d (Ck h')
theorem YJ{H:Hp}{a b:Addr}{o:HO}(h:H a=some o)(h':H b=none):a≠b:=by intro e;subst e;rw[h] at h';cases h'
section
variable(P:Bq)(w:World)
def aA(H:Hp)(h:Heap)(a:Addr):HO->Prop
 | .lst xs=>xs.length<=sizeLine/\ ∃(its:List Value) (n:Nat),b5 xs its/\h.get? a=some {cls:= .type "list",data:= .seq its.toArray n}
 | .tup xs=>xs.length<=sizeLine/\ ∃its:List Value,b5 xs its/\IsTup h a its.toArray
 | .dK kvs=>kvs.length<=sizeLine/\(a==Fi)=false/\ ∃vs,KV kvs vs/\h.DictOf (bQ P w) a vs
 | .dT kvs => kvs.length <= sizeLine /\ (a == Fi) = false /\ ∃ xs : List (List bV × Addr × Value),
   Paired (fun(p:List bV×V) (q:List bV×Addr×Value)=>p.1=q.1/\H q.2.1=some (.tup (p.1.map kV))/\cB p.2 q.2.2) kvs xs∧
   ∃o es ep,h.get? a=some o/\o.ExactDict/\o.data= .dict es ep/\es.toList=xs.map (entryOfKey (tupleKind (bQ P w)))/\(xs.map (·.1)).Nodup
 | .set S n=>h.SetOf (intKind P w) a S n
 | .ins C dx fs => H dx = some (.own a) /\ fs.length <= 1000 /\ dx ≠ a /\ h.get? a = some (Rr C dx) ∧
   ∃mA,h.Ns1 dx mA/\(∀f,QL (fs.lookup f) (mA f))/\Rs mA (fs.map (·.1))
 | .own _=> ∃o,h.get? a=some o
 | .xd fs=> ∃mA,h.Ns1 a mA/\ ∀f,QL (fs.lookup f) (mA f)
 | .rng lo hi=> ∃t u v,h.get? a=some {cls:= .type "range",data:= .fields #[.int lo t,.int hi u,.int 1 v]}
 | .frz o u=>h.get? a=some o/\aA H h a u
 | .tbl ps=>h.get? a=some {cls:= .none,data:= .fields ps}
 | .met f x=>h.get? a=some (Qd (.ref f) (.ref x))
 | .ext φ=>φ h/\(∃o,h.get? a=some o)/\ ∀h1 h2:Heap,φ h1->(∀o,h1.get? a=some o->h2.get? a=some o)->φ h2
def SR(H:Hp)(h:Heap):Prop:= ∀a o,H a=some o->aA P w H h a o
end
section
variable{P:Bq}{w:World}{H H':Hp}{h h':Heap}{a:Addr}{o:HO}
theorem aA.lt(x:aA P w H h a o):a<h.objs.size:=by
 cases o with
 |lst xs=>obtain⟨_,_,_,_,e⟩:=x;exact An e
 |tup xs=>obtain⟨_,_,_,p⟩:=x;exact p.lt
 |dK kvs=>obtain⟨_,_,_,_,o,_,_,e,_⟩:=x;exact An e
 |dT kvs=>obtain⟨_,_,_,_,o,_,_,e,_⟩:=x;exact An e
 |set S n=>obtain⟨o,_,_,_,e,_⟩:=x;exact An e
 |ins C dx fs=>obtain⟨_,_,_,e,_⟩:=x;exact An e
 |own y=>obtain⟨_,e⟩:=x;exact An e
 |xd fs=>obtain⟨_,⟨_,_,_,e,_⟩,_⟩:=x;exact An e
 |rng lo hi=>obtain⟨_,_,_,e⟩:=x;exact An e
 |frz ob u=>obtain⟨e,_⟩:=x;exact An e
 |tbl ps=>exact An (show h.get? a=some _ from x)
 |met f y=>exact An (show h.get? a=some _ from x)
 |ext φ=>obtain⟨_,⟨_,e⟩,_⟩:=x;exact An e
theorem Paired.mapP{α β:Type}{F G:α->β->Prop}: ∀{l₁:List α} {l₂:List β},Paired F l₁ l₂->(∀a b,F a b->G a b)->Paired G l₁ l₂
 |_,_,.nil,_=> .nil
 |_,_,.cons r t,f=> .cons (f _ _ r) (Paired.mapP t f)
theorem aA.stay(x:aA P w H h a o)(k: ∀b u,(b=a∨H b=some (.own a))->h.get? b=some u->h'.get? b=some u)
  (ho: ∀b,H b=some (.own a)->H' b=some (.own a)) (ht: ∀b xs,H b=some (.tup xs)->H' b=some (.tup xs)):aA P w H' h' a o:=by
 induction o with
 |lst xs=>obtain⟨z,its,n,r,e⟩:=x;exact⟨z,its,n,r,k _ _ (.inl rfl) e⟩
 |tup xs=>obtain⟨z,its,r,ob,e,c⟩:=x;exact⟨z,its,r,ob,k _ _ (.inl rfl) e,c⟩
 |dK kvs=>obtain⟨z,y,vs,r,ob,es,ep,e,c⟩:=x;exact⟨z,y,vs,r,ob,es,ep,k _ _ (.inl rfl) e,c⟩
 |dT kvs=>
  obtain⟨z,y,xs,r,ob,es,ep,e,c⟩:=x;exact⟨z,y,xs,Paired.mapP r fun p q z=>⟨z.1,ht _ _ z.2.1,z.2.2⟩,ob,es,ep,k _ _ (.inl rfl) e,c⟩
 |set S n=>obtain⟨ob,es,ep,t,e,c⟩:=x;exact⟨ob,es,ep,t,k _ _ (.inl rfl) e,c⟩
 |ins C dx fs=>
  obtain⟨d,z,ne,e,mA,⟨od,es,ep,e2,c⟩,r⟩:=x;exact⟨ho _ d,z,ne,k _ _ (.inl rfl) e,mA,⟨od,es,ep,k _ _ (.inr d) e2,c⟩,r⟩
 |own y=>obtain⟨ob,e⟩:=x;exact⟨ob,k _ _ (.inl rfl) e⟩
 |xd fs=>obtain⟨mA,⟨od,es,ep,e,c⟩,r⟩:=x;exact⟨mA,⟨od,es,ep,k _ _ (.inl rfl) e,c⟩,r⟩
 |rng lo hi=>obtain⟨t,u,v,e⟩:=x;exact⟨t,u,v,k _ _ (.inl rfl) e⟩
 |frz ob u ih=>obtain⟨e,q⟩:=x;exact⟨k _ _ (.inl rfl) e,ih q⟩
 |tbl ps=>
  have e:h.get? a=some {cls:= .none,data:= .fields ps}:=x;show h'.get? a=some {cls:= .none,data:= .fields ps};exact k a _ (.inl rfl) e
 |met f y=>
  have e:h.get? a=some (Qd (.ref f) (.ref y)):=x;show h'.get? a=some (Qd (.ref f) (.ref y));exact k a _ (.inl rfl) e
 |ext φ=>obtain⟨p,⟨o,e⟩,st⟩:=x;exact⟨st _ _ p fun o q=>k _ _ (.inl rfl) q,⟨o,k _ _ (.inl rfl) e⟩,st⟩
theorem SR.lt(x:SR P w H h)(e:H a=some o):a<h.objs.size:=(x a o e).lt
theorem SR.fresh(x:SR P w H h)(e:h.objs.size<=a):H a=none:=by
 cases q:H a with
 |none=>rfl
 |some u=>exact absurd (Ax (x.lt q) e) (Cd _)
theorem SR.kept(x:SR P w H h)(k: ∀b u,h.get? b=some u->h'.get? b=some u):SR P w H h':=fun a o e=>
 (x a o e).stay (fun b u _ q=>k b u q) (fun _ q=>q) fun _ _ q=>q
theorem SR.laid(x:SR P w H h)(k: ∀b u,h.get? b=some u->h'.get? b=some u)(hp:h.objs.size<=a)(new:aA P w (bN H a o) h' a o):SR P w (bN H a o) h':=fun b u e=>by
 have hn:=x.fresh hp;by_cases hb:b=a
 ·subst hb;rw[cS] at e;cases e;exact new
 ·rw[cH hb] at e
  exact(x b u e).stay (fun c v _ q=>k c v q) (fun c q=>by rw[cH (YJ q hn)];exact q) fun c xs q=>by rw[cH (YJ q hn)];exact q
end
def Rd(H:Hp)(a:Addr)(u:HO):Prop:=H a=some u∨ ∃o,H a=some (.frz o u)
theorem Rd.ok{P:Bq}{w:World}{H:Hp}{h:Heap}{a:Addr}{u:HO}(r:Rd H a u)(x:SR P w H h):aA P w H h a u:=by
 rcases r with r|⟨o,r⟩
 ·exact x a u r
 ·obtain⟨_,q⟩:=x a _ r
  exact q
def Mut:Option HO->Prop
 |some (.lst _)=>True
 |some (.dK _)=>True
 |some (.dT _)=>True
 |some (.set _ _)=>True
 |some (.ins _ _ _)=>True
 |some (.ext _)=>True
 |_=>False
section
variable{P:Bq}{w:World}{H:Hp}{h h':Heap}{x e:Addr}{o':HO}
theorem SR.write(ok:SR P w H h)(mu:Mut (H x))(he:e=x∨H e=some (.own x))(k: ∀b u,b≠e->h.get? b=some u->h'.get? b=some u)(heo: ∃u,h'.get? e=some u)
  (new:aA P w (bN H x o') h' x o'):SR P w (bN H x o') h':=fun b u q=>by
 have km: ∀c y,H c=some (.own y)->c≠x:=fun c y r z=>by subst z;rw[r] at mu;exact mu
 have lx: ∀c xs,H c=some (.tup xs)->c≠x:=fun c xs r z=>by subst z;rw[r] at mu;exact mu
 by_cases hb:b=x
 ·subst hb;rw[cS] at q;cases q;exact new
 ·rw[cH hb] at q
  by_cases hbe:b=e
  ·have q':H b=some (.own x):=by
    rcases he with z|z
    ·exact absurd (hbe.trans z) hb
    ·rw[hbe];exact z
   rw[q] at q';cases q';obtain⟨v,hv⟩:=heo;exact⟨v,by rw[hbe];exact hv⟩
  ·refine (ok b u q).stay (fun c v hc r => k c v ?_ r) (fun c r => by rw [cH (km c b r)];exact r) fun c xs r => by rw [cH (lx c xs r)];exact r
   rcases hc with rfl|hc
   ·exact hbe
   ·rintro rfl
    rcases he with z|z
    ·exact km c b hc z
    ·rw[hc] at z;cases z;exact hb rfl
end
structure Un(fs ex:List Addr)(H H':Hp)(h h':Heap):Prop where
 keep: ∀b o,h.get? b=some o->H b=none->b∉fs->b∉ex->h'.get? b=some o
 slot: ∀b o,h.get? b=some o->H b=none->b∈fs->b∉ex-> ∃sl,h'.get? b=some {o with slots:=sl}
 free: ∀b o,h.get? b=some o->H b=none->b∉ex->H' b=none
 there: ∀b o,h.get? b=some o->b∉ex-> ∃o',h'.get? b=some o'
 tups: ∀b xs,H b=some (.tup xs)->H' b=some (.tup xs)
 frzs: ∀b o u,H b=some (.frz o u)->H' b=some (.frz o u)
 tbls: ∀b ps,H b=some (.tbl ps)-> ∃more,H' b=some (.tbl (ps++more))
section
variable{fs fs' ex ex':List Addr}{H H1 H2:Hp}{h h1 h2 h':Heap}{a x e:Addr}{o:HO}
theorem Un.any(u:Un fs ex H H1 h h1){b:Addr}{ob:Obj}(q:h.get? b=some ob)(n:H b=none)(hx:b∉ex): ∃sl,h1.get? b=some {ob with slots:=sl}:=by
 by_cases hb:b∈fs
 ·exact u.slot b ob q n hb hx
 ·exact⟨ob.slots,u.keep b ob q n hb hx⟩
theorem Un.kept(k: ∀b u,h.get? b=some u->h'.get? b=some u):Un fs ex H H h h':=
 ⟨fun b ob q _ _ _=>k b ob q,fun b ob q _ _ _=>⟨ob.slots,k b ob q⟩,fun _ _ _ n _=>n,fun b ob q _=>⟨ob,k b ob q⟩,fun _ _ q=>q,fun _ _ _ q=>q,fun _ ps q=>⟨#[],by rw[q];simp⟩⟩
theorem Un.refl:Un fs ex H H h h:=Un.kept fun _ _ q=>q
theorem Un.laid(k: ∀b u,h.get? b=some u->h'.get? b=some u)(hp:h.objs.size<=a)(hn:H a=none):Un fs ex H (bN H a o) h h' where
 keep:=fun b u q _ _ _=>k b u q
 slot:=fun b u q _ _ _=>⟨u.slots,k b u q⟩
 free:=fun b u q n _=>by rw[cH (Be (Ax (An q) hp))];exact n
 there:=fun b u q _=>⟨u,k b u q⟩
 tups:=fun b xs q=>by rw[cH (YJ q hn)];exact q
 frzs:=fun b u xs q=>by rw[cH (YJ q hn)];exact q
 tbls:=fun b ps q=>⟨#[],by rw[cH (YJ q hn),q];simp⟩
theorem Un.write(mu:Mut (H x))(he:e=x∨H e=some (.own x))(k: ∀b u,b≠e->h.get? b=some u->h'.get? b=some u)(heo: ∃u,h'.get? e=some u):Un fs ex H (bN H x o) h h':=by
 have hx: ∀b,H b=none->b≠x:=fun b n z=>by subst z;rw[n] at mu;exact mu
 have hb: ∀b,H b=none->b≠e:=fun b n z=>by
  subst z;rcases he with r|r
  ·exact hx b n r
  ·rw[n] at r;cases r
 have hm: ∀b u,H b=some u-> ¬Mut (some u)->b≠x:=fun b u q nm z=>by subst z;rw[q] at mu;exact nm mu
 refine⟨fun b u q n _ _=>k b u (hb b n) q,fun b u q n _ _=>⟨u.slots,k b u (hb b n) q⟩,fun b u q n _=>by rw[cH (hx b n)];exact n,fun b u q _=> ?_,
  fun b xs q=>by rw[cH (hm b _ q fun z=>z)];exact q,fun b u xs q=>by rw[cH (hm b _ q fun z=>z)];exact q,fun b ps q=>⟨#[],by rw[cH (hm b _ q fun z=>z),q];simp⟩⟩
 by_cases hbe:b=e
 ·subst hbe;exact heo
 ·exact⟨u,k b u hbe q⟩
end
noncomputable def trk(h:Heap)(H:Hp):List Addr:=(Az h.objs.size).filter fun a=>(H a).isSome
noncomputable def K5(h:Heap)(H:Hp):Heap:=W.hideAll h (trk h H)
theorem DH(h:Heap)(H:Hp):(K5 h H).objs.size=h.objs.size:=W.hideAll_size _ _
theorem zB0{h:Heap}{H:Hp}{b:Addr}{o:Obj}(e:h.get? b=some o)(n:H b=none):(K5 h H).get? b=some o:=
 W.hideAll_get _ e fun hm=>by
  have q:(H b).isSome=true:=(Fw.mp hm).2;rw[n] at q;simp at q
theorem zCJ{h:Heap}{H:Hp}{b:Addr}{o:Obj}(e:(K5 h H).get? b=some o):h.get? b=some o/\H b=none:=by
 have e':h.get? b=some o:=W.of_hideAll (trk h H) e;refine⟨e',?_⟩;cases q:H b with
 |none=>rfl
 |some x=>
  have hm:b∈trk h H:=Fw.mpr ⟨Dm.mpr (An e'),by simp[q]⟩;have z:(K5 h H).get? b=none:=W.hideAll_none (trk h H) hm;rw[z] at e;cases e
structure Mod(K:Ar)(mg:Str->Option Value)(base:Heap):Prop where
 kin:K.In base
 glob:base.Ns mainGlobals mg
 blt: ∃mb,base.Ns builtinsNs mb/\ ∀x:Str,x≠ "__name__" ->mb x=Bj x
 nolimit:base.NoLimit
structure Cx where
 prog:Bq
 w:World
 K:Ar
 mg:Str->Option Value
 base:Heap
 A:Cz
 N:List Str
 s₀:Af
 H₀:Hp
 env:Env
 outer:List Env
 stack:List Env
 ex:List Addr
 fn:Str->Bool
 calm:Bool
 pn:List (Addr×Obj)
 xe:Value->Af->Prop
noncomputable def DG(l:List Env):List Addr:=l.filterMap (·.frame)
abbrev Cx.fs(X:Cx):List Addr:=DG X.outer
def Vis(sc:Scope)(x:Str):Prop:=sc.names.lookup x=some .local∨sc.names.lookup x=some .cell∨sc.names.lookup x=some .free
def GI(sc:Scope)(x:Str):Prop:=sc.names.lookup x=some .local∨sc.names.lookup x=some .cell
def Look(env:Env)(h:Heap)(m:Str->Option Value)(x:Str)(u:Value):Prop:=
 (env.kindOf x=some .local/\m x=some u)∨((env.kindOf x=some .cell∨env.kindOf x=some .free)/\ ∃c,env.cells.lookup x=some c/\h.IsCell c (some u))
structure Cx.Ok(X:Cx):Prop where
 mod:Mod X.K X.mg X.base
 kind:X.env.scope.kind= .function
 glob:X.env.globals=mainGlobals
 blt:X.env.builtins=builtinsNs
 above:X.s₀.heap.objs.size<=X.env.locals
 inj: ∀x y c,X.env.cells.lookup x=some c->X.env.cells.lookup y=some c->x=y
 has: ∀x,(X.env.kindOf x=some .cell∨X.env.kindOf x=some .free)-> ∃c,X.env.cells.lookup x=some c
 cab: ∀x c,X.fn x=true->X.env.cells.lookup x=some c->X.s₀.heap.objs.size<=c
 hd:X.calm=true->X.A.handled=none
 frames:X.A.frames=some X.stack
 stk:X.stack=X.outer∨(X.stack=X.env::X.outer/\X.env.frame=some X.env.locals)
 exf: ∀b∈X.ex,b≠X.env.locals/\ ∀x c,X.env.cells.lookup x=some c->c≠b
 bs: ∀b o,X.base.get? b=some o->X.s₀.heap.get? b=some o/\X.H₀ b=none
 bsz:X.base.objs.size<=X.s₀.heap.objs.size
 noex: ∀b o,X.base.get? b=some o->b∉X.ex
 exfs: ∀b∈X.ex,b∉X.fs
 funs:X.s₀.heap.FunFrames X.base X.outer
 frf: ∀b∈X.fs,X.H₀ b=none
structure cT(X:Cx)(aa:List (Addr×Obj))(σ:List (Option V))(H:Hp)(s:Af):Prop where
 ok:X.Ok
 os:s.os=X.s₀.os
 bare:Mb s.gens
 base:Un X.fs X.ex X.H₀ H X.s₀.heap s.heap
 loc: ∃m,s.heap.Ns X.env.locals m/\ ∀(i:Nat) (x:Str) (v:V),X.N[i]? =some x->σ[i]? =some (some v)->Vis X.env.scope x-> ∃u,cB v u/\Look X.env s.heap m x u
 cell: ∀x c,X.env.cells.lookup x=some c-> ∃v,s.heap.IsCell c v
 free:H X.env.locals=none
 freeC: ∀x c,X.env.cells.lookup x=some c->H c=none
 pin: ∀p∈X.pn++aa,s.heap.get? p.1=some p.2/\H p.1=none/\p.1≠X.env.locals/\p.1∉X.fs/\ ∀v,p.2.data≠ .cell v
 hok:SR X.prog X.w H s.heap
 len:σ.length=X.N.length
section
variable{X:Cx}{aa:List (Addr×Obj)}{σ:List (Option V)}{H H':Hp}{s:Af}{h':Heap}
theorem Cx.Ok.nofr(ok:X.Ok){b:Addr}{o:Obj}(e:X.base.get? b=some o):b∉X.fs:=fun hb=>by
 have:=(ok.funs.mem hb).1;rw[e] at this;cases this
theorem cT.bs(I:cT X aa σ H s): ∀b o,X.base.get? b=some o->s.heap.get? b=some o/\H b=none:=fun b o e=>
 ⟨I.base.keep b o (I.ok.bs b o e).1 (I.ok.bs b o e).2 (I.ok.nofr e) (I.ok.noex b o e),I.base.free b o (I.ok.bs b o e).1 (I.ok.bs b o e).2 (I.ok.noex b o e)⟩
theorem cT.bk(I:cT X aa σ H s): ∀b o,X.base.get? b=some o->s.heap.get? b=some o:=fun b o e=>(I.bs b o e).1
theorem cT.mod(I:cT X aa σ H s):Mod X.K X.mg X.base:=I.ok.mod
theorem cT.kIn(I:cT X aa σ H s):X.K.In s.heap:=I.ok.mod.kin.keeps I.bk
theorem cT.lt(I:cT X aa σ H s):X.env.locals<s.heap.objs.size:=let ⟨_,hn,_⟩:=I.loc;hn.lt
theorem cT.sz(I:cT X aa σ H s):X.s₀.heap.objs.size<=s.heap.objs.size:=Cb I.ok.above (Df I.lt)
theorem cT.nofs(I:cT X aa σ H s){a:Addr}(h:s.heap.objs.size<=a):a∉X.fs:=fun hb=>by
 obtain⟨_,o,ho,_⟩:=I.ok.funs.mem hb;exact absurd (Ax (An ho) (Cb I.sz h)) (Cd _)
theorem cT.cne(I:cT X aa σ H s): ∀x c,X.env.cells.lookup x=some c->c≠X.env.locals:=fun x c e z=>by
 obtain⟨v,o,ho,hd⟩:=I.cell x c e;obtain⟨m,⟨o',es,ep,ho',hd',_⟩,_⟩:=I.loc;rw[z,ho'] at ho;cases ho;rw[hd'] at hd;cases hd
theorem cT.funs(I:cT X aa σ H s):s.heap.FunFrames X.base X.outer:=by
 have all: ∀(l:List Env),(∀b∈DG l,b∈X.fs)->X.s₀.heap.FunFrames X.base l->s.heap.FunFrames X.base l:=by
  intro l;induction l with
  |nil=>intro _ _;trivial
  |cons env r ih=>
   intro hs hl;obtain⟨hk,⟨L,o,hf,hn,ho,hd⟩,hr⟩:=hl;have hL:L∈X.fs:=hs L (by unfold DG;rw[Jl,hf];exact Au);obtain⟨sl,e⟩:=I.base.slot L o ho (I.ok.frf L hL) hL fun z=>I.ok.exfs L z hL;exact⟨hk,⟨L,_,hf,hn,e,hd⟩,ih (fun b hb=>hs b (by unfold DG;rw[Jl,hf];exact Ap _ hb)) hr⟩
 exact all X.outer (fun _ hb=>hb) I.ok.funs
theorem cT.stack(I:cT X aa σ H s):s.heap.FunFrames X.base X.stack:=by
 rcases I.ok.stk with e|⟨e,hf⟩
 ·rw[e];exact I.funs
 ·rw[e]
  obtain⟨m,hn,_⟩:=I.loc;refine .cons (by rw[I.ok.kind];decide) hf hn ?_ I.funs;exact Heap.get?_none_of_le (Cb I.ok.bsz I.ok.above)
theorem cT.stkSub(I:cT X aa σ H s): ∀b∈DG X.stack,b∈X.env.locals::X.fs:=fun b hb=>by
 rcases I.ok.stk with e|⟨e,hf⟩
 ·rw[e] at hb;exact Ap _ hb
 ·rw[e] at hb
  unfold DG at hb;rw[Jl,hf] at hb;exact hb
theorem cT.stkFree(I:cT X aa σ H s): ∀b∈DG X.stack,H b=none:=fun b hb=>by
 rcases Ai.mp (I.stkSub b hb) with e|hb
 ·rw[e];exact I.free
 ·obtain⟨_,o,ho,_⟩:=I.ok.funs.mem hb
  exact I.base.free b o ho (I.ok.frf b hb) fun z=>I.ok.exfs b z hb
theorem cT.step{g':Array GenState}{t':Nat}{d':Drawn}{ch:List Addr}(I:cT X aa σ H s)
  (hch: ∀b∈ch,(b∈X.ex∨X.s₀.heap.objs.size<=b)/\b≠X.env.locals/\(∀x c,X.env.cells.lookup x=some c->c≠b)/\ ∀p∈X.pn++aa,p.1≠b)
  (keep: ∀b o,b≠X.env.locals->b∉X.fs->b∉ch->s.heap.get? b=some o->H b=none->h'.get? b=some o)
  (slot: ∀b o,b≠X.env.locals->b∈X.fs->b∉ch->s.heap.get? b=some o->H b=none-> ∃sl,h'.get? b=some {o with slots:=sl}) (free: ∀b o,b∉ch->s.heap.get? b=some o->H b=none->H' b=none)
  (there: ∀b o,b∉ch->s.heap.get? b=some o-> ∃o',h'.get? b=some o')
  (tups: ∀b xs,H b=some (.tup xs)->H' b=some (.tup xs)) (frzs: ∀b o u,H b=some (.frz o u)->H' b=some (.frz o u)) (tbls: ∀b ps,H b=some (.tbl ps)-> ∃more,H' b=some (.tbl (ps++more)))
  (ns: ∀m,s.heap.Ns X.env.locals m->h'.Ns X.env.locals m) (hok:SR X.prog X.w H' h') (hg:Mb g'):
  cT X aa σ H' {s with heap:=h',gens:=g',drawn:=d',toks:=t'}:=by
 have neL: ∀b o,X.s₀.heap.get? b=some o->b≠X.env.locals:=fun b o e=>Be (Ax (An e) I.ok.above);have neC: ∀b o,X.s₀.heap.get? b=some o->b∉X.ex->b∉ch:=fun b o e hx hb=>by
  rcases(hch b hb).1 with z|z
  ·exact hx z
  ·exact absurd (Ax (An e) z) (Cd _)
 have i3: ∀x c,X.env.cells.lookup x=some c-> ∀v,s.heap.IsCell c v->h'.IsCell c v:=fun x c e v q0=>by
  obtain⟨o,ho,hd⟩:=q0;have nch:c∉ch:=fun z=>(hch c z).2.2.1 x c e rfl;by_cases hc:c∈X.fs
  ·obtain⟨sl,q⟩:=slot c o (I.cne x c e) hc nch ho (I.freeC x c e)
   exact⟨_,q,hd⟩
  ·exact⟨o,keep c o (I.cne x c e) hc nch ho (I.freeC x c e),hd⟩
 refine⟨I.ok,I.os,hg,⟨fun b o e n hb hx=> ?_,fun b o e n hb hx=> ?_,fun b o e n hx=> ?_,fun b o e hx=> ?_,fun b xs e=>tups b xs (I.base.tups b xs e),fun b o xs e=>frzs b o xs (I.base.frzs b o xs e),fun b ps e=> ?_⟩,?_,fun x c e=> ?_,?_,fun x c e=> ?_,fun p hp=> ?_,hok,I.len⟩
 ·exact keep b o (neL b o e) hb (neC b o e hx) (I.base.keep b o e n hb hx) (I.base.free b o e n hx)
 ·obtain⟨sl,e1⟩:=I.base.slot b o e n hb hx
  obtain⟨sl',e2⟩:=slot b _ (neL b o e) hb (neC b o e hx) e1 (I.base.free b o e n hx);exact⟨sl',e2⟩
 ·obtain⟨o',e1⟩:=I.base.there b o e hx
  exact free b o' (neC b o e hx) e1 (I.base.free b o e n hx)
 ·obtain⟨o',e1⟩:=I.base.there b o e hx
  exact there b o' (neC b o e hx) e1
 ·obtain⟨m1,e1⟩:=I.base.tbls b ps e
  obtain⟨m2,e2⟩:=tbls b _ e1;exact⟨m1++m2,by rw[e2,Array.append_assoc]⟩
 ·obtain⟨m,hn,hl⟩:=I.loc
  refine⟨m,ns m hn,fun i x v e1 e2 e3=> ?_⟩;obtain⟨u,r,l⟩:=hl i x v e1 e2 e3;refine⟨u,r,?_⟩;rcases l with l|⟨k,c,e,z⟩
  ·exact .inl l
  ·exact .inr ⟨k,c,e,i3 x c e _ z⟩
 ·obtain⟨v,z⟩:=I.cell x c e
  exact⟨v,i3 x c e v z⟩
 ·obtain⟨m,⟨o,_,_,ho,_⟩,_⟩:=I.loc
  exact free _ o (fun z=>(hch _ z).2.1 rfl) ho I.free
 ·obtain⟨v,o,ho,hd⟩:=I.cell x c e
  exact free c o (fun z=>(hch c z).2.2.1 x c e rfl) ho (I.freeC x c e)
 ·obtain⟨e,n,ne,nf,d⟩:=I.pin p hp
  have nch:p.1∉ch:=fun z=>(hch p.1 z).2.2.2 p hp rfl;exact⟨keep p.1 p.2 ne nf nch e n,free p.1 p.2 nch e n,ne,nf,d⟩
theorem cT.un{t':Nat}(I:cT X aa σ H s)(u:Un X.fs [] H H' s.heap h')(hok:SR X.prog X.w H' h'):cT X aa σ H' {s with heap:=h',toks:=t'}:=by
 obtain⟨m,⟨o,es,ep,ho,r⟩,_⟩:=id I.loc;obtain⟨sl,hL⟩:=u.any ho I.free (by simp);exact I.step (g':=s.gens) (d':=s.drawn) (ch:=[]) (fun _ z=>nomatch z) (fun b o _ hb _ e n=>u.keep b o e n hb (by simp)) (fun b o _ hb _ e n=>u.slot b o e n hb (by simp)) (fun b o _ e n=>u.free b o e n (by simp)) (fun b o _ e=>u.there b o e (by simp)) u.tups u.frzs u.tbls (fun m' hm=>by
  obtain⟨o',es',ep',ho',r'⟩:=hm;rw[ho] at ho';cases ho';exact⟨_,es',ep',hL,r'⟩) hok I.bare
theorem cT.call{g':Array GenState}{t':Nat}{d':Drawn}{ch:List Addr}(I:cT X aa σ H s)(u:Un (DG X.stack) ch H H' s.heap h')(hok:SR X.prog X.w H' h')(hg:Mb g')
  (hch: ∀b∈ch,(b∈X.ex∨X.s₀.heap.objs.size<=b)/\b≠X.env.locals/\(∀x c,X.env.cells.lookup x=some c->c≠b)/\ ∀p∈X.pn++aa,p.1≠b):
  cT X aa σ H' {s with heap:=h',gens:=g',drawn:=d',toks:=t'}:=by
 obtain⟨m,⟨o,es,ep,ho,r⟩,_⟩:=id I.loc;obtain⟨sl,hL⟩:=u.any ho I.free fun z=>(hch _ z).2.1 rfl;exact I.step (ch:=ch) hch (fun b o hL hb hc e n=>u.keep b o e n (fun z=>(Ai.mp (I.stkSub b z)).elim hL hb) hc) (fun b o _ _ hc e n=>u.any e n hc) (fun b o hc e n=>u.free b o e n hc) (fun b o hc e=>u.there b o e hc) u.tups u.frzs u.tbls (fun m' hm=>by
  obtain⟨o',es',ep',ho',r'⟩:=hm;rw[ho] at ho';cases ho';exact⟨_,es',ep',hL,r'⟩) hok hg
theorem cT.turned{t':Nat}{it:Addr}(I:cT X aa σ H s)(k: ∀b o,b≠it->s.heap.get? b=some o->h'.get? b=some o)(hn:H it=none)(hL:it≠X.env.locals)
  (h1:it∈X.ex∨X.s₀.heap.objs.size<=it) (h2: ∀x c,X.env.cells.lookup x=some c->c≠it) (h3: ∀p∈X.pn++aa,p.1≠it):cT X aa σ H {s with heap:=h',toks:=t'}:=by
 have nit: ∀b u,H b=some u->b≠it:=fun b u e z=>by rw[z,hn] at e;cases e
 refine I.step (g':=s.gens) (d':=s.drawn) (ch:=[it]) (fun b hb=> ?_) (fun b o _ _ hc e _=>k b o (fun z=>hc (by simp[z])) e) (fun b o _ _ hc e _=>⟨o.slots,k b o (fun z=>hc (by simp[z])) e⟩) (fun _ _ _ _ n=>n)
  (fun b o hc e=>⟨o,k b o (fun z=>hc (by simp[z])) e⟩) (fun _ _ e=>e) (fun _ _ _ e=>e) (fun b ps e=>⟨#[],by rw[e];simp⟩) (fun m hm=> ?_) (fun b u e=> ?_) I.bare
 ·have e : b = it := by simpa using hb
  subst e;exact⟨h1,hL,h2,h3⟩
 ·obtain⟨o,es,ep,ho,r⟩:=hm
  exact⟨o,es,ep,k _ o (Dr hL) ho,r⟩
 ·refine (I.hok b u e).stay (fun c v hc q => k c v ?_ q) (fun _ q => q) fun _ _ q => q
  rcases hc with z|z
  ·rw[z];exact nit b u e
  ·exact nit c _ z
theorem cT.tok(I:cT X aa σ H s)(t:Nat):cT X aa σ H {s with toks:=t}:=I.un (h':=s.heap) (t':=t) Un.refl I.hok
theorem cT.kept{t':Nat}(I:cT X aa σ H s)(k: ∀b u,s.heap.get? b=some u->h'.get? b=some u):cT X aa σ H {s with heap:=h',toks:=t'}:=I.un (Un.kept k) (I.hok.kept k)
theorem cT.laid{a:Addr}{o:HO}{t':Nat}(I:cT X aa σ H s)(k: ∀b u,s.heap.get? b=some u->h'.get? b=some u)(hp:s.heap.objs.size<=a)(new:aA X.prog X.w (bN H a o) h' a o):
  cT X aa σ (bN H a o) {s with heap:=h',toks:=t'}:=I.un (Un.laid k hp (I.hok.fresh hp)) (I.hok.laid k hp new)
theorem cT.write{x e:Addr}{o:HO}{t':Nat}(I:cT X aa σ H s)(mu:Mut (H x))(he:e=x∨H e=some (.own x))(k: ∀b u,b≠e->s.heap.get? b=some u->h'.get? b=some u)(heo: ∃u,h'.get? e=some u)
  (new:aA X.prog X.w (bN H x o) h' x o):cT X aa σ (bN H x o) {s with heap:=h',toks:=t'}:=I.un (Un.write mu he k heo) (I.hok.write mu he k heo new)
theorem cT.weak{σ':List (Option V)}(I:cT X aa σ H s)(hl:σ'.length=σ.length)(w: ∀(i:Nat) v,σ'[i]? =some (some v)->σ[i]? =some (some v)):cT X aa σ' H s:=
 ⟨I.ok,I.os,I.bare,I.base,let ⟨m,hn,hl'⟩:=I.loc;⟨m,hn,fun i x v e1 e2 e3=>hl' i x v e1 (w i v e2) e3⟩,I.cell,I.free,I.freeC,I.pin,I.hok,hl.trans I.len⟩
theorem cT.pins_of{gx:List (Addr×Obj)}(I:cT X aa σ H s)(h: ∀p∈gx,s.heap.get? p.1=some p.2/\H p.1=none/\p.1≠X.env.locals/\p.1∉X.fs/\ ∀v,p.2.data≠ .cell v):cT X gx σ H s:=
 ⟨I.ok,I.os,I.bare,I.base,I.loc,I.cell,I.free,I.freeC,fun p hp=>(Bk.mp hp).elim (fun z=>I.pin p (Cg _ z)) (h p),I.hok,I.len⟩
theorem JE{N:List Str}(hN:N.Nodup){i j:Nat}{x:Str}(a:N[i]? =some x)(b:N[j]? =some x):i=j:=by
 obtain⟨h1,e1⟩:=Ag.mp a;obtain⟨h2,e2⟩:=Ag.mp b;exact(Pj hN).mp (e1.trans e2.symm)
theorem MR{M:Model}{A:Cz}{E:Value->Af->Prop}{i:Nat}{x:Str}{v:V}{u:Value}{Q:Unit->Af->Prop}(I:cT X aa σ H s)(hN:X.N.Nodup)(hi:X.N[i]? =some x)(hx:GI X.env.scope x)(r:cB v u)
  (h: ∀s',cT X aa (σ.set i (some v)) H s'->(∃a,Fk a s.heap s'.heap/\(a=X.env.locals∨X.env.cells.lookup x=some a))->Q () s') (hf:X.fn x=true∨X.env.scope.names.lookup x=some .local:=by first|exact .inl rfl|exact .inr rfl|assumption):wpAny M A (storeName X.env x u) Q E s:=by
 obtain⟨m,hn,hl⟩:=id I.loc;have my:(X.env.scope.kind== .class || (X.env.scope.kind== .module && X.env.locals !=X.env.globals))=false:=by rw[I.ok.kind];rfl
 have hiσ:i<σ.length:=by rw[I.len];exact(Ag.mp hi).1
 have cne:=I.cne;have dj: ∀{a:Addr} {h':Heap},(∃o,s.heap.get? a=some o/\H a=none)->Fk a s.heap h'->SR X.prog X.w H h':=fun{a h'} ha hs b ob e=>by
  obtain⟨_,_,az⟩:=ha;refine(I.hok b ob e).stay (fun c w' hc q=>(hs.2 c ?_).trans q) (fun _ q=>q) fun _ _ q=>q;rintro rfl;rcases hc with rfl|hc
  ·rw[az] at e;cases e
  ·rw[az] at hc;cases hc
 rcases hx with hk|hk
 ·refine wpAny_storeName_local hk hn (fun h' hn' hs => ?_) my
  obtain⟨oL,_,_,hoL,_⟩:=id hn;refine h _ ⟨I.ok,I.os,I.bare,⟨fun b o e n hb hx=> ?_,fun b o e n hb hx=> ?_,I.base.free,fun b o e hx=> ?_,I.base.tups,I.base.frzs,I.base.tbls⟩,⟨_,hn',fun j y v' e1 e2 e3=> ?_⟩,fun y c e=> ?_,I.free,I.freeC,fun p hp=> ?_,dj ⟨oL,hoL,I.free⟩ hs,by simpa using I.len⟩ ⟨_,hs,.inl rfl⟩
  ·exact(hs.2 b (Be (Ax (An e) I.ok.above))).trans (I.base.keep b o e n hb hx)
  ·obtain⟨sl,e1⟩:=I.base.slot b o e n hb hx
   exact⟨sl,(hs.2 b (Be (Ax (An e) I.ok.above))).trans e1⟩
  ·obtain⟨o',e1⟩:=I.base.there b o e hx
   exact⟨o',(hs.2 b (Be (Ax (An e) I.ok.above))).trans e1⟩
  ·by_cases hj:j=i
   ·subst hj
    rw[hi] at e1;cases e1;rw[Dh hiσ] at e2;cases e2;exact⟨u,r,.inl ⟨hk,by simp⟩⟩
   ·rw[By (Dr hj)] at e2
    obtain⟨u',r',q⟩:=hl j y v' e1 e2 e3;refine⟨u',r',?_⟩;rcases q with⟨k,e⟩|⟨k,c,e,z⟩
    ·refine .inl ⟨k,?_⟩
     have:y≠x:=fun e=>hj (JE hN e1 (e▸hi));simp[this,e]
    ·exact .inr ⟨k,c,e,z.sameBut hs (cne y c e)⟩
  ·obtain⟨w',z⟩:=I.cell y c e
   exact⟨w',z.sameBut hs (cne y c e)⟩
  ·obtain⟨e,n,ne,nf,d⟩:=I.pin p hp
   exact⟨(hs.2 p.1 ne).trans e,n,ne,nf,d⟩
 ·have hfn:X.fn x=true:=by
   rcases hf with z|z
   ·exact z
   ·rw[z] at hk;cases hk
  obtain⟨c,hc⟩:=I.ok.has x (.inl hk);obtain⟨w',z⟩:=I.cell x c hc;refine wpAny_storeName_cell I.ok.kind hk hc z (fun h' hc' hs=> ?_);obtain⟨oc,hoc,mf⟩:=id z;refine h {s with heap:=h'} ⟨I.ok,I.os,I.bare,⟨fun b o e n hb hx=> ?_,fun b o e n hb hx=> ?_,I.base.free,fun b o e hx=> ?_,I.base.tups,I.base.frzs,I.base.tbls⟩,⟨m,hn.sameBut hs (Dr (cne x c hc)),fun j y v' e1 e2 e3=> ?_⟩,fun y c' e=> ?_,I.free,I.freeC,fun p hp=> ?_,dj ⟨oc,hoc,I.freeC x c hc⟩ hs,by simpa using I.len⟩ ⟨c,hs,.inr hc⟩
  ·exact(hs.2 b (Be (Ax (An e) (I.ok.cab x c hfn hc)))).trans (I.base.keep b o e n hb hx)
  ·obtain⟨sl,e1⟩:=I.base.slot b o e n hb hx
   exact⟨sl,(hs.2 b (Be (Ax (An e) (I.ok.cab x c hfn hc)))).trans e1⟩
  ·obtain⟨o',e1⟩:=I.base.there b o e hx
   exact⟨o',(hs.2 b (Be (Ax (An e) (I.ok.cab x c hfn hc)))).trans e1⟩
  ·by_cases hj:j=i
   ·subst hj
    rw[hi] at e1;cases e1;rw[Dh hiσ] at e2;cases e2;exact⟨u,r,.inr ⟨.inl hk,c,hc,hc'⟩⟩
   ·rw[By (Dr hj)] at e2
    obtain⟨u',r',q⟩:=hl j y v' e1 e2 e3;refine⟨u',r',?_⟩;rcases q with q|⟨k,c',e,z'⟩
    ·exact .inl q
    ·refine .inr ⟨k,c',e,z'.sameBut hs ?_⟩
     rintro rfl;exact hj (JE hN e1 (I.ok.inj _ _ _ e hc▸hi))
  ·by_cases hcc:c'=c
   ·subst hcc;exact⟨_,hc'⟩
   ·obtain⟨w2,z2⟩:=I.cell y c' e
    exact⟨w2,z2.sameBut hs hcc⟩
  ·obtain⟨e,n,ne,nf,d⟩:=I.pin p hp
   refine⟨(hs.2 p.1 ?_).trans e,n,ne,nf,d⟩;intro q;rw[q,hoc] at e;have q':oc=p.2:=Ck e;exact d w' (by rw[<- q'];exact mf)
theorem YV{M:Model}{A:Cz}{E:Value->Af->Prop}{i:Nat}{x:Str}{v:V}{u:Value}{Q:Unit->Af->Prop}(I:cT X aa σ H s)(hN:X.N.Nodup)(hi:X.N[i]? =some x)(hx:GI X.env.scope x)(r:cB v u)
  (h: ∀s',cT X aa (σ.set i (some v)) H s'->Q () s') (hf:X.fn x=true∨X.env.scope.names.lookup x=some .local:=by first|exact .inl rfl|exact .inr rfl|assumption):wpAny M A (storeName X.env x u) Q E s:=
 MR I hN hi hx r (fun s' I' _=>h s' I') hf
theorem cT.call'{s':Af}{ch:List Addr}(I:cT X aa σ H s)(ho:s'.os=s.os)(u:Un (DG X.stack) ch H H' s.heap s'.heap)(hok:SR X.prog X.w H' s'.heap)(hg:Mb s'.gens)
  (hch: ∀b∈ch,(b∈X.ex∨X.s₀.heap.objs.size<=b)/\b≠X.env.locals/\(∀x c,X.env.cells.lookup x=some c->c≠b)/\ ∀p∈X.pn++aa,p.1≠b):cT X aa σ H' s':=by
 obtain⟨h',g',d',t',o'⟩:=s';have e:o'=s.os:=ho;subst e;exact I.call (g':=g') (t':=t') (d':=d') u hok hg hch
end
abbrev XK:=Value->Option Addr->Hp->Prop
abbrev St:=List (Option V)
abbrev VK:=V->Hp->Prop
abbrev TE:=St->Hp->VK->Prop
abbrev TT:=St->Hp->(Bool->Hp->Prop)->Prop
abbrev TA:=St->Hp->(List V->Hp->Prop)->Prop
structure GF where
 nx:St->Hp->Prop
 rt:VK
 bk:St->Hp->Prop:=fun _ _=>False
 ct:St->Hp->Prop:=fun _ _=>False
abbrev TS:=GF->St->Hp->Prop
def EP(X:Cx)(aa:List (Addr×Obj))(σ:St)(Q:VK)(u:Value)(s':Af):Prop:= ∃v H',cT X aa σ H' s'/\cB v u/\Q v H'
def TP(X:Cx)(aa:List (Addr×Obj))(σ:St)(Q:Bool->Hp->Prop)(b:Bool)(s':Af):Prop:= ∃H',cT X aa σ H' s'/\Q b H'
def AP(X:Cx)(aa:List (Addr×Obj))(σ:St)(Q:List V->Hp->Prop)(us:List Value)(s':Af):Prop:= ∃vs H',cT X aa σ H' s'/\b5 vs us/\Q vs H'
def SP(X:Cx)(aa:List (Addr×Obj))(D:GF)(f:Flow)(s':Af):Prop:=
 match f with
 | .next=> ∃σ' H',cT X aa σ' H' s'/\D.nx σ' H'
 | .brk=> ∃σ' H',cT X aa σ' H' s'/\D.bk σ' H'
 | .cont=> ∃σ' H',cT X aa σ' H' s'/\D.ct σ' H'
 | .ret u=> ∃v σ' H',cT X aa σ' H' s'/\cB v u/\D.rt v H'
def PE(X:Cx)(e:Expr)(t:TE):Prop:=
 ∀(aa:List (Addr×Obj)) (s:Af) (σ:St) (H:Hp) (Q:VK),cT X aa σ H s->t σ H Q->wpAny (model X.prog X.w) X.A (eval e X.env) (EP X aa σ Q) X.xe s
def PT(X:Cx)(e:Expr)(t:TT):Prop:=
 ∀(aa:List (Addr×Obj)) (s:Af) (σ:St) (H:Hp) (Q:Bool->Hp->Prop),cT X aa σ H s->t σ H Q->wpAny (model X.prog X.w) X.A (isTrue e X.env (eval e X.env)) (TP X aa σ Q) X.xe s
def PW(X:Cx)(e:Expr)(t:TT):Prop:=
 ∀(bn:Sem Value) (aa:List (Addr×Obj)) (s:Af) (σ:St) (H:Hp) (Q:Bool->Hp->Prop),cT X aa σ H s->t σ H Q->wpAny (model X.prog X.w) X.A (isTrue e X.env bn) (TP X aa σ Q) X.xe s
theorem PW.pt{X:Cx}{e:Expr}{t:TT}(h:PW X e t):PT X e t:=h _
def PA(X:Cx)(es:List Expr)(t:TA):Prop:=
 ∀(pos:Pos) (aa:List (Addr×Obj)) (s:Af) (σ:St) (H:Hp) (Q:List V->Hp->Prop),cT X aa σ H s->t σ H Q->wpAny (model X.prog X.w) X.A (spliced (Gh pos (Aj es X.env))) (AP X aa σ Q) X.xe s
def PS(X:Cx)(st:Stmt)(t:TS):Prop:=
 ∀(aa:List (Addr×Obj)) (s:Af) (σ:St) (H:Hp) (D:GF),cT X aa σ H s->t D σ H->wpAny (model X.prog X.w) X.A (exec st X.env) (SP X aa D) X.xe s
def PR(X:Cx)(st:List Stmt)(t:TS):Prop:=
 ∀(aa:List (Addr×Obj)) (s:Af) (σ:St) (H:Hp) (D:GF),cT X aa σ H s->t D σ H->wpAny (model X.prog X.w) X.A (execs st X.env) (SP X aa D) X.xe s
theorem ZW{α:Type}{t:Sem α}{Q Q':α->Af->Prop}{M:Model}{A:Cz}{E:Value->Af->Prop}{s:Af}(h:wpAny M A t Q E s)(hQ: ∀a s,Q a s->Q' a s):wpAny M A t Q' E s:=Bm h hQ fun _ _ x=>x
section
variable{X:Cx}
def SJ(i:Nat):TE:=fun σ H Q=> ∃v,σ[i]? =some (some v)/\Q v H
def tC(v:V):TE:=fun _ H Q=>Q v H
theorem HA{i:Nat}{x:Str}{pos:Pos}(hN:X.N[i]? =some x)(hv:Vis X.env.scope x)(hd:(x==("__debug__":Str))=false:=by decide) (hcd:(x==("__classdict__":Str))=false:=by decide):PE X (.Name x pos) (SJ i):=by
 intro aa s σ H Q I h;obtain⟨v,e,h⟩:=h;obtain⟨m,hn,hl⟩:=I.loc;obtain⟨u,r,l⟩:=hl i x v hN e hv;have fin:EP X aa σ Q u s:=⟨v,H,I,r,h⟩;rcases l with⟨hk,hm⟩|⟨hk,c,hc,h9⟩
 ·exact Ri (wpAny_loadName_local I.ok.kind hk hn hm fin) hd
 ·rcases hk with hk|hk
  ·exact Ri (wpAny_loadName_cell I.ok.kind hk hc h9 fin) hd
  ·exact Ri (wpAny_loadName_free I.ok.kind hk hc h9 fin hcd) hd
theorem zFN{i j pos}:PE X (.Constant (.int i) j pos) (tC (.int i)):=fun _ _ _ H _ I h=>wpAny_Constant_int ⟨.int i,H,I.tok _,⟨_,rfl⟩,h⟩
theorem zIO{b j pos}:PE X (.Constant (.bool b) j pos) (tC (.bl b)):=fun _ _ _ H _ I h=>Constant_bool ⟨.bl b,H,I,rfl,h⟩
theorem zFL{j pos}:PE X (.Constant .none j pos) (tC .non):=fun _ _ _ H _ I h=>Constant_none ⟨.non,H,I,rfl,h⟩
theorem zFI{x j pos}:PE X (.Constant (.str x) j pos) (tC (.str x)):=fun _ _ _ H _ I h=>Calls.Constant_str ⟨.str x,H,I.tok _,⟨_,rfl⟩,h⟩
def Gl(X:Cx)(x:Str):Prop:=X.env.kindOf x=some .globalImplicit
theorem E8{E:Value->Af->Prop}{aa:List (Addr×Obj)}{s:Af}{σ:St}{H:Hp}{x:Str}{u:Value}{pos:Pos}{Q:Value->Af->Prop}(I:cT X aa σ H s)(hg:Gl X x)(hm:X.mg x=some u)(h:Q u s)
  (hd:(x==("__debug__":Str))=false:=by decide):wpAny (model X.prog X.w) X.A (eval (.Name x pos) X.env) Q E s:=
 Kb I.ok.kind hg (Calls.loadGlobal_global (by rw[I.ok.glob];exact I.mod.glob.keeps I.bk) hm h) hd
theorem V0{E:Value->Af->Prop}{aa:List (Addr×Obj)}{s:Af}{σ:St}{H:Hp}{x:Str}{u:Value}{pos:Pos}{Q:Value->Af->Prop}(I:cT X aa σ H s)(hg:Gl X x)(hm:X.mg x=none)(hv:Bj x=some u)(h:Q u s)
  (hn:x≠ "__name__":=by decide) (hd:(x==("__debug__":Str))=false:=by decide):wpAny (model X.prog X.w) X.A (eval (.Name x pos) X.env) Q E s:=by
 obtain⟨mb,h1,h2⟩:=I.mod.blt;exact Kb I.ok.kind hg (Calls.loadGlobal_builtin (by rw[I.ok.glob];exact I.mod.glob.keeps I.bk) hm (by rw[I.ok.blt];exact h1.keeps I.bk) ((h2 x hn).trans hv) h) hd
theorem zCA{x:Str}{v:V}{u:Value}{pos:Pos}(hg:Gl X x)(hm:X.mg x=some u)(r:cB v u)(hd:(x==("__debug__":Str))=false:=by decide):PE X (.Name x pos) (tC v):=
 fun _ _ _ H _ I h=>E8 I hg hm ⟨v,H,I,r,h⟩ hd
theorem zCE{x:Str}{v:V}{u:Value}{pos:Pos}(hg:Gl X x)(hm:X.mg x=none)(hv:Bj x=some u)(r:cB v u)(hn:x≠ "__name__":=by decide) (hd:(x==("__debug__":Str))=false:=by decide):PE X (.Name x pos) (tC v):=
 fun _ _ _ H _ I h=>V0 I hg hm hv ⟨v,H,I,r,h⟩ hn hd
variable{a b:Expr}{ta tb:TE}{pos:Pos}
def tB(t:TE):TT:=fun σ H Q=>t σ H fun x H1=> ∃c,x= .bl c/\Q c H1
theorem zF7{e:Expr}{t:TE}(h:PE X e t)(he: ∀bn,isTrue e X.env bn=(do let v<- bn;standAt e.pos;holding [v] (truthy v)):=by intro _;rfl):PT X e (tB t):=by
 intro aa s σ H Q I hw;refine isTrue_plain (ZW (h aa s σ H _ I hw) fun v s1 ⟨x,H1,I1,r1,q1⟩=> ?_) (he _);obtain⟨d,rfl,q⟩:=q1;cases r1;exact Ek ⟨H1,I1,q⟩
variable{tA tB':TT}{rest:List Expr}
def tAnd(t u:TT):TT:=fun σ H Q=>t σ H fun c H1=>if c=true then u σ H1 Q else Q false H1
def tOr(t u:TT):TT:=fun σ H Q=>t σ H fun c H1=>if c=true then Q true H1 else u σ H1 Q
def tNot(t:TT):TT:=fun σ H Q=>t σ H fun c H1=>Q (!c) H1
theorem zBZ(ha:PT X a tA):PW X (.BoolOp .And [a] pos) tA:=by
 intro wh aa s σ H Q I h;refine isTrue_and (ZW (ha aa s σ H Q I h) fun c s1 e=> ?_);cases c with
 |true=>exact isTrue_and_nil e
 |false=>exact e
theorem zF4(ha:PT X a tA):PW X (.BoolOp .Or [a] pos) tA:=by
 intro wh aa s σ H Q I h;refine isTrue_or (ZW (ha aa s σ H Q I h) fun c s1 e=> ?_);cases c with
 |false=>exact isTrue_or_nil e
 |true=>exact e
theorem zF5(ha:PT X a tA)(hb:PW X (.BoolOp .And (b::rest) pos) tB'):PW X (.BoolOp .And (a::b::rest) pos) (tAnd tA tB'):=by
 intro wh aa s σ H Q I h;refine isTrue_and (ZW (ha aa s σ H _ I h) fun c s1 ⟨H1,I1,q1⟩=> ?_);cases c with
 |true=>exact hb wh aa s1 σ H1 Q I1 q1
 |false=>exact⟨H1,I1,q1⟩
theorem zIJ(ha:PT X a tA)(hb:PW X (.BoolOp .Or (b::rest) pos) tB'):PW X (.BoolOp .Or (a::b::rest) pos) (tOr tA tB'):=by
 intro wh aa s σ H Q I h;refine isTrue_or (ZW (ha aa s σ H _ I h) fun c s1 ⟨H1,I1,q1⟩=> ?_);cases c with
 |true=>exact⟨H1,I1,q1⟩
 |false=>exact hb wh aa s1 σ H1 Q I1 q1
theorem zF8(ha:PT X a tA):PT X (.UnaryOp .Not a pos) (tNot tA):=by
 intro aa s σ H Q I h;exact isTrue_not (ha aa s σ H (fun c H1=>Q (!c) H1) I h)
def zHT(ta tb:TE):TE:=fun σ H Q=>ta σ H fun x H1=> ∃c,x= .bl c/\if c=true then tb σ H1 Q else Q (.bl false) H1
def zHO(ta:TE):TE:=fun σ H Q=>ta σ H fun x H1=> ∃c,x= .bl c/\Q (.bl (!c)) H1
theorem zFJ{op}{t:TE}(h:PE X a t):PE X (.BoolOp op [a] pos) t:=fun aa s σ H Q I hw=>BoolOp_one (h aa s σ H Q I hw)
theorem zFO(ha:PE X a ta)(hb:PE X (.BoolOp .And (b::rest) pos) tb):PE X (.BoolOp .And (a::b::rest) pos) (zHT ta tb):=by
 intro aa s σ H Q I h;refine BoolOp_and (ZW (ha aa s σ H _ I h) fun v s1 ⟨x,H1,I1,r1,q1⟩=> ?_);obtain⟨c,rfl,q1⟩:=q1;cases r1;refine Ek ?_;cases c with
 |true=>exact hb aa s1 σ H1 Q I1 q1
 |false=>exact⟨.bl false,H1,I1,rfl,q1⟩
theorem zFK(ha:PE X a ta):PE X (.UnaryOp .Not a pos) (zHO ta):=by
 intro aa s σ H Q I h;refine UnaryOp_ (ZW (ha aa s σ H _ I h) fun v s1 ⟨x,H1,I1,r1,q1⟩=> ?_);obtain⟨c,rfl,q1⟩:=q1;cases r1;exact not_of (Ek ⟨.bl (!c),H1,I1,rfl,q1⟩)
def tIf(t:TT)(ta tb:TE):TE:=fun σ H Q=>t σ H fun c H1=>if c=true then ta σ H1 Q else tb σ H1 Q
theorem AF{c:Expr}(hc:PT X c tA)(ha:PE X a ta)(hb:PE X b tb):PE X (.IfExp c a b pos) (tIf tA ta tb):=by
 intro aa s σ H Q I h;refine wpAny_IfExp (ZW (hc aa s σ H _ I h) fun d s1 ⟨H1,I1,q1⟩=> ?_);cases d with
 |true=>exact ha aa s1 σ H1 Q I1 q1
 |false=>exact hb aa s1 σ H1 Q I1 q1
end
def X5(K:Ar)(H:Hp)(a:Addr)(xs:List V):Prop:=
 Rd H a (.lst xs)∨
  ∃(o:Obj) (its:Array Value) (n:Nat),K.lookup a=some o/\o.cls= .type "list" /\o.dict=none/\o.data= .seq its n/\its.size<=sizeLine/\b5 xs its.toList
def WS(K:Ar)(H:Hp)(a:Addr)(xs:List V):Prop:=
 Rd H a (.tup xs)∨
  ∃(o:Obj) (its:Array Value) (n:Nat),K.lookup a=some o/\o.cls= .type "tuple" /\o.data= .seq its n/\its.size<=sizeLine/\b5 xs its.toList
noncomputable def absV:Value->Option V
 | .none=>some .non
 | .bool b=>some (.bl b)
 | .int i _=>some (.int i)
 | .str x _=>some (.str x)
 | .bytes b _=>some (.byt b)
 | .float b _=>some (.flt b)
 | .ref a=>some (.ref a)
 | .type n=>some (.ty n)
 |_=>none
theorem cB.abs{x:V}{u:Value}(r:cB x u):absV u=some x:=by
 cases x with
 |non=>cases r;rfl
 |bl _=>cases r;rfl
 |int _=>obtain⟨t,rfl⟩:=r;rfl
 |str _=>obtain⟨t,rfl⟩:=r;rfl
 |byt _=>obtain⟨t,rfl⟩:=r;rfl
 |flt _=>obtain⟨t,rfl⟩:=r;rfl
 |ref _=>cases r;rfl
 |ty _=>cases r;rfl
theorem cB.inj{x y:V}{u:Value}(r:cB x u)(q:cB y u):x=y:=Ck (r.abs.symm.trans q.abs)
theorem b5.inj: ∀{xs ys:List V} {us:List Value},b5 xs us->b5 ys us->xs=ys
 |_,_,_,.nil,.nil=>rfl
 |_,_,_,.cons r t,.cons r' t'=>by rw[r.inj r',b5.inj t t']
section
variable{X:Cx}{aa:List (Addr×Obj)}{σ:St}{H:Hp}{s:Af}{a:Addr}{xs ys:List V}
theorem X5.of{K:Ar}(h:H a=some (.lst xs)):X5 K H a xs:= .inl (.inl h)
theorem WS.of{K:Ar}(h:H a=some (.tup xs)):WS K H a xs:= .inl (.inl h)
theorem cT.list(I:cT X aa σ H s)(h:X5 X.K H a xs): ∃its:List Value,b5 xs its/\PlainL s.heap a its.toArray/\xs.length<=sizeLine:=by
 rcases h with h|⟨o,its,n,hk,hc,hd,hs,hz,r⟩
 ·obtain⟨z,its,n,r,e⟩:=h.ok I.hok
  exact⟨its,r,⟨_,n,e,rfl,rfl,rfl⟩,z⟩
 ·refine ⟨its.toList,r,⟨o,n,I.kIn a o hk,hc,hd,by simpa using hs⟩,?_⟩
  have e:=r.length;simp only[Dx] at e;lia
theorem cT.tuple(I:cT X aa σ H s)(h:WS X.K H a xs): ∃its:List Value,b5 xs its/\IsTup s.heap a its.toArray/\xs.length<=sizeLine:=by
 rcases h with h|⟨o,its,n,hk,hc,hs,hz,r⟩
 ·obtain⟨z,its,r,p⟩:=h.ok I.hok
  exact⟨its,r,p,z⟩
 ·refine ⟨its.toList,r,⟨o,I.kIn a o hk,hc,n,by simpa using hs⟩,?_⟩
  have e:=r.length;simp only[Dx] at e;lia
theorem cT.list_inj(I:cT X aa σ H s)(h:X5 X.K H a xs)(h':X5 X.K H a ys):xs=ys:=by
 obtain⟨its,r,⟨o,n,e,_,_,d⟩,_⟩:=I.list h;obtain⟨its',r',⟨o',n',e',_,_,d'⟩,_⟩:=I.list h';rw[e] at e';cases e';rw[d] at d';injection d' with d1 _;have:its=its':=by simpa using congrArg Rt d1
 subst this;exact r.inj r'
theorem cT.tuple_inj(I:cT X aa σ H s)(h:WS X.K H a xs)(h':WS X.K H a ys):xs=ys:=by
 obtain⟨its,r,⟨o,e,_,n,d⟩,_⟩:=I.tuple h;obtain⟨its',r',⟨o',e',_,n',d'⟩,_⟩:=I.tuple h';rw[e] at e';cases e';rw[d] at d';injection d' with d1 _;have:its=its':=by simpa using congrArg Rt d1
 subst this;exact r.inj r'
end
abbrev Cx.wish(X:Cx)(E:Value->Af->Prop):Cx:={X with xe:=E}
abbrev Cx.nox(X:Cx):Cx:=X.wish fun _ _=>False
theorem Cx.Ok.wish{X:Cx}(ok:X.Ok)(E:Value->Af->Prop):(X.wish E).Ok:=
 ⟨ok.mod,ok.kind,ok.glob,ok.blt,ok.above,ok.inj,ok.has,ok.cab,ok.hd,ok.frames,ok.stk,ok.exf,ok.bs,ok.bsz,ok.noex,ok.exfs,ok.funs,ok.frf⟩
theorem Cx.Ok.unwish{X:Cx}{E:Value->Af->Prop}(ok:(X.wish E).Ok):X.Ok:=
 ⟨ok.mod,ok.kind,ok.glob,ok.blt,ok.above,ok.inj,ok.has,ok.cab,ok.hd,ok.frames,ok.stk,ok.exf,ok.bs,ok.bsz,ok.noex,ok.exfs,ok.funs,ok.frf⟩
section
variable{X:Cx}{aa:List (Addr×Obj)}{σ:St}{H:Hp}{s:Af}{E:Value->Af->Prop}
theorem cT.wish(I:cT X aa σ H s)(E:Value->Af->Prop):cT (X.wish E) aa σ H s:=⟨I.ok.wish E,I.os,I.bare,I.base,I.loc,I.cell,I.free,I.freeC,I.pin,I.hok,I.len⟩
theorem cT.unwish(I:cT (X.wish E) aa σ H s):cT X aa σ H s:=⟨I.ok.unwish,I.os,I.bare,I.base,I.loc,I.cell,I.free,I.freeC,I.pin,I.hok,I.len⟩
theorem SP.unwish{D:GF}{f:Flow}{s':Af}(h:SP (X.wish E) aa D f s'):SP X aa D f s':=by
 cases f with
 |next=>obtain⟨σ',H',I,q⟩:=h;exact⟨σ',H',I.unwish,q⟩
 |brk=>obtain⟨σ',H',I,q⟩:=h;exact⟨σ',H',I.unwish,q⟩
 |cont=>obtain⟨σ',H',I,q⟩:=h;exact⟨σ',H',I.unwish,q⟩
 |ret u=>obtain⟨v,σ',H',I,r,q⟩:=h;exact⟨v,σ',H',I.unwish,r,q⟩
theorem PR.nox{st:List Stmt}{t:TS}(h:PR X.nox st t):PR X st t:=fun aa s σ H D I hw=>
 Bm (h aa s σ H D (I.wish _) hw) (fun _ _ q=>q.unwish) fun _ _ z=>Hb z
end
section
variable{X:Cx}{st:Stmt}{rest:List Stmt}{t u:TS}{e:Expr}{te:TE}{pos:Pos}
def zHP:TS:=fun D σ H=>D.nx σ H
def tSeq(t u:TS):TS:=fun D σ H=>t {D with nx:=u D} σ H
theorem FR:PR X [] zHP:=fun _ _ σ H _ I h=>Mc ⟨σ,H,I,h⟩
theorem JN(h1:PS X st t)(h2:PR X rest u):PR X (st::rest) (tSeq t u):=by
 intro aa s σ H D I h;refine wpAny_execs_cons (ZW (h1 aa s σ H {D with nx:=u D} I h) fun f s1 q=> ?_);cases f with
 |next=>
  obtain⟨σ',H',I',q⟩:=q;exact h2 aa s1 σ' H' D I' q
 |ret v=>exact q
 |brk=>exact q
 |cont=>exact q
theorem cT.quiet{aa:List (Addr×Obj)}{σ:St}{H:Hp}{s:Af}(I:cT X aa σ H s):interactive X.env=false:=by simp[interactive,I.ok.kind]
def zHR(te:TE):TS:=fun D σ H=>te σ H fun _ H1=>D.nx σ H1
theorem FQ(he:PE X e te)(hs:Hn e none pos.line X.env=pure false:=by rfl):PS X (.Expr e pos) (zHR te):=by
 intro aa s σ H D I h;exact wpAny_Expr_any (ZW (he aa s σ H _ I h) fun v s1 ⟨x,H1,I1,r1,q1⟩=>⟨σ,H1,I1,q1⟩) I.quiet hs
def tRet(te:TE):TS:=fun D σ H=>te σ H D.rt
theorem AL(he:PE X e te):PS X (.Return (some e) pos) (tRet te):=by
 intro aa s σ H D I h;exact wpAny_Return_some (ZW (he aa s σ H _ I h) fun v s1 ⟨x,H1,I1,r1,q1⟩=>⟨x,σ,H1,I1,r1,q1⟩)
def tIfS(c:TT)(t u:TS):TS:=fun D σ H=>c σ H fun b H1=>if b=true then t D σ H1 else u D σ H1
theorem zIK{c:Expr}{a b:List Stmt}{tc:TT}(hc:PT X c tc)(ha:PR X a t)(hb:PR X b u):PS X (.If c a b pos) (tIfS tc t u):=by
 intro aa s σ H D I h;refine wpAny_If (ZW (hc aa s σ H _ I h) fun d s1 ⟨H1,I1,q1⟩=> ?_);cases d with
 |true=>exact ha aa s1 σ H1 D I1 q1
 |false=>exact hb aa s1 σ H1 D I1 q1
end
abbrev TG:=V->St->Hp->(St->Hp->Prop)->Prop
abbrev CZ:=List V->St->Hp->(St->Hp->Prop)->Prop
def PG(X:Cx)(ax:Expr)(t:TG):Prop:=
 ∀(aa:List (Addr×Obj)) (s:Af) (σ:St) (H:Hp) (v:V) (u:Value) (Q:St->Hp->Prop),cT X aa σ H s->cB v u->t v σ H Q→
  wpAny (model X.prog X.w) X.A (Gv ax X.env u) (fun _ s'=> ∃σ' H',cT X aa σ' H' s'/\Q σ' H') X.xe s
def EM(X:Cx)(ts:List Expr)(t:CZ):Prop:=
 ∀(aa:List (Addr×Obj)) (s:Af) (σ:St) (H:Hp) (vs:List V) (us:List Value) (Q:St->Hp->Prop),cT X aa σ H s->b5 vs us->t vs σ H Q→
  wpAny (model X.prog X.w) X.A (assignInOrder ((assignEach ts X.env).map (·.2)) us) (fun _ s'=> ∃σ' H',cT X aa σ' H' s'/\Q σ' H') X.xe s
section
variable{X:Cx}{pos:Pos}
def EW(i:Nat):TG:=fun v σ H Q=>Q (σ.set i (some v)) H
theorem UE{i:Nat}{x:Str}(hN:X.N.Nodup)(hi:X.N[i]? =some x)(hx:GI X.env.scope x)(hf:X.fn x=true∨X.env.scope.names.lookup x=some .local:=by first|exact .inl rfl|exact .inr rfl|assumption):PG X (.Name x pos) (EW i):=by
 intro aa s σ H v u Q I r h;exact Ih (YV I hN hi hx r (fun s' I'=>⟨_,H,I',h⟩) hf)
def gNil:CZ:=fun vs σ H Q=>vs=[]/\Q σ H
def zJO(t:TG)(u:CZ):CZ:=fun vs σ H Q=> ∃v r,vs=v::r/\t v σ H fun σ' H'=>u r σ' H' Q
theorem LC:EM X [] gNil:=by
 intro aa s σ H vs us Q I r h;obtain⟨e,h⟩:=h;subst e;cases r;exact Ii ⟨σ,H,I,h⟩
theorem WM{e:Expr}{es:List Expr}{t:TG}{u:CZ}(h1:PG X e t)(h2:EM X es u)
  (hs:(assignEach (e::es) X.env).map (·.2)=Gv e X.env::(assignEach es X.env).map (·.2):=by rfl):EM X (e::es) (zJO t u):=by
 intro aa s σ H vs us Q I r h;obtain⟨v,vr,e1,h⟩:=h;subst e1;cases r with
 |cons r rr=>
  rw[hs];refine Ef (ZW (h1 aa s σ H _ _ _ I r h) fun _ s1 ⟨σ1,H1,I1,q1⟩=> ?_);exact h2 aa s1 σ1 H1 _ _ Q I1 rr q1
def gTup(K:Ar)(n:Nat)(t:CZ):TG:=fun v σ H Q=> ∃a xs,v= .ref a/\WS K H a xs/\xs.length=n/\t xs σ H Q
theorem zFG{es:List Expr}{k:Nat}{t:CZ}{n:Nat}(hc:X.calm=true)(h:EM X es t)
  (hn:(assignEach es X.env).length=n:=by rfl) (hst:(assignEach es X.env).findIdx? (·.1)=none:=by rfl):PG X (.Tuple es k pos) (gTup X.K n t):=by
 intro aa s σ H v u Q I r hw;obtain⟨a,xs,e1,hq,hl,hw⟩:=hw;subst e1;cases r;obtain⟨its,rv,ht,hz⟩:=I.tuple hq;refine assign_Tuple_tuple (I.ok.hd hc) ht (by simp[hn,<- hl,rv.length]) hst fun h' hx=> ?_;have I1:cT X aa σ H {s with heap:=h'}:=I.kept (t':=s.toks) fun b o e=>hx b o (Be (An e)) e;exact h aa _ σ H xs _ Q I1 (by simpa using rv) hw
def tAsg(te:TE)(g:TG):TS:=fun D σ H=>te σ H fun x H1=>g x σ H1 D.nx
theorem LF{tg e:Expr}{te:TE}{g:TG}(he:PE X e te)(hg:PG X tg g)(hs:Fl [tg] e pos.line X.env=pure false:=by rfl)(hw:Fm [tg] e X.env=pure none:=by rfl)
  (h1:(assignEach [tg] X.env).map (·.2)=[Gv tg X.env]:=by rfl):PS X (.Assign [tg] e pos) (tAsg te g):=by
 intro aa s σ H D I h;refine wpAny_Assign_stores (ZW (he aa s σ H _ I h) fun v s1 ⟨x,H1,I1,r1,q1⟩=> ?_) hs hw;rw[h1];exact ZW (hg aa s1 σ H1 x v _ I1 r1 q1) fun _ s2 q=>q
theorem zF9{i:Nat}{x:Str}{e:Expr}{te:TE}{bq:Pos}(hN:X.N.Nodup)(hi:X.N[i]? =some x)(hx:GI X.env.scope x)(he:PE X e te)(hs:Hn e (some (.Name x bq)) pos.line X.env=pure false:=by rfl)(hf:X.fn x=true∨X.env.scope.names.lookup x=some .local:=by first|exact .inl rfl|exact .inr rfl|assumption):
  PS X (.Assign [.Name x bq] e pos) (tAsg te (EW i)):=by
 intro aa s σ H D I h;refine wpAny_Assign_Name (ZW (he aa s σ H _ I h) fun v s1 ⟨y,H1,I1,r1,q1⟩=> ?_) hs;exact YV I1 hN hi hx r1 (fun s2 I2=>⟨_,H1,I2,q1⟩) hf
def tPar(i j:Nat)(ta:TA):TS:=fun D σ H=>ta σ H fun vs H1=> ∃v w,vs=[v,w]/\D.nx ((σ.set i (some v)).set j (some w)) H1
theorem zFA{i j:Nat}{x y:Str}{a b:Expr}{ta:TA}{px py pt:Pos}{kt k2 pt2}(hc:X.calm=true)(hN:X.N.Nodup)(hi:X.N[i]? =some x)(hj:X.N[j]? =some y)(hij:i≠j)
  (hx:X.env.scope.names.lookup x=some .local) (hy:X.env.scope.names.lookup y=some .local) (ha:PA X [a,b] ta)
  (hw:Fm [.Tuple [.Name x px,.Name y py] kt pt] (.Tuple [a,b] k2 pt2) X.env=pure (some [x,y]))
  (hs:Fl [.Tuple [.Name x px,.Name y py] kt pt] (.Tuple [a,b] k2 pt2) pos.line X.env=pure false:=by rfl):
  PS X (.Assign [.Tuple [.Name x px,.Name y py] kt pt] (.Tuple [a,b] k2 pt2) pos) (tPar i j ta):=by
 intro aa s σ H D I h;rw[exec_Assign_arm];refine Ac (Ge ?_);rw[hs];refine Ac (Ak ?_);rw[if_neg (by decide)];refine Ac (Tuple_ (ZW (ha _ aa s σ H _ I h) fun us s1 ⟨vs,H1,I1,r1,q1⟩=> ?_));obtain⟨v,w,e1,q1⟩:=q1;subst e1;obtain⟨u1,u2,rfl,rv,rw'⟩: ∃u1 u2,us=[u1,u2]/\cB v u1/\cB w u2:=by
  cases r1 with
  |cons p q=>
   cases q with
   |cons p' q'=>
    cases q';exact⟨_,_,rfl,p,p'⟩
 refine Cr ?_ (by show 2<=sizeLine;decide);have I2:cT X aa σ H1 {s1 with heap:=s1.heap.push {cls:= .type "tuple",data:= .seq [u1,u2].toArray}}:=I1.kept (t':=s1.toks) fun b o e=>Ad _ e;rw[hw];refine Ac (Ak ?_);show wpAny (model X.prog X.w) X.A (do rule "assign.swapped-stores";let items<- Jm (.ref s1.heap.objs.size) 2 none;assignInOrder [fun v=>Jf X.env y v,fun v=>Jf X.env x v] items.reverse;pure Flow.next) _ _ _;refine Ac (Hj (Ac (Oj (items:= #[u1,u2]) (I.ok.hd hc) (Ks s1.heap _) fun h' hx'=> ?_)));have I3:=I2.kept (h':=h') (t':=s1.toks) fun b o e=>hx' b o (Be (An e)) e;show wpAny _ _ (assignInOrder [fun v=>Jf X.env y v,fun v=>Jf X.env x v] [u2,u1]>>=fun _=>pure Flow.next) _ _ _;refine Ac (Ef (Ir (YV I3 hN hj (.inl hy) rw' (fun s2 I4=> ?_) (.inr hy))));refine Ef (Ir (YV I4 hN hi (.inl hx) rv (fun s3 I5=>Ii (Ak ?_)) (.inr hx)));rw[Eg _ _ (Dr hij)] at I5;exact⟨_,H1,I5,q1⟩
end
section
variable{X:Cx}{pos:Pos}
def zEJ(c:TT)(tb:TS):TS:=fun D σ H=> ∃W:Nat->St->Hp->Prop,(∃m,W m σ H)/\ ∀m σ H,W m σ H→
 c σ H fun b H1=>if b=true then∃N:St->Hp->Prop,(∀σ' H',N σ' H'-> ∃m',m'<m/\W m' σ' H')/\tb {D with nx:=N,ct:=N,bk:=D.nx} σ H1 else D.nx σ H1
theorem AM{c:Expr}{body:List Stmt}{tc:TT}{tb:TS}(hp:Qe (model X.prog X.w) X.A X.env X.xe)(hc:PT X c tc)(hb:PR X body tb):PS X (.While c body [] pos) (zEJ tc tb):=by
 intro aa s σ H D I h;obtain⟨W,⟨m0,w0⟩,turn⟩:=h;refine wpAny_While (codeAny_whileLoop (fun n s'=> ∃σ' H',cT X aa σ' H' s'/\W n σ' H') ?_ m0 ⟨σ,H,I,w0⟩);rintro n s1 ⟨σ1,H1,I1,w1⟩;refine Fx hp (ZW (hc aa s1 σ1 H1 _ I1 (turn n σ1 H1 w1)) fun b s2 ⟨H2,I2,q2⟩=> ?_);cases b with
 |true=>
  obtain⟨N,hN,q2⟩:=q2;rw[if_pos rfl];refine Fx hp (ZW (hb aa s2 σ1 H2 _ I2 q2) fun f s3 q3=> ?_);cases f with
  |next=>
   obtain⟨σ3,H3,I3,n3⟩:=q3;obtain⟨m',hm,w3⟩:=hN σ3 H3 n3;exact⟨m',hm,σ3,H3,I3,w3⟩
  |cont=>
   obtain⟨σ3,H3,I3,n3⟩:=q3;obtain⟨m',hm,w3⟩:=hN σ3 H3 n3;exact⟨m',hm,σ3,H3,I3,w3⟩
  |brk=>exact q3
  |ret v=>exact q3
 |false=>
  rw[if_neg Dt];exact Mc ⟨σ1,H2,I2,q2⟩
end
structure It where
 go:Nat->Hp->Prop
 yld:Nat->Hp->V->Hp->Prop
 stop:Nat->Hp->Prop
def PN(X:Cx)(aa:List (Addr×Obj))(H:Hp)(b:Addr):Prop:=
 H b=none/\b≠X.env.locals/\b∉X.fs/\(b∈X.ex∨X.s₀.heap.objs.size<=b)/\(∀x c,X.env.cells.lookup x=some c->c≠b)/\ ∀p∈X.pn++aa,p.1≠b
theorem cT.fpOk{X:Cx}{aa:List (Addr×Obj)}{σ:St}{H H':Hp}{s:Af}{b:Addr}(I:cT X aa σ H s)(hb:s.heap.objs.size<=b)(hn:H' b=none):PN X aa H' b:=by
 refine⟨hn,Gw (Ax I.lt hb),I.nofs hb,.inr (Cb I.sz hb),fun x c e z=> ?_,fun p hp z=> ?_⟩
 ·obtain⟨v,q⟩:=I.cell x c e
  exact absurd (Ax q.lt (by rw[z];exact hb)) (Cd _)
 ·exact absurd (Ax (An (I.pin p hp).1) (by rw[z];exact hb)) (Cd _)
structure KI(P:Bq)(w:World)(K:Ar)(tg:Expr)(J:It)(fp:List Addr)(it:Addr)(tn:Nat->Heap->Prop):Prop where
 mem:it∈fp
 obj: ∀i h,tn i h-> ∀b∈fp,∃o,h.get? b=some o/\ ∀v,o.data≠ .cell v
 keep: ∀i h h',tn i h->(∀b∈fp,∀o,h.get? b=some o->h'.get? b=some o)->tn i h'
 item: ∀(X:Cx),X.prog=P->X.w=w->X.K=K->X.calm=true-> ∀(i:Nat) (aa:List (Addr×Obj)) (s:Af) (σ:St) (H:Hp) (E:Value->Af->Prop),cT X aa σ H s->(∀b∈fp,PN X aa H b)->tn i s.heap->J.go i H→
  wpAny (model P w) X.A (pyNext (.ref it)) (fun r s1=> ∃u,r=some u∧
   wpAny (model P w) X.A (Ho tg (.ref it) u) (fun _ s2=> ∃x H',cT X aa σ H' s2/\cB x u/\J.yld i H x H'/\tn (i+1) s2.heap/\ ∀b∈fp,H' b=none) E s1) E s
 done: ∀(X:Cx),X.prog=P->X.w=w->X.K=K->X.calm=true-> ∀(i:Nat) (aa:List (Addr×Obj)) (s:Af) (σ:St) (H:Hp) (E:Value->Af->Prop),cT X aa σ H s->(∀b∈fp,PN X aa H b)->tn i s.heap->J.stop i H→
  wpAny (model P w) X.A (pyNext (.ref it)) (fun r s1=>r=none/\cT X aa σ H s1) E s
 self: ∀(A:Cz) (i:Nat) (s:Af) (Q:Value->Af->Prop) (E:Value->Af->Prop),tn i s.heap->Q (.ref it) s->wpAny (model P w) A (pyIter (.ref it)) Q E s
abbrev TI:=St->Hp->(It->Hp->Prop)->Prop
def PIE(X:Cx)(aa:List (Addr×Obj))(σ:St)(tg:Expr)(R:It->Hp->Prop)(itv:Value)(s2:Af):Prop:=
 ∃(it:Addr) (fp:List Addr) (tn:Nat->Heap->Prop) (J:It) (H':Hp),itv= .ref it/\cT X aa σ H' s2/\KI X.prog X.w X.K tg J fp it tn/\tn 0 s2.heap/\(∀b∈fp,PN X aa H' b)/\R J H'
def PI(X:Cx)(tg iter:Expr)(wi:TI):Prop:=
 ∀(aa:List (Addr×Obj)) (s:Af) (σ:St) (H:Hp) (R:It->Hp->Prop),cT X aa σ H s->wi σ H R→
  wpAny (model X.prog X.w) X.A (eval iter X.env) (fun v s1=>wpAny (model X.prog X.w) X.A (pyIter v) (PIE X aa σ tg R) X.xe s1) X.xe s
theorem EY{M:Model}{A:Cz}{E:Value->Af->Prop}{s:Af}{tg:Expr}{it:Addr}{u:Value}{o:Obj}{n:String}{vs:Array Value}{Q:Unit->Af->Prop}(ho:s.heap.get? it=some o)(hc:o.cls= .type n)(hd:o.data= .fields vs)
    (hn:["enumerate","zip","dict_itemiterator","dict_reverseitemiterator","odict_iterator","itertools.zip_longest","itertools.pairwise"].contains n=false) (hQ:Q () s):wpAny M A (Ho tg (.ref it) u) Q E s:=by
  unfold Ho;cases tg<;>first
    |exact Ak hQ
    |(cases u<;>first
        |exact Ak hQ
        | (refine Ac (wpAny_load ho ?_)
           rw[hc,hd];show wpAny M A (if(["enumerate","zip","dict_itemiterator","dict_reverseitemiterator","odict_iterator","itertools.zip_longest","itertools.pairwise"].contains n && vs[0]? ==some (rawInt _))=true then _ else _) Q E s;rw[if_neg (by intro h;rw[hn,Bool.false_and] at h;cases h)];exact Ak hQ))
noncomputable def Itl(K:Ar)(a:Addr):It:=
 ⟨fun i H=> ∃xs x,X5 K H a xs/\xs[i]? =some x,fun i H x H'=>H'=H/\ ∀xs,X5 K H a xs->xs[i]? =some x,fun i H=> ∃xs,X5 K H a xs/\xs.length<=i⟩
noncomputable def Itt(K:Ar)(a:Addr):It:=
 ⟨fun i H=> ∃xs x,WS K H a xs/\xs[i]? =some x,fun i H x H'=>H'=H/\ ∀xs,WS K H a xs->xs[i]? =some x,fun i H=> ∃xs,WS K H a xs/\xs.length<=i⟩
noncomputable def Itr(lo:Int)(n:Nat):It:=⟨fun i _=>i<n,fun i H x H'=>H'=H/\x= .int (lo+i),fun i _=>n<=i⟩
theorem EC{P:Bq}{w:World}{K:Ar}{tg:Expr}(a it:Addr):KI P w K tg (Itl K a) [it] it (fun i h=>h.IsListIter it a i) where
 mem:=by simp
 obj:=fun i h st b hb=>by
  have e:b=it:=by simpa using hb
  subst e;obtain⟨o,e,c,d⟩:=st;exact⟨o,e,fun v z=>by rw[d] at z;cases z⟩
 keep:=fun i h h' st k=>st.at fun o e=>k it (by simp) o e
 item:=by
  intro X hP hw hK hc i aa s σ H E I hf st hg;subst hP hw hK;obtain⟨xs,x,hq,hx⟩:=hg;obtain⟨its,rv,p,hz⟩:=I.list hq;obtain⟨u,hu,ru⟩:=rv.get hx;obtain⟨f0,f1,f2,f3,f4,f5⟩:=hf it (by simp);refine Lv st p.isList (x:=u) (by simpa using hu) fun h' st' sb=> ?_;have I1:cT X aa σ H {s with heap:=h'}:=I.turned (t':=s.toks) (fun b o hb e=>(sb.2 b hb).trans e) f0 f1 f3 f4 f5;obtain⟨o,e,c,d⟩:=id st';exact⟨u,rfl,EY (s:={s with heap:=h'}) e c d (by decide) ⟨x,H,I1,ru,⟨rfl,fun ys hy=>by rw[I.list_inj hy hq];exact hx⟩,st',fun b hb=>(hf b hb).1⟩⟩
 done:=by
  intro X hP hw hK hc i aa s σ H E I hf st hg;subst hP hw hK;obtain⟨xs,hq,hx⟩:=hg;obtain⟨its,rv,p,hz⟩:=I.list hq;obtain⟨f0,f1,f2,f3,f4,f5⟩:=hf it (by simp);have hl:=rv.length;exact Md (I.ok.hd hc) st p.isList (by simp;lia) fun h' eb=>⟨rfl,I.turned (t':=s.toks) (fun b o hb e=>eb b o hb e) f0 f1 f3 f4 f5⟩
 self:=fun _ _ _ _ _ st h=>wpAny_pyIter_listiter st h
theorem HN{P:Bq}{w:World}{K:Ar}{tg:Expr}(a it:Addr):KI P w K tg (Itt K a) [it] it (fun i h=>h.IsTupleIter it a i) where
 mem:=by simp
 obj:=fun i h st b hb=>by
  have e:b=it:=by simpa using hb
  subst e;obtain⟨o,e,c,d⟩:=st;exact⟨o,e,fun v z=>by rw[d] at z;cases z⟩
 keep:=fun i h h' st k=>st.at fun o e=>k it (by simp) o e
 item:=by
  intro X hP hw hK hc i aa s σ H E I hf st hg;subst hP hw hK;obtain⟨xs,x,hq,hx⟩:=hg;obtain⟨its,rv,p,hz⟩:=I.tuple hq;obtain⟨u,hu,ru⟩:=rv.get hx;obtain⟨f0,f1,f2,f3,f4,f5⟩:=hf it (by simp);refine wpAny_pyNext_tuple_item st (show s.heap.IsTuple a its.toArray from p) (x:=u) (by simpa using hu) fun h' st' sb=> ?_;have I1:cT X aa σ H {s with heap:=h'}:=I.turned (t':=s.toks) (fun b o hb e=>(sb.2 b hb).trans e) f0 f1 f3 f4 f5;obtain⟨o,e,c,d⟩:=id st';exact⟨u,rfl,EY (s:={s with heap:=h'}) e c d (by decide) ⟨x,H,I1,ru,⟨rfl,fun ys hy=>by rw[I.tuple_inj hy hq];exact hx⟩,st',fun b hb=>(hf b hb).1⟩⟩
 done:=by
  intro X hP hw hK hc i aa s σ H E I hf st hg;subst hP hw hK;obtain⟨xs,hq,hx⟩:=hg;obtain⟨its,rv,p,hz⟩:=I.tuple hq;obtain⟨f0,f1,f2,f3,f4,f5⟩:=hf it (by simp);have hl:=rv.length;exact wpAny_pyNext_tuple_end (I.ok.hd hc) st (show s.heap.IsTuple a its.toArray from p) (by simp;lia) fun h' eb=>⟨rfl,I.turned (t':=s.toks) (fun b o hb e=>eb b o hb e) f0 f1 f3 f4 f5⟩
 self:=fun _ _ _ _ _ st h=>wpAny_pyIter_tupleiter st h
theorem HM{P:Bq}{w:World}{K:PySem.W.Frag}{tg:Expr}(it:Addr)(lo:Int)(n:Nat):KI P w K tg (Itr lo n) [it] it (fun i h=>Lc h it (lo+(i:Nat)*1) ((n:Int) - (i:Nat)) 1) where
 mem:=by simp
 obj:=fun i h st b hb=>by
  have e:b=it:=by simpa using hb
  subst e;exact⟨_,st,fun v z=>by
   have z':Data.fields _=Data.cell v:=z;cases z'⟩
 keep:=fun i h h' st k=>k it (by simp) _ st
 item:=by
  intro X hP hw hK hc i aa s σ H E I hf st hg;subst hP hw hK;obtain⟨f0,f1,f2,f3,f4,f5⟩:=hf it (by simp);have W:=Sc (prog:=X.prog) (w:=X.w) (I.ok.hd hc) it lo 1 n;refine W.item i s _ _ hg st fun v h' tk hv st' kk=> ?_;obtain⟨t,rfl⟩:=hv;have I1:cT X aa σ H {s with heap:=h',toks:=tk}:=I.turned (fun b o hb e=>kk b o (by simpa using hb) e) f0 f1 f3 f4 f5;refine⟨_,rfl,EY (s:={s with heap:=h',toks:=tk}) (n:= "range_iterator") st' rfl rfl (by decide) ⟨.int (lo+i),H,I1,⟨t,?_⟩,⟨rfl,rfl⟩,st',fun b hb=>(hf b hb).1⟩⟩;rw[Int.mul_one]
 done:=by
  intro X hP hw hK hc i aa s σ H E I hf st hg;subst hP hw hK;obtain⟨f0,f1,f2,f3,f4,f5⟩:=hf it (by simp);exact Lw (I.ok.hd hc) st (by have:n<=i:=hg;lia) fun h' eb=>⟨rfl,I.turned (t':=s.toks) (fun b o hb e=>eb b o hb e) f0 f1 f3 f4 f5⟩
 self:=fun _ _ _ _ _ st h=>Hz st h
section
variable{X:Cx}{tg:Expr}
def zE0(K:Ar)(tl:TE):TI:=fun σ H R=>tl σ H fun x H1=> ∃a,x= .ref a/\(∃xs,X5 K H1 a xs)/\R (Itl K a) H1
def iTup(K:Ar)(tl:TE):TI:=fun σ H R=>tl σ H fun x H1=> ∃a,x= .ref a/\(∃xs,WS K H1 a xs)/\R (Itt K a) H1
theorem zC7{l:Expr}{tl:TE}(hl:PE X l tl):PI X tg l (zE0 X.K tl):=by
 intro aa s σ H R I h;refine ZW (hl aa s σ H _ I h) fun v s1 ⟨x,H1,I1,r1,q1⟩=> ?_;obtain⟨a,e,⟨xs,hq⟩,q⟩:=q1;subst e;cases r1;obtain⟨its,rv,p,hz⟩:=I1.list hq;refine Hc p.isList ?_;refine⟨s1.heap.objs.size,[s1.heap.objs.size],_,_,H1,rfl,I1.kept (t':=s1.toks) fun b o e=>Ad _ e,EC a _,⟨_,As _ rfl,rfl,rfl⟩,fun b hb=> ?_,q⟩;have e:b=s1.heap.objs.size:=by simpa using hb
 subst e;exact I1.fpOk (Ah _) (I1.hok.fresh (Ah _))
theorem zFE{l:Expr}{tl:TE}(hl:PE X l tl):PI X tg l (iTup X.K tl):=by
 intro aa s σ H R I h;refine ZW (hl aa s σ H _ I h) fun v s1 ⟨x,H1,I1,r1,q1⟩=> ?_;obtain⟨a,e,⟨xs,hq⟩,q⟩:=q1;subst e;cases r1;obtain⟨its,rv,p,hz⟩:=I1.tuple hq;refine Hq (show s1.heap.IsTuple a its.toArray from p) ?_;refine⟨s1.heap.objs.size,[s1.heap.objs.size],_,_,H1,rfl,I1.kept (t':=s1.toks) fun b o e=>Ad _ e,HN a _,⟨_,As _ rfl,rfl,rfl⟩,fun b hb=> ?_,q⟩;have e:b=s1.heap.objs.size:=by simpa using hb
 subst e;exact I1.fpOk (Ah _) (I1.hok.fresh (Ah _))
theorem JQ{aa:List (Addr×Obj)}{σ:St}{H:Hp}{s:Af}{R:It->Hp->Prop}{E:Value->Af->Prop}{lo hi:Int}{t u v:Tok}{tk:Nat}(I:cT X aa σ H s)(h1: -(2 ^ 62)<=lo)(h2:lo<2 ^ 62)(h3: -(2 ^ 62)<=hi)(h4:hi<2 ^ 62)
  (q:R (Itr lo (hi - lo).toNat) H):wpAny (model X.prog X.w) X.A (pyIter (.ref s.heap.objs.size)) (PIE X aa σ tg R) E {s with heap:=s.heap.push {cls:= .type "range",data:= .fields #[.int lo t,.int hi u,.int 1 v]},toks:=tk}:=by
 refine wpAny_pyIter_range (Se ..) (small_one h1 h2 h3 h4) ?_;have I1:cT X aa σ H {s with heap:=s.heap.push {cls:= .type "range",data:= .fields #[.int lo t,.int hi u,.int 1 v]},toks:=tk}:=I.kept fun b o e=>Ad _ e;refine⟨(s.heap.push {cls:= .type "range",data:= .fields #[.int lo t,.int hi u,.int 1 v]}).objs.size,[(s.heap.push {cls:= .type "range",data:= .fields #[.int lo t,.int hi u,.int 1 v]}).objs.size],_,_,H,rfl,
  I1.kept (t':=tk) fun b o e=>Ad _ e,HM _ lo (hi - lo).toNat,?_,fun b hb=> ?_,q⟩
 ·have e1 : lo + ((0 : Nat) : Int) * 1 = lo := by simp
  have e2:(((hi - lo).toNat:Nat):Int) - ((0:Nat):Int)=Gf lo hi 1:=by rw[rangeSize_one];split<;>lia
  show Lc _ _ (lo+((0:Nat):Int)*1) ((((hi - lo).toNat:Nat):Int) - ((0:Nat):Int)) 1;rw[e1,e2];exact As _ rfl
 ·have e : b = (s.heap.push { cls := .type "range",data := .fields #[.int lo t,.int hi u,.int 1 v] }).objs.size := by simpa using hb
  subst e;exact I1.fpOk (Ah _) (I1.hok.fresh (Ah _))
def zJJ(ta:TA):TI:=fun σ H R=>ta σ H fun vs H1=> ∃j:Int,vs=[.int j]/\ -(2 ^ 62)<=j/\j<2 ^ 62/\R (Itr 0 j.toNat) H1
def zJI(ta:TA):TI:=fun σ H R=>ta σ H fun vs H1=> ∃i j:Int,vs=[.int i,.int j]/\(-(2 ^ 62)<=i/\i<2 ^ 62/\ -(2 ^ 62)<=j/\j<2 ^ 62)/\R (Itr i (j - i).toNat) H1
theorem DU{a:Expr}{ta:TA}{p pos:Pos}(hg:Gl X "range") (hm:X.mg "range"=none) (ha:PA X [a] ta) (hs:Aj [a] X.env=[(false,eval a X.env)]:=by rfl):PI X tg (.Call (.Name "range" p) [a] [] pos) (zJJ ta):=by
 intro aa s σ H R I h;refine Call_ (V0 I hg hm Rj (Cs (ZW (ha pos aa s σ H _ I h) fun us s1 ⟨vs,H1,I1,r1,q1⟩=> ?_) hs rfl));obtain⟨j,e,q1,q2,q⟩:=q1;subst e;cases r1 with
 |cons r rr=>
  cases rr;obtain⟨t,rfl⟩:=r;exact Pd (JQ I1 (by lia) (by lia) q1 q2 (by simpa using q))
theorem DV{a b:Expr}{ta:TA}{p pos:Pos}(hg:Gl X "range") (hm:X.mg "range"=none) (ha:PA X [a,b] ta) (hs:Aj [a,b] X.env=[(false,eval a X.env),(false,eval b X.env)]:=by rfl) (hs2:Aj [b] X.env=[(false,eval b X.env)]:=by rfl):
  PI X tg (.Call (.Name "range" p) [a,b] [] pos) (zJI ta):=by
 intro aa s σ H R I h;refine Call_ (V0 I hg hm Rj (Cs (ZW (ha pos aa s σ H _ I h) fun us s1 ⟨vs,H1,I1,r1,q1⟩=> ?_) (by rw[hs,hs2]) (by rw[hs2];rfl)));obtain⟨i,j,e,⟨q1,q2,q3,q4⟩,q⟩:=q1;subst e;cases r1 with
 |cons r rr=>
  cases rr with
  |cons r' rr=>
   cases rr;obtain⟨t,rfl⟩:=r;obtain⟨t',rfl⟩:=r';exact call_range_2 (JQ I1 q1 q2 q3 q4 q)
def tFor(wi:TI)(g:TG)(tb:TS):TS:=fun D σ H=>wi σ H fun J H1=> ∃W:Nat->Nat->St->Hp->Prop,(∃m,W 0 m σ H1)/\ ∀i m σ H,W i m σ H→
 (J.stop i H/\D.nx σ H)∨(J.go i H/\ ∃N:St->Hp->Prop,(∀σ' H',N σ' H'-> ∃m',m'<m/\W (i+1) m' σ' H')/\ ∀x H',J.yld i H x H'->g x σ H' fun σ2 H2=>tb {D with nx:=N,ct:=N,bk:=D.nx} σ2 H2)
noncomputable def Q2(fp:List Addr)(h:Heap):List (Addr×Obj):=fp.filterMap fun b=>(h.get? b).map fun o=>(b,o)
theorem YI{fp:List Addr}{h:Heap}{b:Addr}{o:Obj}(hb:b∈fp)(e:h.get? b=some o):(b,o)∈Q2 fp h:=Np.mpr ⟨b,hb,by rw[e];rfl⟩
theorem DS{fp:List Addr}{h:Heap}{p:Addr×Obj}(hp:p∈Q2 fp h):p.1∈fp/\h.get? p.1=some p.2:=by
 obtain⟨b,hb,e⟩:=Np.mp hp;cases q:h.get? b with
 |none=>rw[q] at e;cases e
 |some o=>
  rw[q] at e;have e':(b,o)=p:=Ck e;subst e';exact⟨hb,q⟩
theorem cT.pinned{aa:List (Addr×Obj)}{σ:St}{H:Hp}{s:Af}{fp:List Addr}(I:cT X aa σ H s)(hf: ∀b∈fp,PN X aa H b)(ho: ∀b∈fp,∃o,s.heap.get? b=some o/\ ∀v,o.data≠ .cell v):cT X (aa++Q2 fp s.heap) σ H s:=
 I.pins_of fun p hp=>(Bk.mp hp).elim (fun z=>I.pin p (Bf _ z)) fun z=>by
  obtain⟨hb,e⟩:=DS z;obtain⟨f0,f1,f2,_⟩:=hf p.1 hb;obtain⟨o,e',d⟩:=ho p.1 hb;rw[e] at e';cases e';exact⟨e,f0,f1,f2,d⟩
theorem cT.unpinned{aa pl:List (Addr×Obj)}{σ:St}{H:Hp}{s:Af}(I:cT X (aa++pl) σ H s):cT X aa σ H s:=I.pins_of fun p hp=>I.pin p (Bf _ (Cg _ hp))
theorem zFB{iter:Expr}{body:List Stmt}{wi:TI}{g:TG}{tb:TS}{pos:Pos}(hp:Qe (model X.prog X.w) X.A X.env X.xe)(hc:X.calm=true)(hi:PI X tg iter wi)(hg:PG X tg g)(hb:PR X body tb)
  (hs: ∀x,foldedSetIterable iter X.env x=pure x:=by intro _;rfl):PS X (.For tg iter body [] pos) (tFor wi g tb):=by
 intro aa s σ H D I h;refine wpAny_For (ZW (hi aa s σ H _ I h) fun v s1 h1=>ZW h1 fun itv s2 h2=> ?_) hs;obtain⟨it,fp,tn,J,H2,e,I2,T,st2,f2,W,⟨m0,w0⟩,turn⟩:=h2;subst e;have stat: ∀{H':Hp},(∀b∈fp,H' b=none)-> ∀b∈fp,PN X aa H' b:=fun hn b hb=>⟨hn b hb,(f2 b hb).2⟩;refine codeAny_forLoop_any (fun n s'=> ∃i σ' H',cT X aa σ' H' s'/\tn i s'.heap/\(∀b∈fp,H' b=none)/\W i n σ' H') ?_ m0 ⟨0,σ,H2,I2,st2,fun b hb=>(f2 b hb).1,w0⟩;rintro n s3 ⟨i,σ3,H3,I3,st3,fr3,w3⟩;rcases turn i n σ3 H3 w3 with⟨stop,qn⟩|⟨go,N,hN,step⟩
 ·refine Fx hp (ZW (T.done X rfl rfl rfl hc i aa s3 σ3 H3 X.xe I3 (stat fr3) st3 stop) fun r s4 ⟨hr,I4⟩ => ?_)
  subst hr;exact Mc ⟨σ3,H3,I4,qn⟩
 ·refine Fx hp (ZW (T.item X rfl rfl rfl hc i aa s3 σ3 H3 X.xe I3 (stat fr3) st3 go) fun r s4 ⟨u,hr,h4⟩ => ?_)
  subst hr;refine Fx hp (ZW h4 fun _ s5 ⟨x,H5,I5,r5,y5,st5,fr5⟩=> ?_);have I5':=I5.pinned (stat fr5) (T.obj _ _ st5);refine Fx hp (ZW (hg _ s5 σ3 H5 x u _ I5' r5 (step x H5 y5)) fun _ s6 ⟨σ6,H6,I6,q6⟩=> ?_);refine Fx hp (ZW (hb _ s6 σ6 H6 _ I6 q6) fun f s7 q7=> ?_);have again: ∀{σ7:St} {H7:Hp},cT X (aa++Q2 fp s5.heap) σ7 H7 s7->N σ7 H7-> ∃m,m<n/\ ∃i σ' H',cT X aa σ' H' s7/\tn i s7.heap/\(∀b∈fp,H' b=none)/\W i m σ' H':=fun{σ7 H7} I7 n7=>by
   obtain⟨m',hm,w7⟩:=hN σ7 H7 n7;refine⟨m',hm,i+1,σ7,H7,I7.unpinned,T.keep _ _ _ st5 fun b hb o e=>(I7.pin (b,o) (Bf _ (Bf _ (YI hb e)))).1,fun b hb=> ?_,w7⟩;obtain⟨o,e,d⟩:=T.obj _ _ st5 b hb;exact(I7.pin (b,o) (Bf _ (Bf _ (YI hb e)))).2.1
  cases f with
  |next=>obtain⟨σ7,H7,I7,n7⟩:=q7;exact again I7 n7
  |cont=>obtain⟨σ7,H7,I7,n7⟩:=q7;exact again I7 n7
  |brk=>obtain⟨σ7,H7,I7,q7⟩:=q7;exact⟨σ7,H7,I7.unpinned,q7⟩
  |ret v=>obtain⟨x7,σ7,H7,I7,r7,q7⟩:=q7;exact⟨x7,σ7,H7,I7.unpinned,r7,q7⟩
end
abbrev R2:=V->V->Hp->VK->Prop
def XD(X:Cx)(f:Value->Value->Sem Value)(r:R2):Prop:=
 ∀(aa:List (Addr×Obj)) (s:Af) (σ:St) (H:Hp) (x y:V) (v u:Value) (Q:VK),cT X aa σ H s->cB x v->cB y u->r x y H Q→
  wpAny (model X.prog X.w) X.A (f v u) (EP X aa σ Q) X.xe s
def UnR(X:Cx)(f:Value->Sem Value)(r:V->Hp->VK->Prop):Prop:=
 ∀(aa:List (Addr×Obj)) (s:Af) (σ:St) (H:Hp) (x:V) (v:Value) (Q:VK),cT X aa σ H s->cB x v->r x H Q→
  wpAny (model X.prog X.w) X.A (f v) (EP X aa σ Q) X.xe s
def aX(X:Cx)(f:Value)(r:List V->Hp->VK->Prop):Prop:=
 ∀(aa:List (Addr×Obj)) (s:Af) (σ:St) (H:Hp) (xs:List V) (us:List Value) (Q:VK),cT X aa σ H s->b5 xs us->r xs H Q→
  wpAny (model X.prog X.w) X.A (call f us) (EP X aa σ Q) X.xe s
def tOp(r:R2)(ta tb:TE):TE:=fun σ H Q=>ta σ H fun x H1=>tb σ H1 fun y H2=>r x y H2 Q
def tUn(r:V->Hp->VK->Prop)(ta:TE):TE:=fun σ H Q=>ta σ H fun x H1=>r x H1 Q
def rI(C:Int->Int->Prop)(g:Int->Int->V):R2:=fun x y H Q=> ∃i j,x= .int i/\y= .int j/\C i j/\Q (g i j) H
def HD(g:Int->Int->V):R2:=fun x y H Q=> ∃i j,x= .int i/\y= .int j/\Q (g i j) H
def rU(g:Int->V):V->Hp->VK->Prop:=fun x H Q=> ∃i,x= .int i/\Q (g i) H
section
variable{X:Cx}{a b c:Expr}{ta tb tc:TE}{pos:Pos}
theorem binT(ha:PE X a ta)(hb:PE X b tb){aa:List (Addr×Obj)}{s:Af}{σ:St}{H:Hp}{R:V->V->Hp->Prop}(I:cT X aa σ H s)
  (h:ta σ H fun x H1=>tb σ H1 fun y H2=>R x y H2) {Q:Value->Af->Prop} {f:Value->Value->Sem Value}
  (hf: ∀v u s2 x y H2,cT X aa σ H2 s2->cB x v->cB y u->R x y H2->wpAny (model X.prog X.w) X.A (f v u) Q X.xe s2):
  wpAny (model X.prog X.w) X.A (eval a X.env) (fun v s₁=>wpAny (model X.prog X.w) X.A (eval b X.env) (fun u s₂=>wpAny (model X.prog X.w) X.A (f v u) Q X.xe s₂) X.xe s₁) X.xe s:=by
 refine ZW (ha aa s σ H _ I h) fun v s1 ⟨x,H1,I1,r1,q1⟩=> ?_;refine ZW (hb aa s1 σ H1 _ I1 q1) fun u s2 ⟨y,H2,I2,r2,q2⟩=> ?_;exact hf v u s2 x y H2 I2 r1 r2 q2
theorem zDM{op:Operator}{r:R2}(ho:XD X (Go op) r)(ha:PE X a ta)(hb:PE X b tb):PE X (.BinOp a op b pos) (tOp r ta tb):=by
 intro aa s σ H Q I h;exact wpAny_BinOp (binT ha hb I h fun v u s2 x y H2 I2 rx ry q=>ho aa s2 σ H2 x y v u Q I2 rx ry q)
theorem zIL{op:UnaryOp}{r:V->Hp->VK->Prop}(ho:UnR X (unaryOp op) r)(ha:PE X a ta):PE X (.UnaryOp op a pos) (tUn r ta):=by
 intro aa s σ H Q I h;exact UnaryOp_ (ZW (ha aa s σ H _ I h) fun v s1 ⟨x,H1,I1,r1,q1⟩=>ho aa s1 σ H1 x v Q I1 r1 q1)
theorem opI{f:Value->Value->Sem Value}{C:Int->Int->Prop}{g:Int->Int->Int}
  (rule: ∀(i j:Int) (t u:Tok) (s:Af) (Q:Value->Af->Prop) (E:Value->Af->Prop),C i j->Q (.int (g i j) s.toks) {s with toks:=s.toks+1}->wpAny (model X.prog X.w) X.A (f (.int i t) (.int j u)) Q E s):
  XD X f (rI C fun i j=> .int (g i j)):=by
 intro aa s σ H x y v u Q I rx ry h;obtain⟨i,j,rfl,rfl,hc,q⟩:=h;obtain⟨t,rfl⟩:=rx;obtain⟨t',rfl⟩:=ry;exact rule i j t t' s _ _ hc ⟨.int (g i j),H,I.tok _,⟨_,rfl⟩,q⟩
theorem opI0{f:Value->Value->Sem Value}{g:Int->Int->Int}
  (rule: ∀(i j:Int) (t u:Tok) (s:Af) (Q:Value->Af->Prop) (E:Value->Af->Prop),Q (.int (g i j) s.toks) {s with toks:=s.toks+1}->wpAny (model X.prog X.w) X.A (f (.int i t) (.int j u)) Q E s):
  XD X f (HD fun i j=> .int (g i j)):=by
 intro aa s σ H x y v u Q I rx ry h;obtain⟨i,j,rfl,rfl,q⟩:=h;obtain⟨t,rfl⟩:=rx;obtain⟨t',rfl⟩:=ry;exact rule i j t t' s _ _ ⟨.int (g i j),H,I.tok _,⟨_,rfl⟩,q⟩
theorem opB0{f:Value->Value->Sem Value}{g:Int->Int->Bool}
  (rule: ∀(i j:Int) (t u:Tok) (s:Af) (Q:Value->Af->Prop) (E:Value->Af->Prop),Q (.bool (g i j)) s->wpAny (model X.prog X.w) X.A (f (.int i t) (.int j u)) Q E s):
  XD X f (HD fun i j=> .bl (g i j)):=by
 intro aa s σ H x y v u Q I rx ry h;obtain⟨i,j,rfl,rfl,q⟩:=h;obtain⟨t,rfl⟩:=rx;obtain⟨t',rfl⟩:=ry;exact rule i j t t' s _ _ ⟨.bl (g i j),H,I,rfl,q⟩
def CDiv(i j:Int):Prop:=0<j/\j<1073741824
def CPow(i j:Int):Prop:=0<=j/\j<=1000000/\i.natAbs<2 ^ 64
def CO(i j:Int):Prop:=(-(2 ^ 64)<i/\i<2 ^ 64)∨(-(2 ^ 64)<j/\j<2 ^ 64)
theorem CO.ok{i j:Int}(h:CO i j):IntMulOk i j:=by
 rcases h with⟨h1,h2⟩|⟨h1,h2⟩
 ·exact .of_left (intBits_le_64 h1 h2)
 ·exact .of_right (intBits_le_64 h1 h2)
theorem zFV:XD X (Go .Add) (HD fun i j=> .int (i+j)):=opI0 fun _ _ _ _ _ _ _ q=>add_int q
theorem TM:XD X (Go .Sub) (HD fun i j=> .int (i - j)):=opI0 fun _ _ _ _ _ _ _ q=>sub_int q
theorem zFR:XD X (Go .Mult) (rI CO fun i j=> .int (i*j)):=opI fun _ _ _ _ _ _ _ hc q=>mul_int q hc.ok
theorem FI:XD X (Go .FloorDiv) (rI CDiv fun i j=> .int (i/j)):=opI fun i j _ _ _ _ _ hc q=>by
 have h1:(0:Int)<j:=hc.1;have h2:j<1073741824:=hc.2;exact floordiv_int (by lia) (by rw[Int.fdiv_eq_ediv_of_nonneg i (by lia)];exact q) (.inl (PyProof.noPylong_small (by lia)))
theorem U3:XD X (Go .Mod) (rI (fun _ j=>0<j) fun i j=> .int (i % j)):=opI fun i j _ _ _ _ _ hc q=>by
 have h1:(0:Int)<j:=hc;exact mod_int' (by lia) (by rw[Int.fmod_eq_emod_of_nonneg i (by lia)];exact q)
theorem zFP:XD X (Go .Pow) (rI CPow fun i j=> .int (i ^ j.toNat)):=opI fun _ _ _ _ _ _ _ hc q=>pow_int_small hc.1 hc.2.1 hc.2.2 q
theorem unI{f:Value->Sem Value}{g:Int->Int}
  (rule: ∀(i:Int) (t:Tok) (s:Af) (Q:Value->Af->Prop) (E:Value->Af->Prop),Q (.int (g i) s.toks) {s with toks:=s.toks+1}->wpAny (model X.prog X.w) X.A (f (.int i t)) Q E s):
  UnR X f (rU fun i=> .int (g i)):=by
 intro aa s σ H x v Q I rx h;obtain⟨i,rfl,q⟩:=h;obtain⟨t,rfl⟩:=rx;exact rule i t s _ _ ⟨.int (g i),H,I.tok _,⟨_,rfl⟩,q⟩
theorem zEA:UnR X (unaryOp .USub) (rU fun i=> .int (-i)):=unI fun _ _ _ _ _ q=>neg_int q
end
section
variable{X:Cx}{a b c:Expr}{ta tb tc:TE}{pos:Pos}
theorem K3{aa:List (Addr×Obj)}{σ:St}{H:Hp}{s:Af}{Q:VK}{k k':Bool}(I:cT X aa σ H s)(q:Q (.bl k) H)(e:k=k'):EP X aa σ Q (.bool k') s:=by
 subst e;exact⟨.bl k,H,I,rfl,q⟩
theorem FJ:XD X (Cw .Lt) (HD fun i j=> .bl (decide (i<j))):=opB0 fun _ _ _ _ _ _ _ q=>lt_int q
theorem zA3:XD X (Cw .LtE) (HD fun i j=> .bl (decide (i<=j))):=opB0 fun _ _ _ _ _ _ _ q=>le_int q
theorem zDN:XD X (Cw .Gt) (HD fun i j=> .bl (decide (j<i))):=opB0 fun _ _ _ _ _ _ _ q=>gt_int q
theorem zDO:XD X (Cw .GtE) (HD fun i j=> .bl (decide (j<=i))):=opB0 fun _ _ _ _ _ _ _ q=>ge_int q
theorem zFS:XD X (Cw .Is) (fun x y H Q=>y= .non/\Q (.bl (decide (x= .non))) H):=by
 intro aa s σ H x y v u Q I rx ry h;obtain⟨rfl,q⟩:=h;cases ry;refine is_none_gen (K3 I q ?_);cases x<;>first
  |(cases rx;rfl)
  |(obtain⟨t,rfl⟩:=rx;rfl)
theorem zCG:XD X (Cw .IsNot) (fun x y H Q=>y= .non/\Q (.bl (!decide (x= .non))) H):=by
 intro aa s σ H x y v u Q I rx ry h;obtain⟨rfl,q⟩:=h;cases ry;refine isnot_none_gen (K3 I q ?_);cases x<;>first
  |(cases rx;rfl)
  |(obtain⟨t,rfl⟩:=rx;rfl)
theorem XD.or{f:Value->Value->Sem Value}{r r':R2}(h:XD X f r)(h':XD X f r'):XD X f (fun x y H Q=>r x y H Q∨r' x y H Q):=by
 intro aa s σ H x y v u Q I rx ry q;rcases q with q|q
 ·exact h aa s σ H x y v u Q I rx ry q
 ·exact h' aa s σ H x y v u Q I rx ry q
theorem aK(b:Expr){op:CmpOp}(h:op≠ .In:=by decide)(h2:op≠ .NotIn:=by decide):Hd op b=false:=by
 have e1:(op==CmpOp.In)=false:=by cases op<;>first|rfl|exact absurd rfl h
 have e2:(op==CmpOp.NotIn)=false:=by cases op<;>first|rfl|exact absurd rfl h2
 cases b<;>simp[Hd,e1,e2]
theorem zCC{op:CmpOp}{r:R2}(ho:XD X (Cw op) r)(ha:PE X a ta)(hb:PE X b tb)(hm:Hd op b=false):PE X (.Compare a [op] [b] pos) (tOp r ta tb):=by
 intro aa s σ H Q I h;exact wpAny_Compare1 (binT ha hb I h fun v u s2 x y H2 I2 rx ry q=>ho aa s2 σ H2 x y v u Q I2 rx ry q) hm
def zDD(t:TE):TT:=fun σ H Q=>t σ H fun x H'=> ∃k,x= .bl k/\Q k H'
theorem FS{op:CmpOp}{r:R2}(ho:XD X (Cw op) r)(ha:PE X a ta)(hb:PE X b tb)(hm:Hd op b=false):PT X (.Compare a [op] [b] pos) (zDD (tOp r ta tb)):=by
 intro aa s σ H Q I h;refine wpAny_isTrue_Compare1 (ZW (ha aa s σ H _ I h) fun v s1 ⟨x,H1,I1,r1,q1⟩=>ZW (hb aa s1 σ H1 _ I1 q1) fun u s2 ⟨y,H2,I2,r2,q2⟩=>
  ZW (ho aa s2 σ H2 x y v u _ I2 r1 r2 q2) fun c s3 ⟨z,H3,I3,r3,k,e,q3⟩=> ?_) hm
 subst e;cases r3;exact Ek ⟨H3,I3,q3⟩
def HL(r r':R2)(ta tb tc:TE):TE:=fun σ H Q=>ta σ H fun x H1=>tb σ H1 fun y H2=>r x y H2 fun z H3=> ∃k,z= .bl k∧
 (if k=true then tc σ H3 fun w' H4=>r' y w' H4 Q else Q (.bl false) H3)
theorem zA0{op op':CmpOp}{r r':R2}(ho:XD X (Cw op) r)(ho':XD X (Cw op') r')(ha:PE X a ta)(hb:PE X b tb)(hc:PE X c tc)
  (hm:Qf [op,op'] [b,c]=false:=by with_unfolding_all rfl):PE X (.Compare a [op,op'] [b,c] pos) (HL r r' ta tb tc):=by
 intro aa s σ H Q I h;refine Compare_chain (ZW (ha aa s σ H _ I h) fun v s1 ⟨x,H1,I1,r1,q1⟩=>chain_link (ZW (hb aa s1 σ H1 _ I1 q1) fun u s2 ⟨y,H2,I2,r2,q2⟩=>
  ZW (ho aa s2 σ H2 x y v u _ I2 r1 r2 q2) fun d s3 ⟨z,H3,I3,r3,k,e,q3⟩=> ?_)) hm
 subst e;cases r3;refine Ek ?_;cases k with
 |false=>exact ite_ff ⟨.bl false,H3,I3,rfl,q3⟩
 |true=>exact ite_tt (chain_last (ZW (hc aa s3 σ H3 _ I3 q3) fun w' s4 ⟨z',H4,I4,r4,q4⟩=>ho' aa s4 σ H4 y z' u w' Q I4 r2 r4 q4))
theorem AN{op op':CmpOp}{r r':R2}(ho:XD X (Cw op) r)(ho':XD X (Cw op') r')(ha:PE X a ta)(hb:PE X b tb)(hc:PE X c tc)
  (hm:Qf [op,op'] [b,c]=false:=by with_unfolding_all rfl):PT X (.Compare a [op,op'] [b,c] pos) (zDD (HL r r' ta tb tc)):=by
 intro aa s σ H Q I h;refine isTrue_chain (ZW (ha aa s σ H _ I h) fun v s1 ⟨x,H1,I1,r1,q1⟩=>test_link (ZW (hb aa s1 σ H1 _ I1 q1) fun u s2 ⟨y,H2,I2,r2,q2⟩=>
  ZW (ho aa s2 σ H2 x y v u _ I2 r1 r2 q2) fun d s3 ⟨z,H3,I3,r3,k,e,q3⟩=> ?_)) hm
 subst e;cases r3;refine Ek ?_;cases k with
 |false=>
  obtain⟨k',e',q'⟩:=q3;cases e';exact ite_ff ⟨H3,I3,q'⟩
 |true=>
  refine ite_tt (test_last (ZW (hc aa s3 σ H3 _ I3 q3) fun w' s4 ⟨z',H4,I4,r4,q4⟩=>ZW (ho' aa s4 σ H4 y z' u w' _ I4 r2 r4 q4) fun d' s5 ⟨z2,H5,I5,r5,k2,e2,q5⟩=> ?_));subst e2;cases r5;exact Ek ⟨H5,I5,q5⟩
theorem N7:(sizeLine:Nat)<2 ^ 63:=by rw[Cm];decide
theorem G7:XD X (Go .Add) (fun x y H Q=> ∃i j,x= .str i/\y= .str j/\i.length+j.length<=sizeLine/\Q (.str (i++j)) H):=by
 intro aa s σ H x y v u Q I rx ry h;obtain⟨i,j,rfl,rfl,hz,q⟩:=h;obtain⟨t,rfl⟩:=rx;obtain⟨t',rfl⟩:=ry;exact add_str (fun t' tk=>⟨.str (i++j),H,I.tok _,⟨_,rfl⟩,q⟩) hz
theorem VN{x:V}{us:List Value}(r:b5 [x] us): ∃u,us=[u]/\cB x u:=by
 cases r with
 |cons r1 r2=>cases r2;exact⟨_,rfl,r1⟩
theorem F9{x y:V}{us:List Value}(r:b5 [x,y] us): ∃u w',us=[u,w']/\cB x u/\cB y w':=by
 cases r with
 |cons r1 r2=>
  cases r2 with
  |cons r3 r4=>cases r4;exact⟨_,_,rfl,r1,r3⟩
theorem C3(hc:X.calm=true):aX X (.builtin "max") (fun xs H Q=> ∃i j,xs=[.int i,.int j]/\Q (.int (if j>i then j else i)) H):=by
 intro aa s σ H xs us Q I r h;obtain⟨i,j,rfl,q⟩:=h;obtain⟨u,w',rfl,⟨t,rfl⟩,⟨t',rfl⟩⟩:=F9 r;refine max_two_ints (I.ok.hd hc) fun h' tk k=>⟨_,H,I.kept k,?_,q⟩;by_cases hj:j>i
 ·rw[if_pos hj,if_pos hj];exact⟨_,rfl⟩
 ·rw[if_neg hj,if_neg hj];exact⟨_,rfl⟩
theorem C4(hc:X.calm=true):aX X (.builtin "min") (fun xs H Q=> ∃i j,xs=[.int i,.int j]/\Q (.int (if j<i then j else i)) H):=by
 intro aa s σ H xs us Q I r h;obtain⟨i,j,rfl,q⟩:=h;obtain⟨u,w',rfl,⟨t,rfl⟩,⟨t',rfl⟩⟩:=F9 r;refine min_two_ints (I.ok.hd hc) fun h' tk k=>⟨_,H,I.kept k,?_,q⟩;by_cases hj:j<i
 ·rw[if_pos hj,if_pos hj];exact⟨_,rfl⟩
 ·rw[if_neg hj,if_neg hj];exact⟨_,rfl⟩
end
structure ObjM(h:Heap)(x dx C:Addr)(mA:Str->Option Value):Prop where
 obj:h.get? x=some (Rr C dx)
 ns:h.Ns1 dx mA
 ne:dx≠x
theorem DM{h:Heap}{dx:Addr}{mA:Str->Option Value}(n:h.Ns1 dx mA): ∃od,h.get? dx=some od/\ ∀name,W.lookIn name od=some (mA name):=by
 obtain⟨o,es,ep,ho,hd,hk,_,hm⟩:=n;refine⟨o,ho,fun name=> ?_⟩;have e:=hm name;unfold nsFind findBy at e;rw[<- Array.find?_toList] at e;unfold W.lookIn;rw[hd];dsimp only;split
 ·rename_i y q
  rw[q] at e;exact congrArg some e
 ·rename_i q
  rw[q] at e;have a:es.toList.any (·.refKey)=false:=by
   rw[List.any_eq_false];intro y hy;obtain⟨z,t,mw⟩:=hk y (Array.mem_toList_iff.mp hy);simp[DictEntry.refKey,mw]
  have a': ¬es.toList.any (·.refKey)=true:=by rw[a];exact Dt
  rw[if_neg a'];exact congrArg some e
theorem ObjM.look{h:Heap}{x dx C:Addr}{mA:Str->Option Value}(I:ObjM h x dx C mA): ∃od,W.InstAt h x (Rr C dx) C (some od)/\ ∀name,W.lookIn name od=some (mA name):=
 let ⟨od,ho,hl⟩:=DM I.ns
 ⟨od,⟨I.obj,rfl,rfl,ho⟩,hl⟩
theorem QL.some_of{v:V}{o:Option Value}(r:QL (some v) o): ∃u,o=some u/\cB v u:=by
 cases o with
 |none=>exact(show False from r).elim
 |some u=>exact⟨u,rfl,r⟩
section
variable{P:Bq}{w:World}{H H':Hp}{h h':Heap}{a C dx:Addr}{fs fs':List (Str×V)}
theorem zCY(hok:SR P w H h)(e:H a=some (.ins C dx fs)): ∃mA,ObjM h a dx C mA/\(∀f,QL (fs.lookup f) (mA f))/\Rs mA (fs.map (·.1))/\fs.length<=1000/\H dx=some (.own a):=by
 obtain⟨d,z,ne,ob,mA,n,r,q⟩:=(show aA P w H h a (.ins C dx fs) from hok a _ e);exact⟨mA,⟨ob,n,ne⟩,r,q,z,d⟩
end
structure Cls(K:Ar)(C:Addr):Prop where
 pg:W.plainGet K C Str.empty=true
 hd:W.hasDictIn K C=true
 po:W.plainOver K C=true
 sa:W.findIn K (.ref C) "__setattr__"=some (some (.builtin "object.__setattr__"))
theorem Cls.get{K:Ar}{C:Addr}(c:Cls K C)(f:Str):W.plainGet K C f=true:=c.pg
section
variable{X:Cx}{aa:List (Addr×Obj)}{σ:St}{H:Hp}{s:Af}{A:Cz}{E:Value->Af->Prop}{Q:Value->Af->Prop}{c:Value}{b:Bool}
inductive PU(K:Ar)(H:Hp):V->Value->Prop where
 |non:PU K H .non (.type "NoneType")
 |bl (x:Bool):PU K H (.bl x) (.type "bool")
 |int (i:Int):PU K H (.int i) (.type "int")
 |str (x:Str):PU K H (.str x) (.type "str")
 |flt (x:UInt64):PU K H (.flt x) (.type "float")
 |lst {a:Addr} {xs:List V} (e:H a=some (.lst xs)):PU K H (.ref a) (.type "list")
 |frz {a:Addr} {o:Obj} {xs:List V} (e:H a=some (.frz o (.lst xs))):PU K H (.ref a) (.type "list")
 |tup {a:Addr} {xs:List V} (e:H a=some (.tup xs)):PU K H (.ref a) (.type "tuple")
 |dK {a:Addr} {kvs:List (bV×V)} (e:H a=some (.dK kvs)):PU K H (.ref a) (.type "dict")
 |dT {a:Addr} {kvs:List (List bV×V)} (e:H a=some (.dT kvs)):PU K H (.ref a) (.type "dict")
 |ins {a C dx:Addr} {fs:List (Str×V)} (e:H a=some (.ins C dx fs)) (cl:Cls K C) (ha:W.findIn K (.ref C) "__class__"=some (some (.builtin "object.__class__")))
   (hn:W.specialIn K (.builtin "object.__class__") "__get__"=some (some (.builtin "getset_descriptor.__get__"))) (htk:W.takesIn K (.builtin "object.__class__")=some true)
   (hm:W.mroIn K C (.type "object")=some true):PU K H (.ref a) (.ref C)
theorem UA{x:V}{u t:Value}(I:cT X aa σ H s)(rx:cB x u)(ty:PU X.K H x t)(e:W.kitOne X.K t c=some b)(h: ∀tk,Q (.bool b) {s with toks:=tk}):
  wpAny (model X.prog X.w) A (call (.builtin "isinstance") [u,c]) Q E s:=by
 cases ty with
 |non=>cases (show u=Value.none from rx);exact Fy W.kitx_none I.kIn True.intro e (fun z=>nomatch z) h
 |bl y=>cases (show u=Rh y from rx);exact Fy W.kitx_bool I.kIn True.intro e (fun z=>nomatch z) h
 |int i=>obtain⟨t,q⟩:=(show∃t,u=Qb i t from rx);cases q;exact Fy W.kitx_int I.kIn True.intro e (fun z=>nomatch z) h
 |str y=>obtain⟨t,q⟩:=(show∃t,u=Qc y t from rx);cases q;exact Fy W.kitx_str I.kIn True.intro e (fun z=>nomatch z) h
 |flt y=>obtain⟨t,q⟩:=(show∃t,u=Sb y t from rx);cases q;exact Fy W.kitx_float I.kIn True.intro e (fun z=>nomatch z) h
 | @lst a xs ea=>
  cases (show u=Bo a from rx);obtain⟨_,_,n,_,h1⟩:=(show aA X.prog X.w H s.heap a (.lst xs) from I.hok a _ ea);exact Fy Nb I.kIn ⟨_,h1,rfl⟩ e (fun z=>nomatch z) h
 | @frz a ob xs ea=>
  cases (show u=Bo a from rx);obtain⟨_,_,_,n,_,h1⟩:=(show aA X.prog X.w H s.heap a (.frz ob (.lst xs)) from I.hok a _ ea);exact Fy Nb I.kIn ⟨_,h1,rfl⟩ e (fun z=>nomatch z) h
 | @tup a xs ea=>
  cases (show u=Bo a from rx);obtain⟨_,_,_,p⟩:=(show aA X.prog X.w H s.heap a (.tup xs) from I.hok a _ ea);obtain⟨o,h1,h2,_⟩:=p;exact Fy W.kitx_tuple I.kIn ⟨o,h1,h2⟩ e (fun z=>nomatch z) h
 | @dK a kvs ea=>
  cases (show u=Bo a from rx);obtain⟨_,_,vs,_,p⟩:=(show aA X.prog X.w H s.heap a (.dK kvs) from I.hok a _ ea);obtain⟨o,es,ep,h1,h2,_⟩:=p;exact Fy W.kitx_dict I.kIn ⟨o,h1,h2.1⟩ e (fun z=>nomatch z) h
 | @dT a kvs ea=>
  cases (show u=Bo a from rx);obtain⟨_,_,xs,_,o,es,ep,h1,h2,_⟩:=(show aA X.prog X.w H s.heap a (.dT kvs) from I.hok a _ ea);exact Fy W.kitx_dict I.kIn ⟨o,h1,h2.1⟩ e (fun z=>nomatch z) h
 | @ins a C dx fs ea cl ha hn htk hm=>
  cases (show u=Bo a from rx);obtain⟨mA,O,_⟩:=zCY I.hok ea;obtain⟨od,J,_⟩:=O.look;exact Fy (W.kitx_own (cl.get _) cl.hd ha hn htk hm) I.kIn J e (fun z=>nomatch z) h
end
structure XO(k:Nat)(A:Cz):Prop where
 hd:A.handled=none
 dp:A.depth+3*k+5<recursionLimit
 un:A.units+16*k+200<cLine
theorem XO.mono{j k:Nat}{A:Cz}(r:XO k A)(h:j<=k):XO j A:=⟨r.hd,by have:=r.dp;lia,by have:=r.un;lia⟩
theorem XO.deeper{k:Nat}{A:Cz}(r:XO (k+1) A)(env:Env):XO k (A.deeper env):=
 ⟨r.hd,by have:=r.dp;show A.depth+1+3*k+5<_;lia,by have:=r.un;show A.units+3+16*k+200<_;lia⟩
theorem XO.depth{k:Nat}{A:Cz}(r:XO k A):A.depth<recursionLimit:=by have:=r.dp;lia
theorem XO.units{k:Nat}{A:Cz}(r:XO k A):A.units+64<cLine:=by have:=r.un;lia
def BL:TA:=fun _ H Q=>Q [] H
def MS(ta:TE)(tr:TA):TA:=fun σ H Q=>ta σ H fun x H1=>tr σ H1 fun xs H2=>Q (x::xs) H2
section
variable{X:Cx}{e:Expr}{es:List Expr}{te:TE}{t:TA}{pos:Pos}
theorem aH:PA X [] BL:=fun _ _ _ _ H Q I h=>Fz ⟨[],H,I,.nil,h⟩
theorem cE(ha:PE X e te)(hr:PA X es t)(hs:Aj (e::es) X.env=(false,eval e X.env)::Aj es X.env:=by rfl):PA X (e::es) (MS te t):=by
 intro pos aa s σ H Q I h;rw[hs];show wpAny _ _ (spliced ((false,eval e X.env)::Gh pos (Aj es X.env))) _ _ s;refine Es (ZW (ha aa s σ H _ I h) fun u s1 ⟨x,H1,I1,r1,q1⟩=> ?_);exact ZW (hr pos aa s1 σ H1 _ I1 q1) fun us s2 ⟨xs,H2,I2,r2,q2⟩=>⟨x::xs,H2,I2,.cons r1 r2,q2⟩
def tTup(t:TA):TE:=fun σ H Q=>t σ H fun xs H1=>xs.length<=sizeLine/\ ∀p,H1 p=none->Q (.ref p) (bN H1 p (.tup xs))
def tLst(t:TA):TE:=fun σ H Q=>t σ H fun xs H1=>xs.length<=sizeLine/\ ∀p,H1 p=none->Q (.ref p) (bN H1 p (.lst xs))
theorem G9{x1}(h:PA X es t):PE X (.Tuple es x1 pos) (tTup t):=by
 intro aa s σ H Q I hq;refine wpAny_Tuple_spliced (ZW (h pos aa s σ H _ I hq) fun us s1 ⟨xs,H1,I1,r,z,q⟩=>⟨by rw[<- r.length];exact z,?_⟩);have hf:H1 s1.heap.objs.size=none:=I1.hok.fresh (Ah _);refine⟨.ref s1.heap.objs.size,bN H1 s1.heap.objs.size (.tup xs),I1.laid (t':=s1.toks) (fun b u e=>Ad _ e) (Ah _) ?_,rfl,q _ hf⟩;exact⟨z,us,r,⟨_,As _ rfl,rfl,_,rfl⟩⟩
theorem zFM(h:PA X es t):PE X (.List es pos) (tLst t):=by
 intro aa s σ H Q I hq;refine wpAny_List_spliced (ZW (h pos aa s σ H _ I hq) fun us s1 ⟨xs,H1,I1,r,z,q⟩=>⟨by rw[<- r.length];exact z,?_⟩);have hf:H1 s1.heap.objs.size=none:=I1.hok.fresh (Ah _);refine⟨.ref s1.heap.objs.size,bN H1 s1.heap.objs.size (.lst xs),I1.laid (t':=s1.toks) (fun b u e=>Ad _ e) (Ah _) ?_,rfl,q _ hf⟩;exact⟨z,us,0,r,As _ rfl⟩
end
abbrev Sp:=List V->Hp->VK->XK->Prop
abbrev CXT:=List Env->Hp->Af->XK->Value->Af->Prop
structure Env0(P:Bq)(w:World)(K:Ar)(mg:Str->Option Value)(base:Heap)(A:Cz)(outer:List Env)(s:Af)(H:Hp):Prop where
 frames:A.frames=some outer
 mod:Mod K mg base
 bs: ∀b o,base.get? b=some o->s.heap.get? b=some o/\H b=none
 bsz:base.objs.size<=s.heap.objs.size
 funs:s.heap.FunFrames base outer
 frf: ∀b∈DG outer,H b=none
 hok:SR P w H s.heap
 bare:Mb s.gens
def CE(outer:List Env)(P:Bq)(w:World)(H:Hp)(s:Af)(Q:VK)(u:Value)(s':Af):Prop:=
 ∃v H',s'.os=s.os/\Mb s'.gens/\Un (DG outer) [] H H' s.heap s'.heap/\SR P w H' s'.heap/\cB v u/\Q v H'
def CR(CX:CXT)(outer:List Env)(P:Bq)(w:World)(H:Hp)(s:Af)(Q:VK)(E:XK)(r:Ru)(s':Af):Prop:=
 match r with
 | .ok (.ret u)=>CE outer P w H s Q u s'
 | .ok _=>False
 | .error e=>CX outer H s E e s'
structure aG(P:Bq)(w:World)(K:Ar)(mg:Str->Option Value)(base:Heap)(CX:CXT)(k:Nat)(f:Addr)(fd:Gp)(ps:List Str)(sp:Sp):Prop where
 len: ∀vs H Q E,sp vs H Q E->vs.length=ps.length
 run: ∀(A:Cz) (outer:List Env) (s:Af) (H:Hp) (args:Args) (us:List Value) (vs:List V) (Q:VK) (E:XK),XO k A->Env0 P w K mg base A outer s H->Qg s fd args (ps.zip us)->b5 vs us->sp vs H Q E→
  Jn (model P w) A (.call (.ref f) args) (CR CX outer P w H s Q E) s
section
variable{X:Cx}{aa:List (Addr×Obj)}{σ:St}{H:Hp}{s s':Af}
theorem cT.env0(I:cT X aa σ H s):Env0 X.prog X.w X.K X.mg X.base X.A X.stack s H:=
 ⟨I.ok.frames,I.ok.mod,I.bs,Cb I.ok.bsz I.sz,I.stack,I.stkFree,I.hok,I.bare⟩
theorem cT.after{Q:VK}{u:Value}(I:cT X aa σ H s)(h:CE X.stack X.prog X.w H s Q u s'):EP X aa σ Q u s':=by
 obtain⟨v,H',os,bare,un,hok,r,q⟩:=h;obtain⟨hh,g,d,t,os'⟩:=s';obtain rfl:os'=s.os:=os;exact⟨v,H',I.call (h':=hh) (g':=g) (d':=d) (t':=t) (ch:=[]) un hok bare (fun b z=>absurd z (by simp)),r,q⟩
end
def BK(sp:Sp)(dvs:List V)(E:XK)(t:TA):TE:=fun σ H Q=>t σ H fun vs H1=>sp (vs++dvs) H1 Q E
def LP(K:Ar)(fd:Gp)(ps:List Str)(ds:List Value):Prop:=
 ∀(s:Af) (us:List Value),K.In s.heap->(us++ds).length=ps.length->Qg s fd ⟨us,[]⟩ (ps.zip (us++ds))
theorem LP.all{K:Ar}{fd:Gp}{ps:List Str}(h: ∀us:List Value,us.length=ps.length->bindArgs fd ⟨us,[]⟩=pure (ps.zip us)):LP K fd ps []:=fun s us _ hl=>by
 rw[Db] at hl⊢;exact .of_eq (h us hl)
def GJ(CX:CXT)(X:Cx)(E:XK):Prop:= ∀(aa:List (Addr×Obj)) (σ:St) (H:Hp) (s:Af) (e:Value) (s':Af),cT X aa σ H s->CX X.stack H s E e s'->X.xe e s'
section
variable{X:Cx}{CX:CXT}{k:Nat}{f C:Addr}{fd:Gp}{ps:List Str}{sp:Sp}{dvs:List V}{ds:List Value}{E:XK}{x m:Str}{p pos ai:Pos}{e o:Expr}{es:List Expr}{ta:TE}{t:TA}
theorem zEY{aa:List (Addr×Obj)}{σ:St}{H:Hp}{s:Af}{Q:VK}{us:List Value}{vs:List V}(F:aG X.prog X.w X.K X.mg X.base CX k f fd ps sp)(hr:XO k X.A)(hb:LP X.K fd ps ds)(hd:b5 dvs ds)(hx:GJ CX X E)
  (I:cT X aa σ H s) (r:b5 vs us) (h:sp (vs++dvs) H Q E):wpAny (model X.prog X.w) X.A (call (.ref f) us) (EP X aa σ Q) X.xe s:=by
 have r2:b5 (vs++dvs) (us++ds):=r.append hd;have hl:(us++ds).length=ps.length:=by rw[<- r2.length];exact F.len _ _ _ _ h
 refine wpAny_call (Pe (F.run X.A X.stack s H ⟨us,[]⟩ (us++ds) (vs++dvs) Q E hr I.env0 (hb s us I.kIn hl) r2 h) fun r s' hq=> ?_);cases r with
 |error e=>exact hx aa σ H s e s' I hq
 |ok fl=>
  cases fl with
  |ret u=>exact I.after hq
  |next=>exact Hb hq
  |brk=>exact Hb hq
  |cont=>exact Hb hq
theorem zCD(F:aG X.prog X.w X.K X.mg X.base CX k f fd ps sp)(hr:XO k X.A)(hg:Gl X x)(hm:X.mg x=some (.ref f))(hk:Mq X.K (.ref f)=true)(hb:LP X.K fd ps ds)(hd:b5 dvs ds)(hx:GJ CX X E)
  (ha:PA X (e::es) t) (hdb:(x==("__debug__":Str))=false:=by decide) (he:Aj (e::es) X.env=(false,eval e X.env)::Aj es X.env:=by rfl) (hpl:(Gh pos (Aj es X.env)).any (·.1)=false:=by rfl):
  PE X (.Call (.Name x p) (e::es) [] pos) (BK sp dvs E t):=by
 intro aa s σ H Q I h;refine Gq (E8 I hg hm ?_ hdb);refine W.callWith_K (h₀:=X.base) I.ok.mod.kin hk (ZW (ha pos aa s σ H _ I h) fun us s1 ⟨vs,H1,I1,r,q⟩=>⟨I1.kIn,?_⟩) he hpl;exact zEY F hr hb hd hx I1 r q
end
structure cJ(N P:List Str)(sc:Scope):Prop where
 kind:sc.kind= .function
 co:sc.isCoroutine=false
 gen:sc.isGenerator=false
 nd:N.Nodup
 pre:N.take P.length=P
 par: ∀x∈P,sc.names.lookup x=some .local∨sc.names.lookup x=some .cell
 nofree: ∀y∈sc.names,y.2≠ .free
theorem LZ{kindOf:Str->Option NameKind}{x:Str}: ∀{binds:List (Str×Value)} {m:Str->Option Value},(∀v,(x,v)∉binds)->bindL kindOf binds m x=m x
 |[],_,_=>rfl
 | (n,v) :: r,m,h => by
  unfold bindL;rw[LZ fun w hw=>h w (Ap _ hw)];split
  ·have : x ≠ n := by rintro rfl;exact h v Au
   simp[this]
  ·rfl
theorem LX{kindOf:Str->Option NameKind}{x:Str}: ∀{binds:List (Str×Value)} {m:Str->Option Value},(∀v,(x,v)∉binds)->bindC kindOf binds m x=m x
 |[],_,_=>rfl
 | (n,v) :: r,m,h => by
  unfold bindC;rw[LX fun w hw=>h w (Ap _ hw)];split
  ·rfl
  ·have : x ≠ n := by rintro rfl;exact h v Au
   simp[this]
theorem LY{kindOf:Str->Option NameKind}{x:Str}{v:Value}: ∀{P:List Str} {vs:List Value} {i:Nat} {m:Str->Option Value},P.Nodup->P[i]? =some x->vs[i]? =some v->kindOf x=some .local→
  bindL kindOf (P.zip vs) m x=some v
 |[],_,_,_,_,h,_,_=>by simp at h
 |_::_,[],_,_,_,_,h,_=>by simp at h
 |p::P,w::vs,0,m,nd,h1,h2,hk=>by
  simp at h1 h2;subst h1;subst h2;show bindL kindOf ((p,w)::P.zip vs) m p=_;unfold bindL;rw[LZ fun v hv=>(Cq.mp nd).1 (Me hv).1,if_pos hk];simp
 |p::P,w::vs,i+1,m,nd,h1,h2,hk=>by
  show bindL kindOf ((p,w)::P.zip vs) m x=_;unfold bindL;exact LY (i:=i) (Cq.mp nd).2 (by simpa using h1) (by simpa using h2) hk
theorem LW{kindOf:Str->Option NameKind}{x:Str}{v:Value}: ∀{P:List Str} {vs:List Value} {i:Nat} {m:Str->Option Value},P.Nodup->P[i]? =some x->vs[i]? =some v->kindOf x≠some .local→
  bindC kindOf (P.zip vs) m x=some v
 |[],_,_,_,_,h,_,_=>by simp at h
 |_::_,[],_,_,_,_,h,_=>by simp at h
 |p::P,w::vs,0,m,nd,h1,h2,hk=>by
  simp at h1 h2;subst h1;subst h2;show bindC kindOf ((p,w)::P.zip vs) m p=_;unfold bindC;rw[LX fun v hv=>(Cq.mp nd).1 (Me hv).1,if_neg hk];simp
 |p::P,w::vs,i+1,m,nd,h1,h2,hk=>by
  show bindC kindOf ((p,w)::P.zip vs) m x=_;unfold bindC;exact LW (i:=i) (Cq.mp nd).2 (by simpa using h1) (by simpa using h2) hk
noncomputable def start(N:List Str)(vs:List V):St:=vs.map some++Bd (N.length - vs.length) none
noncomputable def IE(CX:CXT)(P:Bq)(w:World)(K:Ar)(mg:Str->Option Value)(base:Heap)(N:List Str)(qual:Str)(scope:Scope)(f:Addr)(cd:Value)(A:Cz)(outer:List Env)(s:Af)(H:Hp)(E:XK):Cx where
 prog:=P
 w:=w
 K:=K
 mg:=mg
 base:=base
 A:=A.deeper (Lp qual scope s.heap.objs.size f cd)
 N:=N
 s₀:=s
 H₀:=H
 env:=Lp qual scope s.heap.objs.size f cd
 outer:=outer
 stack:=Lp qual scope s.heap.objs.size f cd::outer
 ex:=[]
 calm:=true
 fn:=fun _=>true
 pn:=[]
 xe:=fun e s'=>wpAny (model P w) (A.deeper (Lp qual scope s.heap.objs.size f cd)) (leaving (Lp qual scope s.heap.objs.size f cd) e) (fun _ s''=>CX outer H s E e s'') (fun e' s''=>CX outer H s E e' s'') s'
theorem IB{sc:Scope}{n:Nat}{x:Str}(h:sc.names.lookup x=some .cell): ∃c,(cellsFrom n sc.names []).lookup x=some c:=by
 have q:=Pk sc.names n [] (.inl h);exact Option.isSome_iff_exists.mp q
theorem DI{CX:CXT}{P:Bq}{w:World}{K:Ar}{mg:Str->Option Value}{base:Heap}{N ps:List Str}{qual:Str}{scope:Scope}{f:Addr}{cd:Value}{A:Cz}{outer:List Env}{s s1:Af}{H:Hp}{E:XK}{us:List Value}{vs:List V}
  (S:cJ N ps scope) (hd:A.handled=none) (e0:Env0 P w K mg base A outer s H) (hl:vs.length=ps.length) (r:b5 vs us)
  (x:InCallC s s.heap.objs.size (bindL (Lp qual scope s.heap.objs.size f cd).kindOf (ps.zip us) fun _=>none) (cellsFrom (s.heap.objs.size+1) scope.names []) (bindC (Lp qual scope s.heap.objs.size f cd).kindOf (ps.zip us) fun _=>none) s1):
  cT (IE CX P w K mg base N qual scope f cd A outer s H E) [] (start N vs) H s1:=by
 have hpl:ps.length<=N.length:=by have:=congrArg List.length S.pre;rw[Bu] at this;lia
 obtain⟨h1,tk,rfl,hk⟩:=x.done;have noA: ∀b:Addr,b∉(IE CX P w K mg base N qual scope f cd A outer s H E).ex:=fun b z=>absurd (show b∈([]:List Addr) from z) (by simp);refine⟨⟨e0.mod,S.kind,rfl,rfl,Ah _,fun y z c h1 h2=> ?_,fun y hy=> ?_,fun y c _ h=> ?_,fun _=>hd,Around.frames_deeper e0.frames,.inr ⟨rfl,rfl⟩,fun b z=>absurd z (noA b),e0.bs,e0.bsz,fun b _ _=>noA b,fun b z=>absurd z (noA b),e0.funs,e0.frf⟩,
  rfl,e0.bare,Un.kept hk,⟨_,x.toInCall.ns,fun i y v h1 h2 h3=> ?_⟩,fun y c h=>⟨_,x.cell y c h⟩,e0.hok.fresh (Ah _),fun y c h=> ?_,fun p hp=>absurd (show p∈([]:List (Addr×Obj)) from hp) (by simp),e0.hok.kept hk,?_⟩
 ·exact name_of_addr x.apart (Br h1) (Br h2)
 ·have hy:scope.names.lookup y=some .cell∨scope.names.lookup y=some .free:=hy
  rcases hy with hy|hy
  ·exact IB hy
  ·exact absurd rfl (S.nofree _ (Br hy))
 ·exact Df (x.above y c (Br h))
 ·have hi:i<vs.length:=by
   unfold start at h2;by_cases hi:i<vs.length
   ·exact hi
   ·rw [Bw (by simpa using hi)] at h2
    rw[Cy] at h2;split at h2<;>cases h2
  have ha:vs[i]? =some v:=by
   unfold start at h2;rw[Am (by simpa using hi),Co] at h2;cases e:vs[i]? with
   |none=>rw[e] at h2;cases h2
   |some a=>rw[e] at h2;cases h2;rfl
  obtain⟨u,hu,rv⟩:=r.get ha;have hp:ps[i]? =some y:=by rw[<- S.pre,Ce (by lia)];exact h1
  have ndP:ps.Nodup:=by rw[<- S.pre];exact S.nd.sublist (List.take_sublist _ _)
  refine⟨u,rv,?_⟩;rcases S.par y (Eh hp) with k|k
  ·exact .inl ⟨k,LY ndP hp hu k⟩
  ·obtain⟨c,e⟩:=IB (n:=s.heap.objs.size+1) k
   refine .inr ⟨.inl k,c,e,?_⟩;have q:=x.cell y c e;rw[LW ndP hp hu (by show scope.names.lookup y≠_;rw[k];decide)] at q;exact q
 ·exact e0.hok.fresh (Df (x.above y c (Br h)))
 ·unfold start
  show _=N.length;rw[Cf,Bt,Iu];lia
theorem zJP{CX:CXT}{P:Bq}{w:World}{K:Ar}{mg:Str->Option Value}{base:Heap}{k:Nat}{f:Addr}{name qual:Str}{params:Arguments}{body:List Stmt}{scope:Scope}{dV kV doc pm cdv ct oc:Value}{an od:Option Addr}
  {osl:Array (Option Value)} {N ps:List Str} {sp:Sp} (lk:K.lookup f=some ⟨oc,od,.func (Mx name qual params body scope dV kV doc pm an cdv ct),osl⟩) (hcd:Nq K cdv qual=true) (S:cJ N ps scope)
  (len: ∀vs H Q E,sp vs H Q E->vs.length=ps.length)
  (ca: ∀(A:Cz) (outer:List Env) (s:Af) (H:Hp) (vs:List V) (Q:VK) (E:XK),XO k (A.deeper (Lp qual scope s.heap.objs.size f cdv))->sp vs H Q E→
   ∃t,PR (IE CX P w K mg base N qual scope f cdv A outer s H E) body t/\t {nx:=fun _ H'=>Q .non H',rt:=Q} (start N vs) H):
  aG P w K mg base CX (k+1) f (Mx name qual params body scope dV kV doc pm an cdv ct) ps sp:=by
 refine⟨len,fun A outer s H args us vs Q E hr e0 hb r hsp=> ?_⟩;have hl:=len _ _ _ _ hsp;have KX:K.In s.heap:=e0.mod.kin.keeps fun b o e=>(e0.bs b o e).1;have lim:s.heap.NoLimit:=e0.mod.nolimit.keeps fun b o e=>(e0.bs b o e).1;have l5: ∀y∈ps.zip us,scope.names.lookup y.1=some .local∨(scope.names.lookup y.1=some .cell/\((cellsFrom (s.heap.objs.size+1) scope.names []).lookup y.1).isSome=true):=fun⟨n,v⟩ hy=>by
  rcases S.par n (Me hy).1 with q|q
  ·exact .inl q
  ·exact .inr ⟨q,Pk _ _ _ (.inl q)⟩
 refine codeAny_call_function hr.depth (KX _ _ lk) rfl S.co S.gen rfl (W.codeRec_of KX hcd) (hb _ _ _ _ ?_);refine wpAny_newFunctionEnv_cells S.kind l5 fun env he s1 x=> ?_;subst he;refine⟨lim.keeps x.toInCall.keep,codeAny_func ?_⟩;obtain⟨t,ht,hq⟩:=ca A outer s H vs Q E (hr.deeper _) hsp;have I:cT (IE CX P w K mg base N qual scope f cdv A outer s H E) [] (start N vs) H s1:=DI S hr.hd e0 hl r x;refine Bm (ht [] s1 (start N vs) H _ I hq) (fun fl s' hs=> ?_) fun e s' hs=>hs;have fin: ∀{σ':St} {H':Hp} {v:V} {u:Value},cT (IE CX P w K mg base N qual scope f cdv A outer s H E) [] σ' H' s'->cB v u->Q v H'->CE outer P w H s Q u s':=
  fun{σ' H' v u} J rv q=>⟨v,H',J.os,J.bare,J.base,J.hok,rv,q⟩
 cases fl with
 |ret u=>
  obtain⟨v,σ',H',J,rv,q⟩:=hs;exact fin J rv q
 |next=>
  obtain⟨σ',H',J,q⟩:=hs;exact fin (v:=V.non) (u:=Value.none) J rfl q
 |brk=>
  obtain⟨_,_,_,q⟩:=hs;exact Hb q
 |cont=>
  obtain⟨_,_,_,q⟩:=hs;exact Hb q
section
variable{X:Cx}{x:Str}{p pos:Pos}{e:Expr}{es:List Expr}{t:TA}{id T:String}{r:List V->Hp->VK->Prop}
def tCB(r:List V->Hp->VK->Prop)(t:TA):TE:=fun σ H Q=>t σ H fun vs H1=>r vs H1 Q
theorem R8(hc:aX X (.builtin id) r)(hg:Gl X x)(hm:X.mg x=none)(hv:Bj x=some (.builtin id))(ha:PA X (e::es) t)(hn:x≠ "__name__":=by decide) (hdb:(x==("__debug__":Str))=false:=by decide)
  (he:Aj (e::es) X.env=(false,eval e X.env)::Aj es X.env:=by rfl) (hpl:(Gh pos (Aj es X.env)).any (·.1)=false:=by rfl):PE X (.Call (.Name x p) (e::es) [] pos) (tCB r t):=by
 intro aa s σ H Q I h;refine Gq (V0 I hg hm hv ?_ hn hdb);exact PyProof.Rows.callWith_builtin1 (ZW (ha pos aa s σ H _ I h) fun us s1 ⟨vs,H1,I1,r1,q1⟩=>hc aa s1 σ H1 vs us Q I1 r1 q1) he hpl
theorem WL(hc:aX X (.type T) r)(hg:Gl X x)(hm:X.mg x=none)(hv:Bj x=some (.type T))(ha:PA X (e::es) t)(hn:x≠ "__name__":=by decide) (hdb:(x==("__debug__":Str))=false:=by decide)
  (he:Aj (e::es) X.env=(false,eval e X.env)::Aj es X.env:=by rfl) (hpl:(Gh pos (Aj es X.env)).any (·.1)=false:=by rfl):PE X (.Call (.Name x p) (e::es) [] pos) (tCB r t):=by
 intro aa s σ H Q I h;refine Gq (V0 I hg hm hv ?_ hn hdb);exact Cs (ZW (ha pos aa s σ H _ I h) fun us s1 ⟨vs,H1,I1,r1,q1⟩=>hc aa s1 σ H1 vs us Q I1 r1 q1) he hpl
end
end L2
namespace HT
open PySem PyProof.Rows
section
variable{prog:Bq}{w:World}{A:Cz}{E:Value->Af->Prop}{s:Af}
theorem zD2{t b:Addr}{vs ws:List Value}{Q:Value->Af->Prop}(ht:IsTup s.heap t vs.toArray)(hb:IsTup s.heap b ws.toArray)(hv:vs≠[])
  (h1:ws=[]->Q (.ref t) s) (h2:ws≠[]->Q (.ref s.heap.objs.size) {s with heap:=s.heap.push {cls:= .type "tuple",data:= .seq (vs++ws).toArray}})
  (hsz:vs.length+ws.length<=sizeLine):wpAny (model prog w) A (Go .Add (.ref t) (.ref b)) Q E s:=by
 obtain⟨⟨cls,dd,data,sl⟩,ho,hc,n,hd⟩:=id ht;obtain⟨⟨lb,dd2,data2,sl2⟩,ho2,hc2,n2,hd2⟩:=id hb;simp only at hc hd hc2 hd2;subst hc hd hc2 hd2;have e:vs.toArray++ws.toArray=(vs++ws).toArray:=by simp
 by_cases hw:ws=[]
 ·exact Mf ⟨_,ho,rfl⟩ ⟨_,ho2,rfl⟩ Lq Nr Ia Hr (Hk _ _)
   (tuple_addW1 t b vs.toArray ws.toArray n n2 dd dd2 sl sl2 (by simpa using hv) (by simp[hw])) ⟨ho,ho2,h1 hw⟩
 ·refine Mf ⟨_,ho,rfl⟩ ⟨_,ho2,rfl⟩ Lq Nr Ia Hr (Hk _ _)
   (tuple_addW2 t b vs.toArray ws.toArray n n2 dd dd2 sl sl2 (by simpa using hv) (by simpa using hw) (by rw[Aw,Aw];exact hsz)) ⟨ho,ho2,?_⟩
  rw[e];exact h2 hw
noncomputable def sIx(n d:Nat):Option Int->Nat
 |none=>d
 |some v=>if v<0 then(v+(n:Int)).toNat else min v.toNat n
theorem JU(n d:Nat):sIx n d none=d:=rfl
theorem F3(n d k:Nat):sIx n d (some (k:Int))=min k n:=by
 show(if(k:Int)<0 then((k:Int)+(n:Int)).toNat else min (k:Int).toNat n)=min k n;rw[if_neg (by lia),El]
theorem zEW(n d:Nat)(hd:d<=n)(o:Option Int):sIx n d o<=n:=by
 cases o with
 |none=>exact hd
 |some v=>
  show(if v<0 then(v+(n:Int)).toNat else min v.toNat n)<=n;by_cases hv:v<0
  ·rw[if_pos hv];lia
  ·rw[if_neg hv];exact Nat.min_le_right _ _
theorem ER(v:Int)(n d:Nat):(if v<0 then max (v+(n:Int)) 0 else min v (n:Int))=((sIx n d (some v):Nat):Int):=by
 show(if v<0 then max (v+(n:Int)) 0 else min v (n:Int))=(((if v<0 then(v+(n:Int)).toNat else min v.toNat n):Nat):Int);by_cases hv:v<0
 ·simp only[if_pos hv];lia
 ·simp only[if_neg hv];lia
theorem GL(lo hi:Option Int)(n:Nat):Hg lo hi 1 (n:Int)=(((sIx n 0 lo:Nat):Int),((sIx n n hi:Nat):Int)):=by
 have h1: ¬((1:Int)<0):=by lia
 unfold Hg;simp only[h1,if_false];refine Prod.ext ?_ ?_
 ·cases lo with
  |none=>rfl
  |some v=>exact ER v n 0
 ·cases hi with
  |none=>rfl
  |some v=>exact ER v n n
theorem HC(i j:Nat):Ft (i:Int) (j:Int) 1=j - i:=by
 unfold Ft;have h1:(1:Int)>0:=by lia
 simp only[h1,if_true,Int.ediv_one];split<;>lia
theorem OR{v:Value}{o:Option Int}{Q:Option Int->Af->Prop}(p:IsPart v o)(h:Q o s):wpAny (model prog w) A (Px v) Q E s:=by
 cases p with
 |none=>exact slicePart_none h
 |int i t=>exact slicePart_int h
theorem WP{sl:Addr}{vl vu:Value}{lo hi:Option Int}{n:Nat}{Q:Int×Int×Nat->Af->Prop}(hs:s.heap.IsSliceOf sl vl vu .none)(pl:IsPart vl lo)(pu:IsPart vu hi)
  (h:Q (((sIx n 0 lo:Nat):Int),1,sIx n n hi - sIx n 0 lo) s):wpAny (model prog w) A (Kc (.ref sl) (pure (n:Int))) Q E s:=by
 obtain⟨os,hos,hcs,hds⟩:=id hs;unfold Kc Qt;refine Ac (Ac (Dy hos hds (x:=vl) rfl (Ac (Dy hos hds (x:=vu) rfl (Ac (Dy hos hds (x:= .none) rfl (Ak ?_)))))));refine Ac (slicePart_none ?_);show wpAny _ _ (if((1:Int)==0)=true then _ else _) _ _ s;rw[if_neg (by decide)];refine Ac (OR pl (Ac (OR pu (Ac (Ak ?_)))));show wpAny _ _ (match Hg lo hi 1 (n:Int) with|(lo,hi)=>pure (lo,(1:Int),Ft lo hi 1)) _ _ s;rw[GL lo hi n];show wpAny _ _ (pure (((sIx n 0 lo:Nat):Int),(1:Int),Ft ((sIx n 0 lo:Nat):Int) ((sIx n n hi:Nat):Int) 1)) _ _ s;rw[HC];exact Ak h
theorem AH(xs:Array Value)(i k:Nat):((Az k).filterMap fun(m:Nat)=>xs[((i:Int)+(m:Int)*1).toNat]?).toArray=((xs.toList.drop i).take k).toArray:=by
 have e:(fun(m:Nat)=>xs[((i:Int)+(m:Int)*1).toNat]?)=fun m=>xs[i+m]? :=by
  funext m;have:((i:Int)+(m:Int)*1).toNat=i+m:=by lia
  rw[this]
 rw[e];have:=pick_run xs i k;rw[List.filterMap_map] at this;have e2:((fun x=>xs[x]?)∘fun x=>i+x)=fun m=>xs[i+m]? :=rfl;rw[e2] at this;rw[this]
theorem RQ{t sl:Addr}{items:Array Value}{vl vu:Value}{lo hi:Option Int}{Q:Value->Af->Prop}(ht:IsTup s.heap t items)(hs:s.heap.IsSliceOf sl vl vu .none)(pl:IsPart vl lo)(pu:IsPart vu hi)
  (hw: ¬(sIx items.size 0 lo=0/\sIx items.size items.size hi=items.size))
  (h:Q (.ref s.heap.objs.size) {s with heap:=s.heap.push {cls:= .type "tuple",data:= .seq ((items.toList.drop (sIx items.size 0 lo)).take (sIx items.size items.size hi - sIx items.size 0 lo)).toArray}})
  (hsz:items.size<=sizeLine):wpAny (model prog w) A (Ld (.ref t) (.ref sl)) Q E s:=by
 have ay:sizeOk (.seq ((items.toList.drop (sIx items.size 0 lo)).take (sIx items.size items.size hi - sIx items.size 0 lo)).toArray):=by
  show((items.toList.drop (sIx items.size 0 lo)).take (sIx items.size items.size hi - sIx items.size 0 lo)).toArray.size<=sizeLine;rw[Aw,Bu,Pl,Dx];lia
 have hj:sIx items.size items.size hi<=items.size:=zEW _ _ (Ah _) hi;obtain⟨os,hos,hcs,hds⟩:=id hs;have hTs:s.TypeIs (.ref sl) "slice":=⟨os,hos,hcs⟩;unfold Ld;try with_reducible refine Ci ?_
 first|refine Ac (Ak ?_)|skip
 refine Ac (Kt ht.typeIs (by decide) ?_);refine Ac (Dq (name:=At "__getitem__") ht.typeIs Em
  (Dn Em ht.typeIs entry_tuple_getitem ?_ (args_tuple_getitem _ _)))
 show wpAny _ _ (Ke (.ref t)>>=_) _ _ s;refine Ac (tupleItemsOf_ ht ?_);refine Ac (Kh hTs ?_);rw[if_pos (by decide)];refine Ac (WP hs pl pu ?_);have hno: ¬((((sIx items.size 0 lo:Nat):Int)==0 && (1:Int)==1 && (sIx items.size items.size hi - sIx items.size 0 lo)==items.size)=true):=by
  intro q;rw[Ae,Ae] at q;have q1:((sIx items.size 0 lo:Nat):Int)=0:=eq_of_beq q.1.1;have q2:sIx items.size items.size hi - sIx items.size 0 lo=items.size:=eq_of_beq q.2;exact hw ⟨by lia,by lia⟩
 show wpAny _ _ (if(((sIx items.size 0 lo:Nat):Int)==0 && (1:Int)==1 && (sIx items.size items.size hi - sIx items.size 0 lo)==items.size)=true then _ else _) _ _ s;rw[if_neg hno,AH]
 first
  |exact Ac (m:=Ga _) (Cr (Ak ⟨_,rfl,Ak h⟩) ay)
  |exact Ac (m:=Ga _) (Cr (Ac (Ak (Ak ⟨_,rfl,Ak h⟩))) ay)
  |exact Ac (Ac (m:=Ga _) (Cr (Ak (Ak ⟨_,rfl,Ak h⟩)) ay))
  |exact Ac (Ac (m:=Ga _) (Cr (Ak ⟨_,rfl,Ak h⟩) ay))
end
end HT
namespace L2
open PySem PySem.Spec PyProof.Rows
abbrev TO:=St->Hp->(Option Int->Hp->Prop)->Prop
def PO(X:Cx)(e:Option Expr)(t:TO):Prop:=
 ∀(aa:List (Addr×Obj)) (s:Af) (σ:St) (H:Hp) (Q:Option Int->Hp->Prop),cT X aa σ H s->t σ H Q→
  wpAny (model X.prog X.w) X.A (evalPart e X.env) (fun u s'=> ∃o H',cT X aa σ H' s'/\IsPart u o/\Q o H') X.xe s
def zBP:TO:=fun _ H Q=>Q none H
def zHM(t:TE):TO:=fun σ H Q=>t σ H fun x H1=> ∃i,x= .int i/\Q (some i) H1
section
variable{X:Cx}{e:Expr}{te:TE}{lo hi:Option Expr}{tl th:TO}{pos p2:Pos}
theorem zC6:PO X none zBP:=by
 intro aa s σ H Q I h;rw[evalPart_none];exact Ak ⟨none,H,I,.none,h⟩
theorem zC5(h:PE X e te):PO X (some e) (zHM te):=by
 intro aa s σ H Q I hw;rw[evalPart_some];refine ZW (h aa s σ H _ I hw) fun u s1 ⟨x,H1,I1,r1,q1⟩=> ?_;obtain⟨i,rfl,q⟩:=q1;obtain⟨t,rfl⟩:=r1;exact⟨some i,H1,I1,.int i t,q⟩
def SlR(X:Cx)(r:V->Option Int->Option Int->Hp->VK->Prop):Prop:=
 ∀(aa:List (Addr×Obj)) (s:Af) (σ:St) (H:Hp) (x:V) (v vl vu:Value) (lo hi:Option Int) (sl:Addr) (Q:VK),cT X aa σ H s->cB x v->s.heap.IsSliceOf sl vl vu .none->IsPart vl lo->IsPart vu hi->r x lo hi H Q→
  ∃T id,typeLookup (.type T) "__getitem__"=pure (some (.builtin id))/\s.TypeIs v T/\wpAny (model X.prog X.w) X.A (Ld v (.ref sl)) (EP X aa σ Q) X.xe s
theorem SlR.or{r r':V->Option Int->Option Int->Hp->VK->Prop}(h:SlR X r)(h':SlR X r'):SlR X (fun x lo hi H Q=>r x lo hi H Q∨r' x lo hi H Q):=by
 intro aa s σ H x v vl vu lo hi sl Q I rx hs pl pu q;rcases q with q|q
 ·exact h aa s σ H x v vl vu lo hi sl Q I rx hs pl pu q
 ·exact h' aa s σ H x v vl vu lo hi sl Q I rx hs pl pu q
def tSl(r:V->Option Int->Option Int->Hp->VK->Prop)(te:TE)(tl th:TO):TE:=fun σ H Q=>te σ H fun x H1=>tl σ H1 fun l H2=>th σ H2 fun u H3=>r x l u H3 Q
theorem AG{r:V->Option Int->Option Int->Hp->VK->Prop}(hr:SlR X r)(he:PE X e te)(hl:PO X lo tl)(hu:PO X hi th):PE X (.Subscript e (.Slice lo hi none p2) pos) (tSl r te tl th):=by
 intro aa s σ H Q I h;refine Subscript_ (ZW (he aa s σ H _ I h) fun v s1 ⟨x,H1,I1,r1,q1⟩=> ?_);refine wpAny_Slice (ZW (hl aa s1 σ H1 _ I1 q1) fun vl s2 ⟨l,H2,I2,pl,q2⟩=>ZW (hu aa s2 σ H2 _ I2 q2) fun vu s3 ⟨u,H3,I3,pu,q3⟩=> ?_);rw[evalPart_none];refine Ak ?_;have I4:cT X aa σ H3 {s3 with heap:=s3.heap.push {cls:= .type "slice",data:= .fields #[vl,vu,.none]}}:=I3.kept (t':=s3.toks) fun b ob q=>Ad _ q;obtain⟨T,id,hT,ht,hg⟩:=hr aa {s3 with heap:=s3.heap.push {cls:= .type "slice",data:= .fields #[vl,vu,.none]}} σ H3 x v vl vu l u s3.heap.objs.size Q I4 r1 (Si ..) pl pu q3;show wpAny (model X.prog X.w) X.A (subscriptTail e (.Slice lo hi none p2) v (.ref s3.heap.objs.size)) (EP X aa σ Q) X.xe {s3 with heap:=s3.heap.push {cls:= .type "slice",data:= .fields #[vl,vu,.none]}};exact Rn (ops:=[.ref s3.heap.objs.size,v]) ht hT hg (by with_unfolding_all rfl)
noncomputable def ID(xs:List V)(lo hi:Option Int):List V:=(xs.drop (HT.sIx xs.length 0 lo)).take (HT.sIx xs.length xs.length hi - HT.sIx xs.length 0 lo)
theorem P7(xs:List V)(lo hi:Option Int):(ID xs lo hi).length<=xs.length:=by
 unfold ID;rw[Bu,Pl];lia
def rSlT(K:Ar):V->Option Int->Option Int->Hp->VK->Prop:=fun x lo hi H Q=> ∃a xs,x= .ref a/\WS K H a xs∧
 ¬(HT.sIx xs.length 0 lo=0/\HT.sIx xs.length xs.length hi=xs.length)/\ ∀p,H p=none->Q (.ref p) (bN H p (.tup (ID xs lo hi)))
theorem zEM:SlR X (rSlT X.K):=by
 intro aa s σ H x v vl vu lo hi sl Q I rx hs pl pu h;obtain⟨a,xs,rfl,hx,hw,q⟩:=h;cases rx;obtain⟨its,r,ht,hz⟩:=I.tuple hx;have af:its.toArray.size=xs.length:=by rw[Aw];exact r.length.symm
 refine⟨"tuple",_,PyProof.Rows.slot_tuple_getitem.lookup,ht.typeIs,?_⟩;refine HT.RQ ht hs pl pu (by rw[af];exact hw) ?_ (by rw[af];exact hz);rw[af];refine⟨.ref s.heap.objs.size,_,I.laid (t':=s.toks) (o:= .tup (ID xs lo hi)) (fun b ob q=>Ad _ q) (Ah _) ?_,rfl,q _ (I.hok.fresh (Ah _))⟩;exact⟨Cb (P7 xs lo hi) hz,_,(r.drop (HT.sIx xs.length 0 lo)).take (HT.sIx xs.length xs.length hi - HT.sIx xs.length 0 lo),Ks _ _⟩
theorem b5.nil_iff{xs:List V}{us:List Value}(r:b5 xs us):us=[]↔xs=[]:=by
 cases r with
 |nil=>simp
 |cons _ _=>simp
end
noncomputable def ixN(n:Nat)(i:Int):Option Nat:=if 0<=i then(if i<n then some i.toNat else none) else if -(n:Int)<=i then some (i+n).toNat else none
noncomputable def VQ{α:Type}(xs:List α)(i:Int):Option α:=(ixN xs.length i).bind fun j=>xs[j]?
theorem zCW{n:Nat}{i:Int}{j:Nat}(h:ixN n i=some j):seqIndex? i n=some j/\j<n/\ -(n:Int)<=i/\i<n:=by
 unfold ixN at h;by_cases h0:0<=i
 ·rw[if_pos h0] at h
  by_cases h1:i<n
  ·rw[if_pos h1] at h
   have e:i.toNat=j:=Ck h;exact⟨by rw[seqIndex_of h0 h1,e],by lia,by lia,h1⟩
  ·rw[if_neg h1] at h;cases h
 ·rw[if_neg h0] at h
  by_cases h1: -(n:Int)<=i
  ·rw[if_pos h1] at h
   have e:(i+n).toNat=j:=Ck h;exact⟨by rw[seqIndex_neg (by lia) h1,e],by lia,h1,by lia⟩
  ·rw[if_neg h1] at h;cases h
theorem KJ{α:Type}{xs:List α}{i:Int}{v:α}(h:VQ xs i=some v): ∃j,seqIndex? i xs.length=some j/\xs[j]? =some v/\j<xs.length/\ -(xs.length:Int)<=i/\i<xs.length:=by
 unfold VQ at h;cases e:ixN xs.length i with
 |none=>rw[e] at h;cases h
 |some j=>
  rw[e] at h;obtain⟨h1,h2,h3,h4⟩:=zCW e;exact⟨j,h1,h,h2,h3,h4⟩
theorem RJ{α:Type}(xs:List α)(v:α):VQ (xs++[v]) (-1)=some v:=by
 have hl:(xs++[v]).length=xs.length+1:=by simp
 have e:ixN (xs++[v]).length (-1)=some xs.length:=by
  unfold ixN;rw[hl,if_neg (by decide),if_pos (by lia)];congr 1;lia
 unfold VQ;rw[e];show(xs++[v])[xs.length]? =some v;simp
def KG(b:Expr):Prop:= ∀o i,subscripted b false o i=operate [o,i] (Ld o i)
def CQ(X:Cx)(r:R2):Prop:=
 ∀(value slice:Expr) (aa:List (Addr×Obj)) (s:Af) (σ:St) (H:Hp) (x y:V) (v u:Value) (Q:VK),cT X aa σ H s->cB x v->cB y u->r x y H Q→
  subscripted slice false v u=operate [v,u] (Ld v u)->wpAny (model X.prog X.w) X.A (subscriptTail value slice v u) (EP X aa σ Q) X.xe s
def MtR(X:Cx)(id:String)(r:V->List V->Hp->VK->Prop):Prop:=
 ∀(aa:List (Addr×Obj)) (s:Af) (σ:St) (H:Hp) (x:V) (xs:List V) (v:Value) (us:List Value) (Q:VK),cT X aa σ H s->cB x v->b5 xs us->r x xs H Q→
  wpAny (model X.prog X.w) X.A (call (.builtin id) (v::us)) (EP X aa σ Q) X.xe s
section
variable{X:Cx}{a b:Expr}{ta tb:TE}{pos:Pos}
theorem CQ.or{r r':R2}(h:CQ X r)(h':CQ X r'):CQ X (fun x y H Q=>r x y H Q∨r' x y H Q):=by
 intro value slice aa s σ H x y v u Q I rx ry q hs;rcases q with q|q
 ·exact h value slice aa s σ H x y v u Q I rx ry q hs
 ·exact h' value slice aa s σ H x y v u Q I rx ry q hs
theorem zIM{r:R2}(hr:CQ X r)(ha:PE X a ta)(hb:PE X b tb)(hs:KG b):PE X (.Subscript a b pos) (tOp r ta tb):=by
 intro aa s σ H Q I h;exact Subscript_ (binT ha hb I h fun v u s2 x y H2 I2 rx ry q=>hr a b aa s2 σ H2 x y v u Q I2 rx ry q (hs _ _))
def rIxL(K:Ar):R2:=fun x y H Q=> ∃p xs i v,x= .ref p/\y= .int i/\X5 K H p xs/\VQ xs i=some v/\Q v H
def rIxT(K:Ar):R2:=fun x y H Q=> ∃p xs i v,x= .ref p/\y= .int i/\WS K H p xs/\VQ xs i=some v/\Q v H
def rIxS:R2:=fun x y H Q=> ∃z i c,x= .str z/\y= .int i/\z.length<=sizeLine/\VQ z.cps.toList i=some c/\Q (.str ⟨#[c]⟩) H
theorem zCU:CQ X (rIxL X.K):=by
 intro value slice aa s σ H x y v u Q I rx ry h hs;obtain⟨p,xs,i,z,rfl,rfl,hq,he,q⟩:=h;cases rx;obtain⟨t,rfl⟩:=ry;obtain⟨its,r,pl,hz⟩:=I.list hq;obtain⟨j,h1,h2,h3,h4,h5⟩:=KJ he;obtain⟨w,ew,rw'⟩:=r.get h2;have hl:=r.length;have hn:=N7;have fin:EP X aa σ Q w s:=⟨z,H,I,rw',q⟩;by_cases h0:0<=i
 ·have hj:i.toNat=j:=by
   rw[seqIndex_of h0 h5] at h1;exact Ck h1
  exact item_listR pl.isList h0 (by lia) (by rw[hj];simpa using ew) fin hs
 ·have hj:(i+(its.toArray.size:Int)).toNat=j:=by
   rw[seqIndex_neg (by lia) h4] at h1;rw[Aw,<- hl];exact Ck h1
  exact Lx (x:=w) pl.isList.typeIs slot_list_getitem.lookup
   (wpAny_getItem_list_neg (Q:=fun r s'=>r=w/\EP X aa σ Q r s') pl.isList (by lia) (by rw[Aw]<;>lia) (by lia) (by rw[hj];simpa using ew) ⟨rfl,fin⟩) hs
theorem zGZ:CQ X (rIxT X.K):=by
 intro value slice aa s σ H x y v u Q I rx ry h hs;obtain⟨p,xs,i,z,rfl,rfl,hq,he,q⟩:=h;cases rx;obtain⟨t,rfl⟩:=ry;obtain⟨its,r,pl,hz⟩:=I.tuple hq;obtain⟨j,h1,h2,h3,h4,h5⟩:=KJ he;obtain⟨w,ew,rw'⟩:=r.get h2;have hl:=r.length;have hn:=N7;have fin:EP X aa σ Q w s:=⟨z,H,I,rw',q⟩;exact Lx (x:=w) pl.typeIs slot_tuple_getitem.lookup
  (getItem_tuple (j:=j) (Q:=fun r s'=>r=w/\EP X aa σ Q r s') pl (by lia) (by lia) (by rw[Aw,<- hl];exact h1) (by simpa using ew) ⟨rfl,fin⟩) hs
theorem zH0:CQ X rIxS:=by
 intro value slice aa s σ H x y v u Q I rx ry h hs;obtain⟨z,i,c,rfl,rfl,hz,he,q⟩:=h;obtain⟨t,rfl⟩:=rx;obtain⟨t',rfl⟩:=ry;obtain⟨j,h1,h2,h3,h4,h5⟩:=KJ he;have hl:z.cps.toList.length=z.length:=by simp[Str.length]
 rw[hl] at h1 h4 h5;have hn:=N7;exact Rn (typeIs_str s z t) slot_str_getitem.lookup (getItem_str (c:=c) (by
  have e1:decide (i< -(2 ^ 63:Int))=false:=decide_eq_false (by lia);have e2:decide (i≥2 ^ 63)=false:=decide_eq_false (by lia);rw[e1,e2,Bool.or_false]) (by rw[h1];simpa using h2) ⟨.str ⟨#[c]⟩,H,I.tok _,⟨_,rfl⟩,q⟩) hs
def rIx(K:Ar):R2:=fun x y H Q=>rIxL K x y H Q∨rIxT K x y H Q∨rIxS x y H Q
theorem zH1:CQ X (rIx X.K):=zCU.or (zGZ.or zH0)
theorem LL(lo hi:Option Int)(n:Nat):(Ij lo hi none n).1=((HT.sIx n 0 lo:Nat):Int)/\(Ij lo hi none n).2.1=((HT.sIx n n hi:Nat):Int)/\(Ij lo hi none n).2.2=1:=by
 refine⟨?_,?_,rfl⟩
 ·cases lo with
  |none=>simp[Ij,HT.sIx]
  |some i=>
   simp only[Ij,HT.sIx,Pn,show(1:Int)>0 by decide,if_true];by_cases h:i<0
   ·simp only[h,if_true]<;>lia
   ·simp only[h,if_false]<;>lia
 ·cases hi with
  |none=>simp[Ij,HT.sIx]
  |some i=>
   simp only[Ij,HT.sIx,Pn,show(1:Int)>0 by decide,if_true];by_cases h:i<0
   ·simp only[h,if_true]<;>lia
   ·simp only[h,if_false]<;>lia
theorem NF(its:List Value)(lo hi:Option Int):slicePick its.toArray lo hi none=((its.drop (HT.sIx its.length 0 lo)).take (HT.sIx its.length its.length hi - HT.sIx its.length 0 lo)).toArray:=by
 obtain⟨h1,h2,h3⟩:=LL lo hi its.toArray.size;unfold slicePick;rw[h1,h2,h3];simp only[sliceRange_one,pick_run,Aw]<;>rfl
def rSlL(K:Ar):V->Option Int->Option Int->Hp->VK->Prop:=fun x lo hi H Q=> ∃a xs,x= .ref a/\X5 K H a xs/\ ∀p,H p=none->Q (.ref p) (bN H p (.lst (ID xs lo hi)))
theorem zBR:SlR X (rSlL X.K):=by
 intro aa s σ H x v vl vu lo hi sl Q I rx hs pl pu h;obtain⟨a,xs,rfl,hx,q⟩:=h;cases rx;obtain⟨its,r,ht,hz⟩:=I.list hx;have af:=r.length;refine⟨"list",_,slot_list_getitem.lookup,ht.isList.typeIs,?_⟩;refine wpAny_getItem_list_slice ht.isList hs pl pu .none (by simp) ?_ (by rw[Aw]<;>lia);rw[NF,<- af];refine⟨.ref s.heap.objs.size,_,I.laid (t':=s.toks) (o:= .lst (ID xs lo hi)) (fun b ob q=>Ad _ q) (Ah _) ?_,rfl,q _ (I.hok.fresh (Ah _))⟩;exact⟨Cb (P7 xs lo hi) hz,_,0,(r.drop (HT.sIx xs.length 0 lo)).take (HT.sIx xs.length xs.length hi - HT.sIx xs.length 0 lo),As _ rfl⟩
theorem KM:aX X (.builtin "len") (fun xs H Q=> ∃p ys,xs=[.ref p]/\(X5 X.K H p ys∨WS X.K H p ys)/\Q (.int ys.length) H):=by
 intro aa s σ H xs us Q I r h;obtain⟨p,ys,rfl,hq,q⟩:=h;obtain⟨u,rfl,rx⟩:=VN r;cases rx;have hn:=N7;rcases hq with hq|hq
 ·obtain⟨its,r',pl,hz⟩:=I.list hq
  have af:=r'.length;exact Calls.call_len_list pl.isList (by simp only[Aw]<;>lia) ⟨.int ys.length,H,I.tok _,⟨s.toks+1,by rw[Aw,af]⟩,q⟩
 ·obtain⟨its,r',pl,hz⟩:=I.tuple hq
  have af:=r'.length;exact len_tuple pl (by simp only[Aw]<;>lia) ⟨.int ys.length,H,I.tok _,⟨s.toks+1,by rw[Aw,af]⟩,q⟩
theorem KN:aX X (.builtin "len") (fun xs H Q=> ∃z,xs=[.str z]/\z.length<=sizeLine/\Q (.int z.length) H):=by
 intro aa s σ H xs us Q I r h;obtain⟨z,rfl,hz,q⟩:=h;obtain⟨u,rfl,t,rfl⟩:=VN r;have hn:=N7;exact len_str (by lia) ⟨.int z.length,H,I.tok _,⟨_,rfl⟩,q⟩
theorem aX.or{f:Value}{r r':List V->Hp->VK->Prop}(h:aX X f r)(h':aX X f r'):aX X f (fun xs H Q=>r xs H Q∨r' xs H Q):=by
 intro aa s σ H xs us Q I rs q;rcases q with q|q
 ·exact h aa s σ H xs us Q I rs q
 ·exact h' aa s σ H xs us Q I rs q
theorem KO:aX X (.type "list") (fun xs H Q=> ∃p ys,xs=[.ref p]/\(X5 X.K H p ys∨WS X.K H p ys)/\ ∀l,H l=none->Q (.ref l) (bN H l (.lst ys))):=by
 intro aa s σ H xs us Q I r h;obtain⟨p,ys,rfl,hq,q⟩:=h;obtain⟨u,rfl,rx⟩:=VN r;cases rx;have fin: ∀(its:List Value),b5 ys its->ys.length<=sizeLine-> ∀(h':Heap) (c':Nat),(∀b o',s.heap.get? b=some o'->h'.get? b=some o')→
   h'.get? s.heap.objs.size=some {cls:= .type "list",dict:=none,data:= .seq its.toArray c',slots:= #[]}->EP X aa σ Q (.ref s.heap.objs.size) {s with heap:=h'}:=fun its r' hz h' c' kp e=>
  ⟨.ref s.heap.objs.size,_,I.laid (t':=s.toks) kp (Ah _) (show aA X.prog X.w _ h' _ (.lst ys) from⟨hz,its,c',r',e⟩),rfl,q _ (I.hok.fresh (Ah _))⟩
 rcases hq with hq|hq
 ·obtain⟨its,r',pl,hz⟩:=I.list hq
  have af:=r'.length;obtain⟨o,ho,hc,n,hd⟩:=pl.isList;exact call_list_seq p (.inl rfl) ho hc hd (fun h' c' kp e=>fin its r' hz h' c' kp e) (by simp only[Aw]<;>lia)
 ·obtain⟨its,r',pl,hz⟩:=I.tuple hq
  have af:=r'.length;obtain⟨o,ho,hc,n,hd⟩:=pl;exact call_list_seq p (.inr rfl) ho hc hd (fun h' c' kp e=>fin its r' hz h' c' kp e) (by simp only[Aw]<;>lia)
theorem NA:aX X (.type "tuple") (fun xs H Q=> ∃p ys,xs=[.ref p]/\((X5 X.K H p ys/\ ∀l,H l=none->Q (.ref l) (bN H l (.tup ys)))∨(WS X.K H p ys/\Q (.ref p) H))):=by
 intro aa s σ H xs us Q I r h;obtain⟨p,ys,rfl,h⟩:=h;obtain⟨u,rfl,rx⟩:=VN r;cases rx;rcases h with⟨hq,q⟩|⟨hq,q⟩
 ·obtain⟨its,r',pl,hz⟩:=I.list hq
  have af:=r'.length;refine call_tuple_list pl.isList (fun h' kp=> ?_) (by simp only[Aw]<;>lia);have I1:cT X aa σ H {s with heap:=h'}:=I.kept (t':=s.toks) kp;have I2:cT X aa σ (bN H h'.objs.size (.tup ys)) {s with heap:=h'.push {cls:= .type "tuple",data:= .seq its.toArray}}:=
   I1.laid (t':=s.toks) (fun b o e=>Ad _ e) (Ah _) (show aA X.prog X.w _ _ _ (.tup ys) from⟨hz,its,r',Ks _ _⟩)
  exact⟨.ref h'.objs.size,_,I2,rfl,q _ (I1.hok.fresh (Ah _))⟩
 ·obtain⟨its,r',pl,hz⟩:=I.tuple hq
  exact call_tuple_same pl ⟨.ref p,H,I,rfl,q⟩
def tyV(K:Ar)(T:String)(x:V)(H:Hp):Prop:=match x with
 | .str _=>T= "str"
 | .int _=>T= "int"
 | .ref p => (T = "list" /\ ∃ xs,X5 K H p xs) ∨ (T = "tuple" /\ ∃ o,K.lookup p = some o /\ o.cls = .type "tuple" /\ o.dict = none) ∨
   (T= "dict" /\((∃kvs,H p=some (.dK kvs))∨ ∃kvs,H p=some (.dT kvs)))∨(T= "set" /\ ∃S n,H p=some (.set S n))
 |_=>False
theorem zEB{aa:List (Addr×Obj)}{σ:St}{H:Hp}{s:Af}{T:String}{x:V}{v:Value}(I:cT X aa σ H s)(r:cB x v)(ty:tyV X.K T x H):
  s.TypeIs v T/\ ∀a,v= .ref a-> ∃ob,s.heap.get? a=some ob/\ob.dict=none:=by
 cases x with
 |str z=>
  obtain⟨t,rfl⟩:=r;cases (show T= "str" from ty);exact⟨typeIs_str s z t,fun _ e=>nomatch e⟩
 |int i=>
  obtain⟨t,rfl⟩:=r;cases (show T= "int" from ty);exact⟨typeIs_int s i t,fun _ e=>nomatch e⟩
 |ref p=>
  cases r;rcases ty with⟨rfl,xs,hq⟩|⟨rfl,o,hk,hc,hd⟩|⟨rfl,hk⟩|⟨rfl,S,n,hk⟩
  ·obtain⟨its,_,pl,_⟩:=I.list hq
   refine⟨pl.isList.typeIs,fun a e=> ?_⟩;cases e;obtain⟨o,n,e,c,hd,_⟩:=pl;exact⟨o,e,hd⟩
  ·refine ⟨⟨o,I.kIn p o hk,hc⟩,fun a e => ?_⟩
   cases e;exact⟨o,I.kIn _ o hk,hd⟩
  ·have z: ∃o,s.heap.get? p=some o/\o.ExactDict:=by
    rcases hk with⟨kvs,hk⟩|⟨kvs,hk⟩
    ·obtain⟨_,_,_,_,o,_,_,e,ex,_⟩:=I.hok p _ hk
     exact⟨o,e,ex⟩
    ·obtain⟨_,_,_,_,o,_,_,e,ex,_⟩:=I.hok p _ hk
     exact⟨o,e,ex⟩
   obtain⟨o,e,ex⟩:=z;refine⟨⟨o,e,ex.1⟩,fun a e2=> ?_⟩;cases e2;exact⟨o,e,ex.2.1⟩
  ·obtain⟨o,_,_,_,e,ex,_⟩:=I.hok p _ hk
   refine⟨⟨o,e,ex.1⟩,fun a e2=> ?_⟩;cases e2;exact⟨o,e,ex.2.1⟩
 |_=>exact Hb ty
def tBM(K:Ar)(T:String)(r:V->List V->Hp->VK->Prop)(to:TE)(t:TA):TE:=fun σ H Q=>to σ H fun x H1=>tyV K T x H1/\t σ H1 fun xs H2=>r x xs H2 Q
variable{o e:Expr}{es:List Expr}{to:TE}{t:TA}{name:Str}{ai ae:Pos}{T id:String}{r:V->List V->Hp->VK->Prop}
theorem zIN(pa:PlainAttrs T)(slot:Slot T name id)(hty:typeOf (.builtin id)=pure (.type "method_descriptor")) (hm:MtR X id r) (ho:PE X o to) (ha:PA X (e::es) t)
  (cb:Hs o name X.env (eval o X.env)=eval o X.env:=by rfl)
  (dh : ((Gh ae (Aj (e :: es) X.env)).all (fun x => !x.1) && (Nt ae (Jo [] X.env)).all (fun x => x.1.isSome)
   && decide ((e::es).length+([]:List Jp).length+(if([]:List Jp).isEmpty then 0 else 1)<30))=true:=by rfl)
  (br:(ai.endLine==ae.line)=true:=by rfl) (hs:Aj (e::es) X.env=(false,eval e X.env)::Aj es X.env:=by rfl) (bh:(Gh ae (Aj es X.env)).any (·.1)=false:=by rfl):
  PE X (.Call (.Attribute o name ai) (e::es) [] ae) (tBM X.K T r to t):=by
 intro aa s σ H Q I h;refine wpAny_Call_method_late cb dh br rfl (ZW (ho aa s σ H _ I h) fun v s1 ⟨x,H1,I1,r1,ty,q1⟩=> ?_);obtain⟨h1,h2⟩:=zEB I1 r1 ty;refine⟨T,id,pa,slot,hty,h1,h2,?_⟩;have hA:=ha ae aa s1 σ H1 _ I1 q1;rw[hs] at hA⊢;refine Ff (by show(false || (Gh ae (Aj es X.env)).any (·.1))=false;rw[bh]<;>rfl) (Fv ?_);exact ZW hA fun us s2 ⟨vs,H2,I2,r2,q2⟩=>hm aa s2 σ H2 x vs v us Q I2 r1 r2 q2
end
def MtM(X:Cx)(id:String)(r:V->List V->Hp->VK->Prop):Prop:=
 ∀(aa:List (Addr×Obj)) (s:Af) (σ:St) (H:Hp) (x:V) (xs:List V) (v:Value) (us:List Value) (Q:VK),cT X aa σ H s->cB x v->b5 xs us->r x xs H Q→
  wpAny (model X.prog X.w) X.A (call (.builtin id) (v::us)) (EP X aa σ Q) X.xe s
theorem b5.one: ∀{x:V} {us:List Value},b5 [x] us-> ∃u,us=[u]/\cB x u
 |_,_,.cons r .nil=>⟨_,rfl,r⟩
theorem b5.eraseIdx: ∀{xs:List V} {us:List Value} (i:Nat),b5 xs us->b5 (xs.eraseIdx i) (us.eraseIdx i)
 |_,_,_,.nil=> .nil
 |_,_,0,.cons _ t=>t
 |_,_,i+1,.cons r t=> .cons r (b5.eraseIdx i t)
section
variable{X:Cx}{aa:List (Addr×Obj)}{σ:St}{H:Hp}{s:Af}{l b:Addr}{xs ys zs:List V}
theorem cT.lset{its its':List Value}{n:Nat}{f:Array Value->Array Value}{t':Nat}(I:cT X aa σ H s)(hH:H l=some (.lst xs))
  (e:s.heap.get? l=some {cls:= .type "list",data:= .seq its.toArray n}) (hf:f its.toArray=its'.toArray) (hv:b5 ys its') (hz:ys.length<=sizeLine):
  cT X aa σ (bN H l (.lst ys)) {s with heap:=s.heap.update l (Gb f),toks:=t'}:=by
 have q:=PySem.IsL.update e f;rw[hf] at q;refine I.write (x:=l) (e:=l) (by rw[hH];exact trivial) (.inl rfl) (fun b' u hb hu=>(Heap.get?_update_other s.heap (Gb f) (Dr hb)).trans hu) ⟨_,q⟩ ?_;exact⟨hz,its',_,hv,q⟩
theorem cT.lnew{its:List Value}{t':Nat}(I:cT X aa σ H s)(hv:b5 ys its)(hz:ys.length<=sizeLine):
  cT X aa σ (bN H s.heap.objs.size (.lst ys)) {s with heap:=s.heap.push {cls:= .type "list",data:= .seq its.toArray},toks:=t'}:=
 I.laid (fun _ _ q=>Ad _ q) (Ah _) ⟨hz,its,0,hv,As _ rfl⟩
theorem cT.fresh(I:cT X aa σ H s):H s.heap.objs.size=none:=I.hok.fresh (Ah _)
theorem cT.lstM(I:cT X aa σ H s)(hH:H l=some (.lst xs)):xs.length<=sizeLine/\ ∃(its:List Value) (n:Nat),b5 xs its/\xs.length=its.length/\s.heap.get? l=some {cls:= .type "list",data:= .seq its.toArray n}:=by
 obtain⟨z,its,n,r,e⟩:=I.hok l _ hH;exact⟨z,its,n,r,r.length,e⟩
end
section
variable{X:Cx}
def FW:V->List V->Hp->VK->Prop:=fun x vs H Q=> ∃l xs y,x= .ref l/\vs=[y]/\H l=some (.lst xs)/\xs.length<sizeLine/\Q .non (bN H l (.lst (xs++[y])))
theorem bF:MtM X "list.append" FW:=by
 intro aa s σ H x vs v us Q I rx rv h;obtain⟨l,xs,y,rfl,rfl,hH,hz,q⟩:=h;cases rx;obtain⟨u,rfl,ru⟩:=rv.one;obtain⟨z,its,n,r,hl,e⟩:=I.lstM hH;refine Ol F.slot_list_append ⟨_,e,rfl⟩ F.entry_list_append (F.args_list_append_2 _ _) (PySem.list_append l its.toArray n u (by rw[Aw];lia)) ⟨e,?_⟩;refine⟨.non,_,I.lset (its':=its++[u]) hH e (by simp) (r.append (.cons ru .nil)) ?_,rfl,q⟩;rw[Cf,Gx];lia
end
section
variable{prog:Bq}{w:World}{A:Cz}{E:Value->Af->Prop}{s:Af}
set_option maxRecDepth 100000 in
end
section
variable{κ:Type}[DecidableEq κ]
noncomputable def T2(kvs:List (κ×V))(k:κ):Option V:=(kvs.find? fun kv=>decide (kv.1=k)).map (·.2)
noncomputable def ZF(kvs:List (κ×V))(k:κ)(v:V):List (κ×V):=
 if(kvs.any fun kv=>decide (kv.1=k))=true then kvs.map (fun kv=>if kv.1=k then(kv.1,v) else kv) else kvs++[(k,v)]
theorem SM{p:κ×V}{r:List (κ×V)}{k:κ}(e:p.1=k):T2 (p::r) k=some p.2:=by simp[T2,Gy,e]
theorem U7{p:κ×V}{r:List (κ×V)}{k:κ}(e: ¬p.1=k):T2 (p::r) k=T2 r k:=by simp[T2,Gy,e]
theorem OT(k:κ): ∀kvs:List (κ×V),(kvs.any fun kv=>decide (kv.1=k))=(T2 kvs k).isSome
 |[]=>rfl
 |p::r=>by
  rw[Jg];by_cases e:p.1=k
  ·simp only[SM e,decide_eq_true e,Bool.true_or,Nu]
  ·rw[U7 e,decide_eq_false e,Ro];exact OT k r
theorem UY(kvs:List (κ×V))(k:κ)(v:V):(ZF kvs k v).length<=kvs.length+1:=by
 unfold ZF;split
 ·rw[Bt];lia
 ·rw[Cf,Bn,Ep];lia
theorem AO{kvs:List (κ×V)}{k:κ}(v:V)(h:T2 kvs k=none):ZF kvs k v=kvs++[(k,v)]:=by
 unfold ZF;rw[OT,h];exact if_neg (by decide)
theorem QL.isSome_eq{o:Option V}{u:Option Value}(r:QL o u):o.isSome=u.isSome:=by
 cases o with
 |none=>cases u with
  |none=>rfl
  |some _=>exact(show False from r).elim
 |some _=>cases u with
  |none=>exact(show False from r).elim
  |some _=>rfl
theorem QL.getD{o:Option V}{u:Option Value}{d:V}{d':Value}(r:QL o u)(rd:cB d d'):cB (o.getD d) (u.getD d'):=by
 cases o with
 |none=>cases u with
  |none=>exact rd
  |some _=>exact(show False from r).elim
 |some _=>cases u with
  |none=>exact(show False from r).elim
  |some _=>exact r
theorem KV.val{kvs:List (κ×V)}{vs:List (κ×Value)}(r:KV kvs vs)(k:κ):QL (T2 kvs k) (Om vs k):=by
 unfold KV at r;induction r with
 |nil=>exact True.intro
 | @cons p q ps qs h t ih=>
  obtain⟨h1,h2⟩:=h;by_cases e:p.1=k
  ·have e':q.1=k:=h1.symm.trans e
   have b:Om (q::qs) k=some q.2:=by simp[Om,Gy,e']
   rw[SM e,b];exact h2
  ·have e' : ¬ q.1 = k := fun z => e (h1.trans z)
   have b:Om (q::qs) k=Om qs k:=by simp[Om,Gy,e']
   rw[U7 e,b];exact ih
theorem KV.any{kvs:List (κ×V)}{vs:List (κ×Value)}(r:KV kvs vs)(k:κ):(kvs.any fun kv=>decide (kv.1=k))=vs.any fun kv=>decide (kv.1=k):=by
 unfold KV at r;induction r with
 |nil=>rfl
 |cons h t ih=>rw[Jg,Jg,ih,h.1]
theorem KV.repl{kvs:List (κ×V)}{vs:List (κ×Value)}(r:KV kvs vs)(k:κ){y:V}{u:Value}(ry:cB y u):
  KV (kvs.map fun kv=>if kv.1=k then(kv.1,y) else kv) (vs.map fun kv=>if kv.1=k then(kv.1,u) else kv):=by
 unfold KV at r⊢;induction r with
 |nil=>exact .nil
 | @cons p q ps qs h t ih=>
  rw[Aq,Aq];refine .cons ?_ ih;obtain⟨h1,h2⟩:=h;by_cases e:p.1=k
  ·rw[if_pos e,if_pos (h1.symm.trans e)];exact⟨h1,ry⟩
  ·rw[if_neg e,if_neg (fun z=>e (h1.trans z))];exact⟨h1,h2⟩
theorem KV.put{kvs:List (κ×V)}{vs:List (κ×Value)}(r:KV kvs vs)(k:κ){y:V}{u:Value}(ry:cB y u):KV (ZF kvs k y) (Rv vs k u):=by
 unfold ZF Rv;rw[r.any k];by_cases e:(vs.any fun kv=>decide (kv.1=k))=true
 ·rw[if_pos e,if_pos e];exact r.repl k ry
 ·rw[if_neg e,if_neg e];exact Sf r ⟨rfl,ry⟩
theorem KV.length{kvs:List (κ×V)}{vs:List (κ×Value)}(r:KV kvs vs):kvs.length=vs.length:=No r
end
theorem QA{P:Bq}{w:World}{k:bV}{u:Value}(r:cB (kV k) u):(bQ P w).is k u=true:=by
 cases k with
 |inl i=>obtain⟨t,e⟩:=(show∃t,u=Qb i t from r);subst e;exact JA P w i t
 |inr x=>obtain⟨t,e⟩:=(show∃t,u=Qc x t from r);subst e;exact JB P w x t
theorem MC{P:Bq}{w:World}: ∀{ks:List bV} {us:List Value},b5 (ks.map kV) us->ItemsAre (bQ P w) ks us
 |[],_,r=>by rw[Dg] at r;cases r;exact .nil
 |k::ks,_,r=>by
  rw[Aq] at r;cases r with
  |cons h t=>exact .cons (QA h) (MC t)
abbrev KT(H:Hp):List (List bV×V)->List (List bV×Addr×Value)->Prop:=Paired fun p q=>p.1=q.1/\H q.2.1=some (.tup (p.1.map kV))/\cB p.2 q.2.2
theorem KT.val{H:Hp}{kvs:List (List bV×V)}{xs:List (List bV×Addr×Value)}(r:KT H kvs xs)(k:List bV):QL (T2 kvs k) ((atKey xs k).map (·.2)):=by
 induction r with
 |nil=>exact True.intro
 | @cons p q ps qs h t ih=>
  obtain⟨h1,_,h2⟩:=h;by_cases e:p.1=k
  ·have e':q.1=k:=h1.symm.trans e
   have b:atKey (q::qs) k=some q.2:=by simp[atKey,Gy,e']
   rw[SM e,b];exact h2
  ·have e' : ¬ q.1 = k := fun z => e (h1.trans z)
   have b:atKey (q::qs) k=atKey qs k:=by simp[atKey,Gy,e']
   rw[U7 e,b];exact ih
theorem KT.repl{H:Hp}{kvs:List (List bV×V)}{xs:List (List bV×Addr×Value)}(r:KT H kvs xs)(k:List bV){y:V}{u:Value}(ry:cB y u):
  KT H (kvs.map fun kv=>if kv.1=k then(kv.1,y) else kv) (xs.map (putAt k u)):=by
 induction r with
 |nil=>exact .nil
 | @cons p q ps qs h t ih=>
  rw[Aq,Aq];refine .cons ?_ ih;obtain⟨h1,h2,h3⟩:=h;unfold putAt;by_cases e:p.1=k
  ·rw[if_pos e,if_pos (h1.symm.trans e)];exact⟨h1,h2,ry⟩
  ·rw[if_neg e,if_neg (fun z=>e (h1.trans z))];exact⟨h1,h2,h3⟩
theorem KT.put{H:Hp}{kvs:List (List bV×V)}{xs:List (List bV×Addr×Value)}(r:KT H kvs xs)(k:List bV){b:Addr}{y:V}{u:Value}(hb:H b=some (.tup (k.map kV)))(ry:cB y u):
  KT H (ZF kvs k y) (storedH xs k b u):=by
 have e:(kvs.any fun kv=>decide (kv.1=k))=(atKey xs k).isSome:=by rw[OT,(r.val k).isSome_eq,Oo]
 unfold ZF storedH;rw[e];by_cases q:(atKey xs k).isSome=true
 ·rw[if_pos q,if_pos q];exact r.repl k ry
 ·rw[if_neg q,if_neg q];exact Sf r ⟨rfl,hb,ry⟩
theorem KT.keeps{H H':Hp}{kvs:List (List bV×V)}{xs:List (List bV×Addr×Value)}(r:KT H kvs xs)(ht: ∀b ys,H b=some (.tup ys)->H' b=some (.tup ys)):KT H' kvs xs:=
 Paired.mapP r fun _ _ z=>⟨z.1,ht _ _ z.2.1,z.2.2⟩
section
variable{P:Bq}{w:World}{H:Hp}{h:Heap}{a:Addr}
theorem zDG{u:HO}(ok:SR P w H h)(e:Rd H a u):aA P w H h a u:=e.ok ok
theorem P8{kvs:List (bV×V)}(ok:SR P w H h)(e:Rd H a (.dK kvs)):kvs.length<=sizeLine/\(a==Fi)=false/\ ∃vs,KV kvs vs/\h.DictOf (bQ P w) a vs:=
 show aA P w H h a (.dK kvs) from zDG ok e
theorem ES{kvs:List (bV×V)}(ok:SR P w H h)(e:H a=some (.dK kvs)):kvs.length<=sizeLine/\(a==Fi)=false/\ ∃vs,KV kvs vs/\h.DictOf (bQ P w) a vs:=P8 ok (.inl e)
theorem QW{ks:List bV}(ok:SR P w H h)(e:H a=some (.tup (ks.map kV))):(tupleKind (bQ P w)).is h ks a:=by
 obtain⟨_,its,r,o,h1,h2,n,h3⟩:=(show aA P w H h a (.tup (ks.map kV)) from ok a _ e);exact⟨o,its.toArray,n,h1,h2,h3,by simpa using MC r⟩
theorem NQ{kvs:List (List bV×V)}(ok:SR P w H h)(e:Rd H a (.dT kvs)):kvs.length<=sizeLine/\(a==Fi)=false∧
  ∃xs,KT H kvs xs/\h.DictOfH (tupleKind (bQ P w)) a xs:=by
 obtain⟨z,y,xs,r,o,es,ep,h1,h2,h3,h4,h5⟩:=(show aA P w H h a (.dT kvs) from zDG ok e);refine⟨z,y,xs,r,o,es,ep,h1,h2,h3,h4,fun x hx=> ?_,h5⟩;have all: ∀{l:List (List bV×V)} {m:List (List bV×Addr×Value)},KT H l m-> ∀x∈m,(tupleKind (bQ P w)).is h x.1 x.2.1:=by
  intro l m q;induction q with
  |nil=>intro x hx;exact nomatch hx
  | @cons p q ps qs hq t ih=>
   intro x hx;rcases Ai.mp hx with e|hx
   ·subst e
    exact QW ok (by rw[<- hq.1];exact hq.2.1)
   ·exact ih x hx
 exact all r x hx
theorem zJR{kvs:List (List bV×V)}(ok:SR P w H h)(e:H a=some (.dT kvs)):kvs.length<=sizeLine/\(a==Fi)=false∧
  ∃xs,KT H kvs xs/\h.DictOfH (tupleKind (bQ P w)) a xs:=NQ ok (.inl e)
end
def VA(H:Hp)(a:Addr)(y:V)(r:Option V):Prop:=
 (∃kvs k,Rd H a (.dK kvs)/\y=kV k/\r=T2 kvs k)∨ ∃kvs k b,Rd H a (.dT kvs)/\y= .ref b/\H b=some (.tup (k.map kV))/\r=T2 kvs k
def DPut(H:Hp)(a:Addr)(y v:V)(H':Hp):Prop:=
 (∃kvs k,H a=some (.dK kvs)/\y=kV k/\kvs.length<sizeLine/\H'=bN H a (.dK (ZF kvs k v)))∨
 ∃kvs k b,H a=some (.dT kvs)/\y= .ref b/\H b=some (.tup (k.map kV))/\kvs.length<sizeLine/\H'=bN H a (.dT (ZF kvs k v))
theorem VA.k{H:Hp}{a:Addr}{kvs:List (bV×V)}{k:bV}(e:H a=some (.dK kvs)):VA H a (kV k) (T2 kvs k):= .inl ⟨kvs,k,.inl e,rfl,rfl⟩
theorem DPut.k{H:Hp}{a:Addr}{kvs:List (bV×V)}{k:bV}{v:V}(e:H a=some (.dK kvs))(hl:kvs.length<sizeLine):DPut H a (kV k) v (bN H a (.dK (ZF kvs k v))):= .inl ⟨kvs,k,e,rfl,hl,rfl⟩
section
variable{X:Cx}{aa:List (Addr×Obj)}{σ:St}{H:Hp}{s:Af}{a:Addr}{y v:V}{u r:Value}{o:Option V}{A:Cz}{E:Value->Af->Prop}
theorem cT.big(I:cT X aa σ H s):Fi<s.heap.objs.size:=by
 have h:mainGlobals<s.heap.objs.size:=(I.mod.glob.keeps I.bk).lt;exact Pf (by decide) h
theorem C8{Q:Value->Af->Prop}(hu:A.units+1<cLine)(I:cT X aa σ H s)(g:VA H a y (some v))(ry:cB y u)(h: ∀w' s',cT X aa σ H s'->cB v w'->Q w' s'):
  wpAny (model X.prog X.w) A (Ld (.ref a) u) Q E s:=by
 rcases g with⟨kvs,k,e,ey,l⟩|⟨kvs,k,b,e,ey,eb,l⟩
 ·subst ey
  obtain⟨z,hd,vs,rel,dd⟩:=P8 I.hok e;obtain⟨w',hw,rw'⟩:=QL.some_of (v:=v) (o:=Om vs k) (by rw[l];exact rel.val k);exact wpAny_getItem_of (QA ry) dd.mapOf hw (h w' _ (I.tok _) rw')
 ·subst ey
  cases (show u=Bo b from ry);obtain⟨z,hd,xs,rel,dd⟩:=NQ I.hok e;obtain⟨w',hw,rw'⟩:=QL.some_of (v:=v) (o:=(atKey xs k).map (·.2)) (by rw[l];exact rel.val k);obtain⟨p,hp,hp2⟩:=Ao.mp hw;refine wpAny_getItem_heap (Gr hu) (QW I.hok eb) dd hp ?_;rw[hp2];exact h w' _ (I.tok _) rw'
theorem d_in{Q:Value->Af->Prop}(hu:A.units+1<cLine)(I:cT X aa σ H s)(g:VA H a y o)(ry:cB y u)(h: ∀s',cT X aa σ H s'->Q (.bool o.isSome) s'):
  wpAny (model X.prog X.w) A (Cw .In u (.ref a)) Q E s:=by
 rcases g with⟨kvs,k,e,ey,l⟩|⟨kvs,k,b,e,ey,eb,l⟩
 ·subst ey
  obtain⟨z,hd,vs,rel,dd⟩:=P8 I.hok e;refine wpAny_in_of (QA ry) hd dd.mapOf ?_;rw[<- (rel.val k).isSome_eq,<- l];exact h _ (I.tok _)
 ·subst ey
  cases (show u=Bo b from ry);obtain⟨z,hd,xs,rel,dd⟩:=NQ I.hok e;refine wpAny_in_heap (Gr hu) (QW I.hok eb) hd dd ?_;have q:=(rel.val k).isSome_eq;rw[Oo] at q;rw[<- q,<- l];exact h _ (I.tok _)
theorem O9{h':Heap}{t':Nat}{ob:HO}(I:cT X aa σ H s)(mu:Mut (H a))(hs:Fk a s.heap h')(he: ∃q,h'.get? a=some q)(new:aA X.prog X.w (bN H a ob) h' a ob):
  cT X aa σ (bN H a ob) {s with heap:=h',toks:=t'}:=
 I.write (x:=a) (e:=a) mu (.inl rfl) (fun b q hb z=>(hs.2 b hb).trans z) he new
theorem KZ{P:Bq}{w:World}{H':Hp}{h':Heap}{kvs:List (bV×V)}{vs:List (bV×Value)}(z:kvs.length<=sizeLine)(hd:(a==Fi)=false)(rel:KV kvs vs)(dd:h'.DictOf (bQ P w) a vs):
  aA P w H' h' a (.dK kvs):=⟨z,hd,vs,rel,dd⟩
theorem C9{H':Hp}{Q:Unit->Af->Prop}(hu:A.units+1<cLine)(I:cT X aa σ H s)(g:DPut H a y v H')(ry:cB y u)(rv:cB v r)(h: ∀s',cT X aa σ H' s'->Q () s'):
  wpAny (model X.prog X.w) A (setItem (.ref a) u r) Q E s:=by
 rcases g with⟨kvs,k,e,ey,l,eH⟩|⟨kvs,k,b,e,ey,eb,l,eH⟩
 ·subst ey eH
  obtain⟨z,hd,vs,rel,dd⟩:=ES I.hok e;have hz:vs.length<=sizeLine:=by rw[<- rel.length];exact z
  have hl:(ZF kvs k v).length<=sizeLine:=by have:=UY kvs k v;lia
  refine wpAny_setItem_pairs (hsz:=hz) (QA ry) dd fun h' dd' hs=>h _ ?_;have he: ∃q,h'.get? a=some q:=let ⟨q,_,_,hq,_⟩:=dd';⟨q,hq⟩
  exact O9 I (by rw[e];exact True.intro) hs he (KZ hl hd (rel.put k rv) dd')
 ·subst ey eH
  cases (show u=Bo b from ry);obtain⟨z,hd,xs,rel,dd⟩:=zJR I.hok e;have hz:xs.length<=sizeLine:=by rw[<- No rel];exact z
  have hl:(ZF kvs k v).length<=sizeLine:=by have:=UY kvs k v;lia
  refine wpAny_setItem_heap (hsz:=hz) (Gr hu) (QW I.hok eb) dd fun h' dd' hs=>h _ ?_;obtain⟨q,es,ep,hq,h2,h3,h4,_,h5⟩:=dd';refine O9 I (by rw[e];exact True.intro) hs ⟨q,hq⟩ ⟨hl,hd,_,(rel.put k eb rv).keeps fun c ys ec=> ?_,q,es,ep,hq,h2,h3,h4,h5⟩;rw[cH (zJ3 ec e (fun z=>nomatch z))];exact ec
end
theorem IF{X:Cx}{aa:List (Addr×Obj)}{σ:St}{H:Hp}{s:Af}{a:Addr}{y:V}{o:Option V}(I:cT X aa σ H s)(g:VA H a y o):s.TypeIs (.ref a) "dict":=by
 rcases g with⟨kvs,k,e,_,_⟩|⟨kvs,k,b,e,_,_,_⟩
 ·obtain⟨_,_,vs,_,dd⟩:=P8 I.hok e
  exact dd.typeIs
 ·obtain⟨_,_,xs,_,dd⟩:=NQ I.hok e
  exact dd.typeIs
def zIA(td ty tv:TE):TS:=fun D σ H=>tv σ H fun v H1=>td σ H1 fun x H2=>ty σ H2 fun y H3=> ∃a H4,x= .ref a/\DPut H3 a y v H4/\D.nx σ H4
section
variable{X:Cx}{o i e value:Expr}{pos bq cw:Pos}{td ty tv:TE}
theorem zC4(hu:X.A.units+1<cLine)(ho:PE X o td)(hi:PE X i ty)(hv:PE X value tv)(hs:Hn value (some (.Subscript o i bq)) pos.line X.env=pure false):
  PS X (.Assign [.Subscript o i bq] value pos) (zIA td ty tv):=by
 intro aa s σ H D I h;refine wpAny_Assign_Subscript (ZW (hv aa s σ H _ I h) fun r s1 ⟨v,H1,I1,rv,q1⟩=>ZW (ho aa s1 σ H1 _ I1 q1) fun u s2 ⟨x,H2,I2,rx,q2⟩=>ZW (hi aa s2 σ H2 _ I2 q2) fun iv s3 ⟨y,H3,I3,ry,a,H4,ex,g,q3⟩=> ?_) hs;subst ex;obtain rfl:u=Bo a:=rx;exact C9 hu I3 g ry rv fun s4 I4=>⟨σ,H4,I4,q3⟩
end
theorem IG{P:Bq}{w:World}{H:Hp}(h:Heap)(hb:Fi<h.objs.size):aA P w H (h.push {cls:= .type "dict",data:= .dict #[]}) h.objs.size (.dK []):=
 ⟨Di _,beq_eq_false_iff_ne.mpr (Dr (Be hb)),[],.nil,Qh h⟩
def zEK:TE:=fun _ H Q=> ∀p,H p=none->Q (.ref p) (bN H p (.dK []))
section
variable{X:Cx}{pos:Pos}
theorem AE:PE X (.Dict [] [] pos) zEK:=fun aa s σ H Q I h=>
 wpAny_Dict_empty ⟨.ref s.heap.objs.size,_,I.laid (a:=s.heap.objs.size) (o:= .dK []) (t':=s.toks) (fun _ _ q=>Ad _ q) (Ah _) (IG s.heap I.big),rfl,h _ (I.hok.fresh (Ah _))⟩
end
noncomputable def X0(kvs more:List (bV×V)):List (bV×V):=more.foldl (fun acc kv=>ZF acc kv.1 kv.2) kvs
theorem KV.merge: ∀{more:List (bV×V)} {rs:List (bV×Value)} {kvs:List (bV×V)} {vs:List (bV×Value)},KV more rs->KV kvs vs->KV (X0 kvs more) (merged vs rs):=by
 intro more rs kvs vs r;unfold KV at r;induction r generalizing kvs vs with
 |nil=>intro q;exact q
 | @cons p q ps qs h t ih=>
  intro r0;have e:KV (ZF kvs p.1 p.2) (Rv vs q.1 q.2):=by
   have:=r0.put p.1 h.2;rw[<- h.1];exact this
  exact ih e
structure M1(X:Cx)(o:Expr)(m:Str)(ai:Pos)(e:Expr)(ae:Pos):Prop where
 base:Hs o m X.env (eval o X.env)=eval o X.env
 few:((Gh ae (Aj [e] X.env)).all (fun x=> !x.1) && (Nt ae (Jo [] X.env)).all (fun x=>x.1.isSome)
  && decide (([e]:List Expr).length+([]:List Jp).length+(if([]:List Jp).isEmpty then 0 else 1)<30))=true
 line:(ai.endLine==ae.line)=true
 trees:Gh ae (Aj [e] X.env)=[(false,eval e X.env)]
structure M2(X:Cx)(o:Expr)(m:Str)(ai:Pos)(e f:Expr)(ae:Pos):Prop where
 base:Hs o m X.env (eval o X.env)=eval o X.env
 few:((Gh ae (Aj [e,f] X.env)).all (fun x=> !x.1) && (Nt ae (Jo [] X.env)).all (fun x=>x.1.isSome)
  && decide (([e,f]:List Expr).length+([]:List Jp).length+(if([]:List Jp).isEmpty then 0 else 1)<30))=true
 line:(ai.endLine==ae.line)=true
 trees:Gh ae (Aj [e,f] X.env)=[(false,eval e X.env),(false,eval f X.env)]
def IsD(H:Hp)(a:Addr):Prop:=(∃kvs,Rd H a (.dK kvs))∨ ∃kvs,Rd H a (.dT kvs)
theorem GW{X:Cx}{aa:List (Addr×Obj)}{σ:St}{H:Hp}{s:Af}{a:Addr}(I:cT X aa σ H s)(d:IsD H a):
  s.TypeIs (.ref a) "dict" /\(∀b,Bo a= .ref b-> ∃ob,s.heap.get? b=some ob/\ob.dict=none)/\(a==Fi)=false:=by
 rcases d with⟨kvs,e⟩|⟨kvs,e⟩
 ·obtain⟨_,hd,vs,_,dd⟩:=P8 I.hok e
  refine⟨dd.typeIs,fun b q=> ?_,hd⟩;cases q;obtain⟨ob,_,_,h1,h2,_⟩:=dd;exact⟨ob,h1,h2.2.1⟩
 ·obtain⟨_,hd,xs,_,dd⟩:=NQ I.hok e
  refine⟨dd.typeIs,fun b q=> ?_,hd⟩;cases q;obtain⟨ob,_,_,h1,h2,_⟩:=dd;exact⟨ob,h1,h2.2.1⟩
section
variable{X:Cx}{aa:List (Addr×Obj)}{σ:St}{H:Hp}{s:Af}{a:Addr}{y d:V}{u r:Value}{o:Option V}{A:Cz}{E:Value->Af->Prop}
theorem zH5{Q:Value->Af->Prop}(hu:A.units+1<cLine)(I:cT X aa σ H s)(g:VA H a y o)(ry:cB y u)(h: ∀w' s',cT X aa σ H s'->cB (o.getD .non) w'->Q w' s'):
  wpAny (model X.prog X.w) A (call (.builtin "dict.get") [.ref a,u]) Q E s:=by
 rcases g with⟨kvs,k,e,ey,l⟩|⟨kvs,k,b,e,ey,eb,l⟩
 ·subst ey
  obtain⟨z,hd,vs,rel,dd⟩:=P8 I.hok e;refine Ki Eb dd.typeIs Fg (Ht _ _) (meets_dict_get (bQ X.prog X.w) a (QA ry) hd) ⟨_,dd.mapOf,h _ _ (I.tok _) ?_⟩;rw[l];exact(rel.val k).getD rfl
 ·subst ey
  cases (show u=Bo b from ry);obtain⟨z,hd,xs,rel,dd⟩:=NQ I.hok e;refine Ki Eb dd.typeIs Fg (Ht _ _) (meetsH_dict_get (tupleKind (bQ X.prog X.w)) a b hd) ⟨Gr hu,k,xs,QW I.hok eb,dd,h _ _ (I.tok _) ?_⟩;rw[l];exact(rel.val k).getD rfl
theorem zH4{Q:Value->Af->Prop}(hu:A.units+1<cLine)(I:cT X aa σ H s)(g:VA H a y o)(ry:cB y u)(rd:cB d r)(h: ∀w' s',cT X aa σ H s'->cB (o.getD d) w'->Q w' s'):
  wpAny (model X.prog X.w) A (call (.builtin "dict.get") [.ref a,u,r]) Q E s:=by
 rcases g with⟨kvs,k,e,ey,l⟩|⟨kvs,k,b,e,ey,eb,l⟩
 ·subst ey
  obtain⟨z,hd,vs,rel,dd⟩:=P8 I.hok e;refine Ki Eb dd.typeIs Fg (Le _ _ _) (meets_dict_get_default (bQ X.prog X.w) a (QA ry) hd r) ⟨_,dd.mapOf,h _ _ (I.tok _) ?_⟩;rw[l];exact(rel.val k).getD rd
 ·subst ey
  cases (show u=Bo b from ry);obtain⟨z,hd,xs,rel,dd⟩:=NQ I.hok e;refine Ki Eb dd.typeIs Fg (Le _ _ _) (meetsH_dict_get_default (tupleKind (bQ X.prog X.w)) a b hd r) ⟨Gr hu,k,xs,QW I.hok eb,dd,h _ _ (I.tok _) ?_⟩;rw[l];exact(rel.val k).getD rd
end
def zEL(td ty tx:TE):TE:=fun σ H Q=>td σ H fun x H1=> ∃a,x= .ref a/\IsD H1 a/\ty σ H1 fun y H2=>tx σ H2 fun z H3=> ∃o,VA H3 a y o/\Q (o.getD z) H3
section
variable{X:Cx}{o e f:Expr}{ai ae:Pos}{td ty tx:TE}
theorem AD(hu:X.A.units+1<cLine)(ho:PE X o td)(he:PE X e ty)(hf:PE X f tx)(m:M2 X o "get" ai e f ae):PE X (.Call (.Attribute o "get" ai) [e,f] [] ae) (zEL td ty tx):=by
 intro aa s σ H Q I h;refine Ku m.base m.few m.line Hu Eb Mg (ZW (ho aa s σ H _ I h) fun u s1 ⟨x,H1,I1,rx,a,ex,d,q1⟩=> ?_);subst ex;obtain rfl:u=Bo a:=rx;obtain⟨t1,t2,_⟩:=GW I1 d;refine⟨t1,t2,?_⟩;rw[m.trees];refine Ff rfl (Fv (Es (ZW (he aa s1 σ H1 _ I1 q1) fun iv s2 ⟨y,H2,I2,ry,q2⟩=>
  Es (ZW (hf aa s2 σ H2 _ I2 q2) fun fv s3 ⟨z,H3,I3,rz,ov,g,q3⟩=>Fz ?_))))
 exact zH4 hu I3 g ry rz fun w' s4 I4 rw'=>⟨_,H3,I4,rw',q3⟩
end
end L2
namespace Att
open PySem PySem.W PySem.Calls PyProof.Rows
theorem PX{P:Qa}{h:Heap}: ∀(ns:List Int) (vs:List Value),WellAll P h vs (ns.map WData.int)->Lg vs ns:=by
 intro ns;induction ns with
 |nil=>
  intro vs w;rw[Dg] at w;cases w;exact .nil
 |cons n ns ih=>
  intro vs w;rw[Aq] at w;cases w with
  |cons a b=>
   cases a;exact .cons _ _ (ih _ b)
theorem D4{l:OpenLaw}{n:Nat}(hn:l.most=some n){P:Qa}{h:Heap}{args:List WData}{vals:List Value}
  (hpre:l.row.toRowW.claim.pre args=true) (hwl:WellAll P h vals args):
  ∃a vs ns,vals=[Bo a]/\args=[WData.list (ns.map WData.int)]/\h.get? a=some {cls:= .type "list",data:= .seq vs.toArray}/\Lg vs ns/\ns.length<=n:=by
 have hsh:WShape.hasAll [] args [.list .int]=true:=(pre_splitW hpre).1;have hc:l.pre.holds [] {args:=args}=true:=(pre_splitW hpre).2;obtain⟨d,r,rfl,h1,h2⟩:=hasAllW_cons hsh;obtain rfl:=hasAllW_nil h2;obtain⟨xs,rfl,h3⟩:=hasW_list h1;obtain⟨ns,rfl⟩:=items_int h3;have af:ns.length<=n:=by
  unfold OpenLaw.pre at hc;have h4:(WTm.not (.lt (.lit (.int (n:Int))) (.len (.arg 0)))).holds [] {args:=[.list (ns.map .int)]}=true:=by
   have h4:=(holds_andW hc).1;rw[hn] at h4;exact h4
  have h5:=condW_of h4 (w_not (w_lt w_lit (w_len_list (w_arg rfl))));rw[Bt] at h5;refine Dv fun q=> ?_;have q':(n:Int)<((ns.length:Nat):Int):=by lia
  first
   |(rw[decide_eq_true q'] at h5;exact absurd h5 (by decide))
   |(simp at h5;lia)
 cases hwl with
 |cons w1 w2=>
  cases w2;cases w1 with
  |list ho ik=>exact⟨_,_,ns,rfl,rfl,ho,PX ns _ ik,af⟩
theorem DY(l:OpenLaw)(args:List WData):l.row.toRowW.claim.post args (.bool true) args=true:=
 postW_of (r:=l.row.toRowW) (X:=(true==true))
  (show Sj [] (.bool true) .bool=true by first|rfl|decide|simp[Sj,WShape.arms,WShape.armsAll])
  (show(WTm.eq .res (.lit (.bool true))).value [] {args:=args,res:=some (.bool true),after:=args}=some (.bool (true==true)) from w_eq_bool (w_res rfl) w_lit) rfl
theorem HX{l:OpenLaw}{n:Nat}{q:Bq}{loose:List Str}{XP:(Str->Option Value)->Heap->Prop}{YP:World->Heap->Prop}{d:DefRec}
  (hn:l.most=some n) (hdf:d.params.defaults=[])
  (call: ∀(w:World) (s₀ s₁:Af) (mg mb:Str->Option Value) (fa:Addr) (o:Obj) (pm cd doc:Value) (a:Addr) (vs:List Value) (ns:List Int),
   Ground q loose [] XP w s₀ mg mb s₁.heap->YP w s₁.heap→
   s₁.heap.get? fa=some o->o.data= .func (docDef d.name d.params d.body d.scope pm cd doc)->s₁.heap.CodeRec cd d.name->mg d.name=some (.ref fa)→
   s₁.heap.get? a=some {cls:= .type "list",data:= .seq vs.toArray}->Lg vs ns->ns.length<=n->s₁.gens= #[]→
   Jn (model l.prog w) Nc (.call (.ref fa) ⟨[.ref a],[]⟩) (fun r s'=>r= .ok (.ret (.bool true))/\OldK s₁.heap s'.heap/\s'.os=s₁.os/\Mb s'.gens) s₁):
  WalkO q loose XP YP l.row.toRowW d [] (fun f vs=>Rk f vs):=by
 intro w s₀ s₁ mg mb G Y fa o pm cd doc dV kV ho hd hcd hD hmg hg args vals as hpre hlay hrd hwl hlo;obtain rfl:dV= .none:=Dflts.none hD hdf;obtain rfl:kV= .none:=Dflts.noKw hD;obtain⟨a,vs,ns,rfl,rfl,hobj,hints,af⟩:=D4 hn hpre hwl;refine enter_call (Pe (call w s₀ s₁ mg mb fa o pm cd doc a vs ns G Y ho (fd_plain hd) hcd hmg hobj hints af hg) fun r s' hq=> ?_);obtain⟨rfl,h2,h3,h4⟩:=hq;exact⟨.inl ⟨.bool true,.bool true,[],rfl,fun _=>rfl,.bool true,DY l _,fun _=>⟨Kv,fun _ hm=>(nomatch hm)⟩⟩,h2,h3,h4⟩
end Att
namespace L2
open PySem PySem.Spec PyProof.Rows
theorem MV: ∀{vs:List Value} {ns:List Int},Lg vs ns->b5 (ns.map V.int) vs
 |_,_,.nil=> .nil
 |_,_,.cons n t h=> .cons ⟨t,rfl⟩ (MV h)
def Only(H:Hp):Prop:= ∀b,H b=none∨ ∃o xs,H b=some (.frz o (.lst xs))
theorem zAM{P:Bq}{w:World}{K:Ar}{mg mb:Str->Option Value}{CX:CXT}{k:Nat}{fa a:Addr}{fd:Gp}{x:Str}{sp:Sp}{s₁:Af}{vs:List Value}{ns:List Int}
  (KX:K.In s₁.heap) (hns:s₁.heap.Ns mainGlobals mg) (hb:s₁.heap.Ns builtinsNs mb) (hbb: ∀x:Str,x≠ "__name__" ->mb x=Bj x) (mo:s₁.heap.NoLimit) (hg:s₁.gens= #[])
  (ha:s₁.heap.get? a=some {cls:= .type "list",data:= .seq vs.toArray}) (hi:Lg vs ns) (hl:ns.length<=sizeLine) (hr:XO k Nc)
  (F: ∀base:Heap,K.In base->base.Ns mainGlobals mg->aG P w K mg base CX k fa fd [x] sp) (l9: ∀(s:Af) (u:Value),Qg s fd ⟨[u],[]⟩ [(x,u)])
  (hsp: ∀H:Hp,Only H->X5 K H a (ns.map V.int)->sp [.ref a] H (fun v _=>v= .bl true) fun _ _ _=>False)
  (hCX: ∀H e s',CX [] H s₁ (fun _ _ _=>False) e s'->False):
  Jn (model P w) Nc (.call (.ref fa) ⟨[.ref a],[]⟩) (fun r s'=>r= .ok (.ret (.bool true))/\OldK s₁.heap s'.heap/\s'.os=s₁.os/\Mb s'.gens) s₁:=by
 have rv:=MV hi;have ly:=hi.length;have la: ∀H:Hp,Only H->X5 K H a (ns.map V.int)->SR P w H s₁.heap->(∀b,H b≠none->b=a)->(H a≠none->K.lookup a=none)→
   Jn (model P w) Nc (.call (.ref fa) ⟨[.ref a],[]⟩) (fun r s'=>r= .ok (.ret (.bool true))/\OldK s₁.heap s'.heap/\s'.os=s₁.os/\Mb s'.gens) s₁:=by
  intro H hO hS hok hA hK;have dq: ∀{b:Addr} {o:Obj},s₁.heap.get? b=some o->H b=none->(K5 s₁.heap H).get? b=some o:=fun e n=>zB0 e n;have noA: ∀{b:Addr} {o:Obj} {es:Array Lz} {ep:Nat},s₁.heap.get? b=some o->o.data= .dict es ep->H b=none:=fun{b o es ep} e d=>by
   cases q:H b with
   |none=>rfl
   |some u=>
    have e':b=a:=hA b (by rw[q];simp);subst e';rw[ha] at e;cases e;have d':Data.seq vs.toArray _=Data.dict es ep:=d;cases d'
  have nsK: ∀{b:Addr} {m:Str->Option Value},s₁.heap.Ns b m->(K5 s₁.heap H).Ns b m:=fun{b m} ⟨o,es,ep,e,d,r⟩=>⟨o,es,ep,dq e (noA e d),d,r⟩;have hKb:K.In (K5 s₁.heap H):=fun b o e=>dq (KX b o e) (by
   cases q:H b with
   |none=>rfl
   |some u=>
    have e':b=a:=hA b (by rw[q];simp);subst e';rw[hK (by rw[q];simp)] at e;cases e)
  have hM:Mod K mg (K5 s₁.heap H):=⟨hKb,nsK hns,⟨mb,nsK hb,hbb⟩,let ⟨mc,h1,h2⟩:=mo;⟨mc,nsK h1,h2⟩⟩;have e0:Env0 P w K mg (K5 s₁.heap H) Nc [] s₁ H:=⟨rfl,hM,fun b o e=>zCJ e,Nat.le_of_eq (DH _ _),trivial,fun b hb=>absurd (show b∈([]:List Addr) from hb) (by simp),hok,.of_eq hg⟩;refine Pe ((F _ hKb (nsK hns)).run Nc [] s₁ H ⟨[.ref a],[]⟩ [.ref a] [.ref a] _ _ hr e0 (l9 s₁ (.ref a)) (.cons rfl .nil) (hsp H hO hS)) fun r s' h=> ?_;cases r with
  |error e=>exact(hCX H e s' h).elim
  |ok fl=>
   cases fl with
   |next=>exact Hb h
   |brk=>exact Hb h
   |cont=>exact Hb h
   |ret u=>
    obtain⟨v,H',os,bare,un,me,r',q⟩:=h;have q':v= .bl true:=q;subst q';obtain rfl:u=Rh true:=r';refine⟨rfl,OldK.of_keep fun b o e=> ?_,os,bare⟩;cases q:H b with
    |none=>exact un.keep b o e q (by intro z;exact absurd (show b∈([]:List Addr) from z) (by simp)) (by simp)
    |some u=>
     rcases hO b with z|⟨ob,xs,z⟩
     ·rw[q] at z;cases z
     ·have z2:=un.frzs b ob _ z
      obtain⟨e1,_⟩:=hok b _ z;obtain⟨e2,_⟩:=me b _ z2;rw[e] at e1;cases e1;exact e2
 cases hk:K.lookup a with
 |some o=>
  have e:=KX a o hk;rw[ha] at e;cases e;refine la (fun _=>none) (fun _=> .inl rfl) (.inr ⟨_,vs.toArray,_,hk,rfl,rfl,rfl,by rw[Aw,ly];exact hl,by simpa using rv⟩) (fun b u z=>by have z':(none:Option HO)=some u:=z;cases z') (fun b z=>absurd rfl z) fun z=>absurd rfl z
 |none=>
  refine la (fun b=>if b=a then some (.frz {cls:= .type "list",data:= .seq vs.toArray} (.lst (ns.map V.int))) else none) (fun b=> ?_) (.inl (.inr ⟨{cls:= .type "list",data:= .seq vs.toArray},if_pos rfl⟩)) (fun b u z=> ?_) (fun b z=> ?_) fun _=>hk
  ·by_cases hb:b=a
   ·exact .inr ⟨_,_,if_pos hb⟩
   ·exact .inl (if_neg hb)
  ·by_cases hb:b=a
   ·have z':=(if_pos hb).symm.trans z
    cases z';subst hb;exact⟨ha,by rw[Bt];exact hl,vs,_,rv,ha⟩
   ·have z':=(if_neg hb).symm.trans z
    cases z'
  ·by_cases hb:b=a
   ·exact hb
   ·exact absurd (if_neg hb) z
theorem zBE{l:Rw}{n k:Nat}{q:Bq}{loose:List Str}{XP:(Str->Option Value)->Heap->Prop}{YP:World->Heap->Prop}{d:DefRec}{K:Qa->Ar}{CX:World->CXT}{sp:World->Sp}{x:Str}
  (hn:l.most=some n) (hn2:n<=sizeLine) (hdf:d.params.defaults=[]) (hr:XO k Nc)
  (hY: ∀(w:World) (h:Heap),YP w h->(K w.params).In h)
  (F: ∀(w:World) (mg:Str->Option Value) (fa:Addr) (h:Heap),(K w.params).In h->h.Ns mainGlobals mg->mg d.name=some (.ref fa)→
   ∃fd:Gp,(∀(s:Af) (u:Value),Qg s fd ⟨[u],[]⟩ [(x,u)])∧
    ∀base:Heap,(K w.params).In base->base.Ns mainGlobals mg->aG l.prog w (K w.params) mg base (CX w) k fa fd [x] (sp w))
  (hsp: ∀(w:World) (H:Hp) (a:Addr) (ns:List Int),ns.length<=n->Only H->X5 (K w.params) H a (ns.map V.int)->sp w [.ref a] H (fun v _=>v= .bl true) fun _ _ _=>False)
  (hCX: ∀(w:World) (H:Hp) (s:Af) (e:Value) (s':Af),CX w [] H s (fun _ _ _=>False) e s'->False):
  W.WalkO q loose XP YP l.row.toRowW d [] (fun f vs=>Rk f vs):=by
 refine Att.HX hn hdf fun w s₀ s₁ mg mb fa o pm cd doc a vs ns G Y ho hd hcd hmg hobj hints af hg=> ?_;have KX:=hY w _ Y;obtain⟨fd,hb,hF⟩:=F w mg fa _ KX G.T.g hmg;exact zAM KX G.T.g G.T.b G.T.builtins G.T.nolimit hg hobj hints (Cb af hn2) hr hF hb (fun H hO hS=>hsp w H a ns af hO hS) fun H e s'=>hCX w H s₁ e s'
theorem B8{l:Rw}{n k:Nat}{q:Bq}{loose:List Str}{XP:(Str->Option Value)->Heap->Prop}{YP:World->Heap->Prop}{d:DefRec}{K:Qa->Ar}{CX:CXT}{sp:Ar->Sp}{x:Str}
  (hn:l.most=some n) (hn2:n<=sizeLine) (hdf:d.params.defaults=[]) (hr:XO k Nc)
  (hY: ∀(w:World) (h:Heap),YP w h->(K w.params).In h)
  (F: ∀(w:World) (mg:Str->Option Value) (fa:Addr) (h:Heap),(K w.params).In h->h.Ns mainGlobals mg->mg d.name=some (.ref fa)→
   ∃fd:Gp,(∀(s:Af) (u:Value),Qg s fd ⟨[u],[]⟩ [(x,u)])∧
    ∀base:Heap,(K w.params).In base->base.Ns mainGlobals mg->aG l.prog w (K w.params) mg base CX k fa fd [x] (sp (K w.params)))
  (hsp: ∀(K:Ar) (H:Hp) (a:Addr) (ns:List Int),ns.length<=n->Only H->X5 K H a (ns.map V.int)->sp K [.ref a] H (fun v _=>v= .bl true) fun _ _ _=>False)
  (hCX: ∀(H:Hp) (s:Af) (e:Value) (s':Af),CX [] H s (fun _ _ _=>False) e s'->False):
  W.WalkO q loose XP YP l.row.toRowW d [] (fun f vs=>Rk f vs):=
 zBE (K:=K) (CX:=fun _=>CX) (sp:=fun w=>sp (K w.params)) hn hn2 hdf hr hY F (fun w H a ns h1 h2 h3=>hsp (K w.params) H a ns h1 h2 h3) fun _ H s e s'=>hCX H s e s'
noncomputable def X9(s:Stmt):Arguments:=match s with
 | .FunctionDef _ a _ _ _ _ _ _ _ _=>a
 |_=>{posonlyargs:=[],args:=[],vararg:=none,kwonlyargs:=[],kw_defaults:=[],kwarg:=none,defaults:=[]}
noncomputable def ZL(s:Stmt):List Stmt:=match s with
 | .FunctionDef _ _ b _ _ _ _ _ _ _=>b
 |_=>[]
noncomputable def cY(s:Stmt):Scope:=match s with
 | .FunctionDef _ _ _ _ _ _ sc _ _ _=>sc
 |_=>{kind:= .function,names:=[],isGenerator:=false,isCoroutine:=false}
abbrev CX0:CXT:=fun _ _ _ _ _ _=>False
abbrev E0:XK:=fun _ _ _=>False
theorem zIP{X:Cx}:GJ CX0 X E0:=fun _ _ _ _ _ _ _ h=>h.elim
structure WE(K:Ar)(x qual:Str)(st:Stmt)(f:Addr)(fd:Gp):Prop where
 ex: ∃(oc:Value) (od:Option Addr) (kV doc pm:Value) (an:Option Addr) (cdv ct:Value) (osl:Array (Option Value)),
  fd=Mx x qual (X9 st) (ZL st) (cY st) .none kV doc pm an cdv ct/\K.lookup f=some ⟨oc,od,.func fd,osl⟩/\Nq K cdv qual=true
 kp:Mq K (.ref f)=true
section
variable{P:Bq}{w:World}{K:Ar}{mg:Str->Option Value}{base:Heap}
theorem WE.ok{x qual:Str}{st:Stmt}{f:Addr}{fd:Gp}{N ps:List Str}{k:Nat}{sp:Sp}(F:WE K x qual st f fd)(S:cJ N ps (cY st))(len: ∀vs H Q E,sp vs H Q E->vs.length=ps.length)
  (ca: ∀(cdv:Value) (A:Cz) (outer:List Env) (s:Af) (H:Hp) (vs:List V) (Q:VK) (E:XK),XO k (A.deeper (Lp qual (cY st) s.heap.objs.size f cdv))->sp vs H Q E→
   ∃t,PR (IE CX0 P w K mg base N qual (cY st) f cdv A outer s H E).nox (ZL st) t/\t {nx:=fun _ H'=>Q .non H',rt:=Q} (start N vs) H):aG P w K mg base CX0 (k+1) f fd ps sp:=by
 obtain⟨oc,od,kV,doc,pm,an,cdv,ct,osl,rfl,lk,hcd⟩:=F.ex;refine zJP lk hcd S len fun A outer s H vs Q E hr hsp=> ?_;obtain⟨t,h,q⟩:=ca cdv A outer s H vs Q E hr hsp;exact⟨t,h.nox,q⟩
theorem WE.binds{x qual:Str}{st:Stmt}{f:Addr}{fd:Gp}{ps:List Str}(F:WE K x qual st f fd)
  (h: ∀(kV doc pm:Value) (an:Option Addr) (cdv ct:Value) (us:List Value),us.length=ps.length->bindArgs (Mx x qual (X9 st) (ZL st) (cY st) .none kV doc pm an cdv ct) ⟨us,[]⟩=pure (ps.zip us)):LP K fd ps []:=by
 obtain⟨oc,od,kV,doc,pm,an,cdv,ct,osl,rfl,lk,hcd⟩:=F.ex;exact .all (h kV doc pm an cdv ct)
theorem zB2{x qual:Str}{st:Stmt}{f:Addr}{oc:Value}{od an:Option Addr}{osl:Array (Option Value)}{kV doc pm cdv ct:Value}(l:K.lookup f=some ⟨oc,od,.func (Mx x qual (X9 st) (ZL st) (cY st) .none kV doc pm an cdv ct),osl⟩)
  (c:Nq K cdv qual=true) (k:Mq K (.ref f)=true):WE K x qual st f (Mx x qual (X9 st) (ZL st) (cY st) .none kV doc pm an cdv ct):=⟨⟨oc,od,kV,doc,pm,an,cdv,ct,osl,rfl,l,c⟩,k⟩
end
theorem zJL{A:Cz}{k:Nat}(hr:XO k A):A.units+1<cLine:=Nv (Nat.add_le_add_left (by decide:1<=64) _) hr.units
section
variable{X:Cx}
theorem pv(i:Nat){x:Str}{pos:Pos}(hN:X.N[i]? =some x:=by rfl)(hv:Vis X.env.scope x:=by first|exact Mh rfl|exact Mi (Mh rfl)|exact Mi (Mi rfl))(hd:(x==("__debug__":Str))=false:=by decide)
  (hcd:(x==("__classdict__":Str))=false:=by decide):PE X (.Name x pos) (SJ i):=HA hN hv hd hcd
end
theorem NC{A B:Prop}(h:B):if false=true then A else B:=by
 rw[if_neg Dt];exact h
theorem ND{A B:Prop}(h:A):if true=true then A else B:=by
 rw[if_pos rfl];exact h
def bI(H H':Hp):Prop:= ∀b o,H b=some o->H' b=some o
theorem bI.refl(H:Hp):bI H H:=fun _ _ h=>h
theorem bI.trans{H H1 H2:Hp}(a:bI H H1)(b:bI H1 H2):bI H H2:=fun c o h=>b c o (a c o h)
theorem bI.seq{K:Ar}{H H':Hp}{a:Addr}{xs:List V}(e:bI H H')(h:X5 K H a xs):X5 K H' a xs:=by
 rcases h with(h|⟨o,h⟩)|h
 ·exact .inl (.inl (e _ _ h))
 ·exact .inl (.inr ⟨o,e _ _ h⟩)
 ·exact .inr h
theorem KU{env:Env}{f:Str×NameKind->List (Str×Addr)->Sem (ForInStep (List (Str×Addr)))}
  (hf: ∀n k r,f (n,k) r=if(k==Bp)=true then(cellOf env n>>=fun c=>pure (Dc ((n,c)::r))) else pure (Dc r)):
  ∀(names:List (Str×NameKind)) (cs:List (Str×Addr)),(∀y∈names,y.2= .free-> ∃c,env.cells.lookup y.1=some c)→
   ∃cl,forIn names cs f=(pure cl:Sem (List (Str×Addr)))/\(∀x c,cl.lookup x=some c->cs.lookup x=some c∨env.cells.lookup x=some c)∧
    (∀x c,cs.lookup x=some c-> ∃c',cl.lookup x=some c')/\ ∀x,(x,Bp)∈names-> ∃c,cl.lookup x=some c
 |[],cs,_=>⟨cs,rfl,fun _ _ e=> .inl e,fun _ c e=>⟨c,e⟩,fun _ h=>nomatch h⟩
 | (n,k) :: r,cs,h => by
  have hr: ∀y∈r,y.2= .free-> ∃c,env.cells.lookup y.1=some c:=fun y hy=>h y (Ap _ hy);by_cases hk:k= .free
  ·subst hk
   obtain⟨c,hc⟩:=h (n,.free) Au rfl;have hc:env.cells.lookup n=some c:=hc;obtain⟨cl,e1,e2,e3,e4⟩:=KU hf r ((n,c)::cs) hr;refine⟨cl,?_,fun x c' e=> ?_,fun x c' e=> ?_,fun x hx=> ?_⟩
   ·rw [Jq,hf,if_pos (show (Bp == Bp) = true by decide)]
    have ec:cellOf env n=pure c:=by unfold cellOf;rw[hc]
    rw[ec,pure_bind,pure_bind];exact e1
   ·rcases e2 x c' e with q|q
    ·by_cases hx:x=n
     ·subst hx
      rw[Ec] at q;cases q;exact .inr hc
     ·rw[Cp,beq_eq_false_iff_ne.mpr hx] at q
      exact .inl q
    ·exact .inr q
   ·by_cases hx:x=n
    ·subst hx
     exact e3 x c (Ec ..)
    ·refine e3 x c' ?_
     rw[Cp,beq_eq_false_iff_ne.mpr hx];exact e
   ·rcases Ai.mp hx with q|q
    ·cases q
     exact e3 n c (Ec ..)
    ·exact e4 x q
  ·obtain⟨cl,e1,e2,e3,e4⟩:=KU hf r cs hr
   refine⟨cl,?_,e2,e3,fun x hx=> ?_⟩
   ·have hb : ¬ (k == Bp) = true := by simpa using hk
    rw[Jq,hf,if_neg hb,pure_bind];exact e1
   ·rcases Ai.mp hx with q|q
    ·cases q
     exact absurd rfl hk
    ·exact e4 x q
theorem KW{env:Env}{scope:Scope}(h: ∀y∈scope.names,y.2= .free-> ∃c,env.cells.lookup y.1=some c):
  ∃cl,closureFor scope env=pure cl/\(∀x c,cl.lookup x=some c->env.cells.lookup x=some c)/\ ∀x,(x,Bp)∈scope.names-> ∃c,cl.lookup x=some c:=by
 simp only[closureFor];obtain⟨cl,e1,e2,_,e4⟩:=KU (env:=env) (f:=fun x r=>match x with
  |(name,kind)=>if(kind==Bp)=true then(cellOf env name>>=fun c=>pure (Dc ((name,c)::r))) else pure (Dc r)) (fun _ _ _=>rfl) scope.names [] h
 refine⟨cl,?_,fun x c e=> ?_,e4⟩
 ·first
   |exact e1
   |(refine Eq.trans (congrArg (fun m=>m>>=pure) e1) ?_;exact pure_bind _ _)
 ·rcases e2 x c e with q|q
  ·cases q
  ·exact q
noncomputable def aV(ix:List Nat)(σ:St):St:=ix.map fun i=>(σ[i]?).join
def PTs(Y:Cx)(ifs:List Expr)(tt:TT):Prop:=
 ∀(aa:List (Addr×Obj)) (s:Af) (σ:St) (H:Hp) (Q:Bool->Hp->Prop),cT Y aa σ H s->tt σ H Q→
  wpAny (model Y.prog Y.w) Y.A (forIn ifs true fun c r=>if r=true then do let ok<- isTrue c Y.env (eval c Y.env);pure (Dc ok) else pure (Dc r)) (TP Y aa σ Q) Y.xe s
def tYes:TT:=fun _ H Q=>Q true H
theorem zC2{Y:Cx}:PTs Y [] tYes:=fun _ _ _ H _ I h=>wpAny_tests_nil ⟨H,I,h⟩
theorem zC1{Y:Cx}{c:Expr}{tt:TT}(h:PT Y c tt):PTs Y [c] tt:=fun aa s σ H Q I hw=>wpAny_tests_one (h aa s σ H Q I hw)
structure Blk(Y:Cx)(tg:Expr)(ifs:List Expr)(elt:Expr)(g:TG)(tt:TT)(te:TE):Prop where
 tg:PG Y tg g
 ts:PTs Y ifs tt
 el:PE Y elt te
theorem C6{prog:Bq}{w:World}{A:Cz}{s:Af}{elt ax iter:Expr}{ifs:List Expr}{scope:Scope}{pos:Pos}{it acc:Value}{env:Env}{R:Ru->Af->Prop}(I:Nat->Af->Prop)
  (turn : ∀ n s,I n s -> wpAny (model prog w) A (pyNext it) (fun r s₁ => match r with
   |none=>R (.ok .next) s₁
   | some v => wpAny (model prog w) A (Ho ax it v) (fun _ s₀ => wpAny (model prog w) A (Gv ax env v) (fun _ s₂ =>
     wpAny (model prog w) A (forIn ifs true fun c r=>if r=true then do let ok<- isTrue c env (eval c env);pure (Dc ok) else pure (Dc r)) (fun ok s₃=>if ok=true then wpAny (model prog w) A (eval elt env) (fun x s₄=>
      wpAny (model prog w) A (call (.builtin "list.append") [acc,x]) (fun _ s₅=> ∃m,m<n/\I m s₅) (fun _ _=>False) s₄) (fun _ _=>False) s₃
      else∃m,m<n/\I m s₃) (fun _ _=>False) s₂)
     (fun _ _=>False) s₀) (fun _ _=>False) s₁) (fun _ _=>False) s)
  (n:Nat) (h:I n s):Jn (model prog w) A (.compLoop (.ListComp elt [⟨ax,iter,ifs,0⟩] scope pos) 0 it acc env) R s:=by
 refine codeAny_loop rfl I (fun n s hI=> ?_) n h;show wpAny _ A ((compTurn (.ListComp elt [⟨ax,iter,ifs,0⟩] scope pos) 0 it acc env).onRaise (fun x=>do noteFrame x env;theTreesLotGoes x)) _ _ s;refine wpAny_noted ?_;rw[compTurn_list];refine Ac (Ge (Ac (Bm (turn n s hI) (fun r s₁ h₁=> ?_) fun _ _ h'=>h'.elim)));cases r with
 |none=>exact Ak h₁
 |some v=>
  refine Ac (Bm h₁ (fun _ s₀ h₀'=> ?_) fun _ _ h'=>h'.elim);refine Ac (Bm h₀' (fun _ s₂ h₂=> ?_) fun _ _ h'=>h'.elim);refine Ac (Bm h₂ (fun okb s₃ h₃=> ?_) fun _ _ h'=>h'.elim);cases okb with
  |false=>exact Ak ⟨rfl,h₃⟩
  |true=>exact Ac (Ac (Bm h₃ (fun x s₄ h₄=>Ac (Bm h₄ (fun _ s₅ h₅=>Ak (Ak ⟨rfl,h₅⟩)) fun _ _ h'=>h'.elim)) fun _ _ h'=>h'.elim))
section
variable{X:Cx}{aa:List (Addr×Obj)}{σ:St}{H H':Hp}{s s1 s':Af}{h'':Heap}
theorem cT.offNew{σ':St}{H1:Hp}(I1:cT X aa σ H1 s1)(I':cT X aa σ' H' s')(hn:H' s1.heap.objs.size=none)(sb: ∀b o,b≠s1.heap.objs.size->s'.heap.get? b=some o->h''.get? b=some o):
  cT X aa σ' H' {s' with heap:=h''}:=
 I'.turned (t':=s'.toks) (it:=s1.heap.objs.size) sb hn (Gw I1.lt) (.inr I1.sz)
  (fun x c e z => by
   obtain⟨v,q⟩:=I1.cell x c e;have:=q.lt;rw[z] at this;exact Cd _ this)
  fun p hp z=>by
   have:=An (I1.pin p hp).1;rw[z] at this;exact Cd _ this
end
def zE3(D:Addr)(ix:List Nat)(nl:Nat)(J:It)(g:TG)(tt:TT)(te:TE)(σ:St)(H0:Hp)(Q:Hp->Prop):Prop:=
 ∃W:Nat->Nat->List V->Hp->Prop,(∃m,W 0 m [] (bN H0 D (.lst [])))/\ ∀i m acc H1,W i m acc H1→
  (J.stop i H1/\Q H1)∨
  (J.go i H1/\ ∃N:List V->Hp->Prop,(∀ao H',N ao H'-> ∃m',m'<m/\W (i+1) m' ao H')∧
   ∀x H2,J.yld i H1 x H2->g x (aV ix σ++Bd nl none) H2 fun σ2 H3=>σ2.take ix.length=aV ix σ∧
    tt σ2 H3 fun b H4=>if b=true then te σ2 H4 fun v H5=>H5 D=some (.lst acc)/\acc.length<sizeLine/\N (acc++[v]) (bN H5 D (.lst (acc++[v]))) else N acc H4)
theorem V6{env:Env}{x:Str}: ∀{l:List (Str×NameKind)},l.lookup x=some .free→
  (l.map fun(n,k)=>if(k==Bp && env.scope.kind== .function && env.kindOf n==some .cell) then(n,Bz) else(n,k)).lookup x=some .cell∨
  (l.map fun(n,k)=>if(k==Bp && env.scope.kind== .function && env.kindOf n==some .cell) then(n,Bz) else(n,k)).lookup x=some .free
 |[],h=>by cases h
 | (n,k) :: r,h => by
  show Nd x ((if(k==Bp && env.scope.kind== .function && env.kindOf n==some .cell)=true then(n,Bz) else(n,k))::_)=some .cell∨Nd x ((if(k==Bp && env.scope.kind== .function && env.kindOf n==some .cell)=true then(n,Bz) else(n,k))::_)=some .free;by_cases hx:x=n
  ·subst hx
   rw[Ec] at h;cases h;by_cases hc:(Bp==Bp && env.scope.kind== .function && env.kindOf x==some .cell)=true
   ·left
    rw[if_pos hc,Ec]
   ·right
    rw[if_neg hc,Ec]
  ·have hb:(x==n)=false:=beq_eq_false_iff_ne.mpr hx
   simp only[Cp,hb] at h;have ih:=V6 (env:=env) h;by_cases hc:(k==Bp && env.scope.kind== .function && env.kindOf n==some .cell)=true
   ·rw[if_pos hc]
    simp only[Cp,hb];exact ih
   ·rw[if_neg hc]
    simp only[Cp,hb];exact ih
def F6(ix:List Nat)(nl:Nat)(wi:TI)(g:TG)(tt:TT)(te:TE):TE:=fun σ H Q=>wi σ H fun J H0=> ∀D,H0 D=none->zE3 D ix nl J g tt te σ H0 fun H'=>Q (.ref D) H'
mutual
inductive Dp(K:Ar)(H:Hp):V->My->Prop
 |non:Dp K H .non .none
 |bl (b:Bool):Dp K H (.bl b) (.bool b)
 |int (i:Int):Dp K H (.int i) (.int i)
 |str (x:Str):Dp K H (.str x) (.str x)
 |lst {a:Addr} {xs:List V} {ds:List My}:X5 K H a xs->NI K H xs ds->Dp K H (.ref a) (.list ds)
 |tup {a:Addr} {xs:List V} {ds:List My}:WS K H a xs->NI K H xs ds->Dp K H (.ref a) (.tuple ds)
inductive NI(K:Ar)(H:Hp):List V->List My->Prop
 |nil:NI K H [] []
 |cons {v:V} {vs:List V} {d:My} {ds:List My}:Dp K H v d->NI K H vs ds->NI K H (v::vs) (d::ds)
end
section
variable{X:Cx}{aa:List (Addr×Obj)}{σ:St}{H:Hp}{s:Af}
mutual
theorem cT.reads(I:cT X aa σ H s): ∀{v:V} {d:My} {u:Value},Dp X.K H v d->cB v u-> ∃as,Reads s.heap u d as
 |_,_,_,.non,r=>by cases r;exact⟨_,.none⟩
 |_,_,_,.bl b,r=>by cases r;exact⟨_,.bool b⟩
 |_,_,_,.int i,r=>by obtain⟨t,rfl⟩:=r;exact⟨_,.int i t⟩
 |_,_,_,.str x,r=>by obtain⟨t,rfl⟩:=r;exact⟨_,.str x t⟩
 |_,_,_,.lst q all,r=>by
  cases r;obtain⟨its,rv,⟨o,n,e,c,_,d⟩,_⟩:=I.list q;obtain⟨as,h⟩:=cT.readsAll I all rv;exact⟨_,.list e c d (by simpa using h)⟩
 |_,_,_,.tup q all,r=>by
  cases r;obtain⟨its,rv,⟨o,e,c,n,d⟩,_⟩:=I.tuple q;obtain⟨as,h⟩:=cT.readsAll I all rv;exact⟨_,.tuple e c d (by simpa using h)⟩
theorem cT.readsAll(I:cT X aa σ H s): ∀{vs:List V} {ds:List My} {us:List Value},NI X.K H vs ds->b5 vs us-> ∃as,ReadsAll s.heap us ds as
 |_,_,_,.nil,r=>by cases r;exact⟨_,.nil⟩
 | _,_,_,.cons h t,r => by
  cases r with
  |cons r1 r2=>
   obtain⟨as,h1⟩:=cT.reads I h r1;obtain⟨bs,h2⟩:=cT.readsAll I t r2;exact⟨_,.cons h1 h2⟩
end
end
def rEqD(K:Ar):R2:=fun x y H Q=> ∃d e,Dp K H x d/\Dp K H y e/\Er d=true/\Er e=true/\Q (.bl (Jj d e)) H
def rNeD(K:Ar):R2:=fun x y H Q=> ∃d e,Dp K H x d/\Dp K H y e/\Er d=true/\Er e=true/\Q (.bl (!PyData.eqv d e)) H
section
variable{X:Cx}
theorem zFU(hu:X.A.units+64<cLine):XD X (Cw .Eq) (rEqD X.K):=by
 intro aa s σ H x y v u Q I rx ry h;obtain⟨d,e,hd,he,sd,se,q⟩:=h;obtain⟨as,h1⟩:=I.reads hd rx;obtain⟨bs,h2⟩:=I.reads he ry;exact eq_dataH h1 h2 sd se hu (K3 I q rfl)
theorem zFQ(hu:X.A.units+64<cLine):XD X (Cw .NotEq) (rNeD X.K):=by
 intro aa s σ H x y v u Q I rx ry h;obtain⟨d,e,hd,he,sd,se,q⟩:=h;obtain⟨as,h1⟩:=I.reads hd rx;obtain⟨bs,h2⟩:=I.reads he ry;exact ne_dataH h1 h2 sd se hu (K3 I q rfl)
theorem V7: ∀{us:List Value} {ns:List Int},Lg us ns->b5 (ns.map V.int) us
 |_,_,.nil=> .nil
 |_,_,.cons i t h=> .cons ⟨t,rfl⟩ (V7 h)
theorem RU: ∀{ns:List Int} {us:List Value},b5 (ns.map V.int) us->Lg us ns
 |[],_,.nil=> .nil
 |i::ns,_,.cons r t=>by
  obtain⟨k,rfl⟩:=r;exact .cons i k (RU t)
theorem QN:aX X (.builtin "sorted") (fun xs H Q=> ∃(p:Addr) (ns:List Int),xs=[.ref p]/\X5 X.K H p (ns.map V.int)/\ns.length<64∧
  ∀(l:Addr) (ms:List Int),H l=none->ms.Perm ns->ms.Pairwise (· <= ·)->Q (.ref l) (bN H l (.lst (ms.map V.int)))):=by
 intro aa s σ H xs us Q I r h;obtain⟨p,ns,rfl,hq,hl,q⟩:=h;obtain⟨u,rfl,rx⟩:=VN r;cases rx;obtain⟨its,rv,pl,hz⟩:=I.list hq;have af:=rv.length;rw[Bt] at af;refine sorted_ints pl.isList (RU rv) (by lia) fun out ms a1 a2 a3=> ?_;obtain⟨e,he⟩:=sortedAll_at s.heap its out;have hml:ms.length=ns.length:=a2.length_eq;have hn:H (s.heap.objs.size+1)=none:=I.hok.fresh (Fa _);refine⟨.ref (s.heap.objs.size+1),_,I.laid (a:=s.heap.objs.size+1) (o:= .lst (ms.map V.int)) (t':=s.toks) (fun b o=>sortedAll_old) (Fa _) ?_,rfl,q _ ms hn a2 a3⟩;refine⟨by rw[Bt,Cm];lia,out.toList,e,V7 a1,?_⟩;rw[he]
def rngP(p:Addr)(a b c:Int):Heap->Prop:=fun h=> ∃t u v,IsRange h p a b c t u v
inductive LS:List Lz->List (Str×V)->Prop
 |nil:LS [] []
 |cons {e:Lz} {es:List Lz} {x:Str} {t:Tok} {v:V} {D:List (Str×V)}:e.key= .str x t->cB v e.val->LS es D->LS (e::es) ((x,v)::D)
def KTab(K:Ar)(a:Addr)(D:List (Str×V)):Prop:=
 (a==Fi)=false/\ ∃o es ep,K.lookup a=some o/\o.ExactDict/\o.data= .dict es ep/\LS es.toList D
theorem LS.rows{es:List Lz}{D:List (Str×V)}(h:LS es D):KTD.Rows cB es D:=by
 induction h with
 |nil=>exact .nil
 |cons h1 h2 _ ih=>exact .cons h1 h2 ih
theorem IS{A:Cz}{E:Value->Af->Prop}{s:Af}{K:Ar}{prog:Bq}{w:World}{a:Addr}{D:List (Str×V)}{k:Str}{tk:Tok}{Q:Option Value->Af->Prop}(hK:K.In s.heap)(T:KTab K a D)
  (h1: ∀d v,Fu k D=some d->cB d v->Q (some v) {s with toks:=s.toks+1}) (h2:Fu k D=none->Q none {s with toks:=s.toks+1}):
  wpAny (model prog w) A (dictGet a (.str k tk)) Q E s:=by
 obtain⟨_,o,es,ep,ho,hc,hd,hr⟩:=T;have ho:=hK _ _ ho;have hr:=hr.rows;unfold dictGet;try with_reducible refine Ci ?_
 refine Ac (wpAny_pyHash_str (Ac (KTD.kt_dictFind_strs (s:={s with toks:=s.toks+1}) ho hd (by obtain⟨l⟩:=es;simpa using hr.exact) ?_)));have hq:Q (findBy (fun k v=>v.isStr k) es k) {s with toks:=s.toks+1}:=by
  have hf:findBy (fun k v=>v.isStr k) es k=(es.toList.find? fun e=>e.key.isStr k).map (·.val):=by
   obtain⟨l⟩:=es;simp[findBy]
  rw[hf];cases hat:Fu k D with
  |some d=>obtain⟨v,hv,hfl⟩:=hr.find_some hat;rw[hv];exact h1 d v hat hfl
  |none=>rw[hr.find_none hat];exact h2 hat
 rw[findBy_of_findIdx?] at hq;cases hi:es.findIdx? fun e=>e.key.isStr k with
 |none=>rw[hi] at hq;exact Ak hq
 |some i=>rw[hi] at hq;exact Ac (wpAny_dictEntries (s:={s with toks:=s.toks+1}) ho hd (Ak hq))
theorem zCV:CQ X (fun x y H Q=> ∃a k D v,x= .ref a/\y= .str k/\KTab X.K a D/\Fu k D=some v/\Q v H):=by
 intro value slice aa s σ H x y v u Q I rx ry h hs;obtain⟨a,k,D,d,rfl,rfl,T,hk,q⟩:=h;cases rx;obtain⟨t,rfl⟩:=ry;have hT:s.TypeIs (.ref a) "dict":=by
  obtain⟨_,o,es,ep,ho,hc,_⟩:=T;exact⟨o,I.kIn _ _ ho,hc.1⟩
 have main:wpAny (model X.prog X.w) X.A (Ld (.ref a) (.str k t)) (EP X aa σ Q) X.xe s:=by
  unfold Ld;try with_reducible refine Ci ?_
  refine Ac (Kt hT (by decide) ?_);refine Ac (Dq (name:=At "__getitem__") hT Kk
   (Dn Kk hT PySem.F.entry_dict_getitem ?_ (PySem.F.args_dict_getitem_2 _ _)))
  show wpAny _ _ (dictGet a (.str k t)>>=_) _ _ s;exact Ac (IS I.kIn T (fun d' v' ha hv=>Ak ⟨v',rfl,Ak (by
   rw[hk] at ha;cases ha;exact⟨d,H,I.tok _,hv,q⟩)⟩) fun hn=>by rw[hk] at hn;cases hn)
 exact Rn hT PySem.F.slot_dict_getitem.lookup main hs
end
section
variable{prog:Bq}{w:World}{A:Cz}{E:Value->Af->Prop}{s:Af}
theorem L5{it t:Addr}{items:Array Value}(hne:t≠it): ∀(n i:Nat) (s:Af) (Q:List Value->Af->Prop),s.heap.IsListIter it t i->s.heap.IsList t items->i+n<=items.size→
  (∀h',h'.IsListIter it t (i+n)->Fk it s.heap h'->Q ((items.toList.drop i).take n) {s with heap:=h'})->wpAny (model prog w) A (draw (.ref it) n) Q E s
 |0,i,s,Q,hit,_,_,hQ=>by
  show wpAny _ _ (pure []) Q E s;exact Ak (by simpa using hQ s.heap hit (Heap.SameBut.refl ..))
 |n+1,i,s,Q,hit,ht,hle,hQ=>by
  have hlt:i<items.size:=by lia
  show wpAny _ _ (pyNext (.ref it)>>=_) Q E s;refine Ac (Lv hit ht (x:=items[i]) (by simp[hlt]) fun h₁ hit₁ hs₁=> ?_);refine Ac (Ci (L5 hne n (i+1) _ _ hit₁ (ht.extBut hs₁.extBut hne) (by lia) fun h₂ hit₂ hs₂=>Ak ?_));have hd:items.toList.drop i=items[i]::items.toList.drop (i+1):=by simp[De,hlt]
  have:=hQ h₂ (by rw[show i+(n+1)=i+1+n by lia];exact hit₂) (hs₁.trans hs₂);rw[hd,List.take_succ_cons] at this;exact this
theorem Q9{t:Addr}{items:Array Value}{Q:List Value->Af->Prop}(hh:A.handled=none)(ht:s.heap.IsList t items)
  (hQ: ∀h',Jr s.heap.objs.size s.heap h'->Q items.toList {s with heap:=h'}):wpAny (model prog w) A (Jm (.ref t) items.size none) Q E s:=by
 have hlt:t≠s.heap.objs.size:=by obtain⟨o,ho,_⟩:=ht;exact Be (An ho)
 unfold Jm;refine Ac ?_
 ·unfold notIterableAtAll
  refine Ac (Mj ht.typeIs PySem.F.slot_list_iter.lookup ?_);refine Ak ?_;simp only[Fn,if_false];refine Ac (Ci (Hc ht ?_));have htp:(s.heap.push {cls:= .type "list_iterator",data:= .fields #[.ref t,.int 0 0]}).IsList t items:=by
   obtain⟨o,ho,r⟩:=ht;exact⟨o,Ad _ ho,r⟩
  refine Ac (Ci (L5 hlt items.size 0 _ _ ⟨_,As _ rfl,rfl,rfl⟩ htp (by lia) fun h₁ hit₁ hs₁=> ?_));have ik:List.take items.size (List.drop 0 items.toList)=items.toList:=by rw[Mz];exact Cn (by simp)
  rw[ik];rw[if_neg (by simp)];have ht₁:h₁.IsList t items:=htp.extBut hs₁.extBut hlt;refine Ac (Ci (Md hh hit₁ ht₁ (by simp) fun h₂ he₂=> ?_));simp only[Option.isSome_none,Fn,if_false];refine Ak (hQ h₂ fun b o hb e=>he₂ b o hb (hs₁.extBut b o hb (Ad _ e)))
theorem RH{env:Env}{gw:List Expr}{x1}{pos:Pos}{t:Addr}{items:Array Value}{Q:Unit->Af->Prop}(hh:A.handled=none)(ht:s.heap.IsList t items)
  (hn:(assignEach gw env).length=items.size) (kz:(assignEach gw env).findIdx? (·.1)=none)
  (h: ∀h',Jr s.heap.objs.size s.heap h'->wpAny (model prog w) A (assignInOrder ((assignEach gw env).map (·.2)) items.toList) Q E {s with heap:=h'}):
  wpAny (model prog w) A (Gv (.Tuple gw x1 pos) env (.ref t)) Q E s:=by
 rw[assign_Tuple];refine Ac (Ge ?_);unfold unpack;rw[hn,kz];exact Ac (Ci (Q9 hh ht h))
end
section
variable{X:Cx}{pos:Pos}
def gLst(K:Ar)(n:Nat)(t:CZ):TG:=fun v σ H Q=> ∃a xs,v= .ref a/\X5 K H a xs/\xs.length=n/\t xs σ H Q
theorem zFH{es:List Expr}{k:Nat}{t:CZ}{n:Nat}(hc:X.calm=true)(h:EM X es t)
  (hn:(assignEach es X.env).length=n:=by rfl) (hst:(assignEach es X.env).findIdx? (·.1)=none:=by rfl):PG X (.Tuple es k pos) (gLst X.K n t):=by
 intro aa s σ H v u Q I r hw;obtain⟨a,xs,e1,hq,hl,hw⟩:=hw;subst e1;cases r;obtain⟨its,rv,ht,hz⟩:=I.list hq;refine RH (I.ok.hd hc) ht.isList (by simp[hn,<- hl,rv.length]) hst fun h' hx=> ?_;have I1:cT X aa σ H {s with heap:=h'}:=I.kept (t':=s.toks) fun b o e=>hx b o (Be (An e)) e;exact h aa _ σ H xs _ Q I1 (by simpa using rv) hw
end
section
variable{X:Cx}{K:Ar}
theorem zJB(h:X.K=K):aX X (.type "list") (fun xs H Q=> ∃p ys,xs=[.ref p]/\(X5 K H p ys∨WS K H p ys)/\ ∀l,H l=none->Q (.ref l) (bN H l (.lst ys))):=by subst h;exact KO
theorem zGT(h:X.K=K):aX X (.type "tuple") (fun xs H Q=> ∃p ys,xs=[.ref p]/\((X5 K H p ys/\ ∀l,H l=none->Q (.ref l) (bN H l (.tup ys)))∨(WS K H p ys/\Q (.ref p) H))):=by subst h;exact NA
theorem zCT(h:X.K=K):aX X (.builtin "sorted") (fun xs H Q=> ∃(p:Addr) (ns:List Int),xs=[.ref p]/\X5 K H p (ns.map V.int)/\ns.length<64∧
  ∀(l:Addr) (ms:List Int),H l=none->ms.Perm ns->ms.Pairwise (· <= ·)->Q (.ref l) (bN H l (.lst (ms.map V.int)))):=by subst h;exact QN
theorem kEqD(h:X.K=K)(hu:X.A.units+64<cLine):XD X (Cw .Eq) (rEqD K):=by subst h;exact zFU hu
theorem N5(h:X.K=K)(hu:X.A.units+64<cLine):XD X (Cw .NotEq) (rNeD K):=by subst h;exact zFQ hu
theorem zAQ(h:X.K=K){es:List Expr}{k:Nat}{t:CZ}{n:Nat}{pos:Pos}(hc:X.calm=true)(hg:EM X es t)(hn:(assignEach es X.env).length=n:=by rfl)(hst:(assignEach es X.env).findIdx? (·.1)=none:=by rfl):PG X (.Tuple es k pos) (gTup K n t):=by subst h;exact zFG hc hg hn hst
theorem zJA(h:X.K=K){es:List Expr}{k:Nat}{t:CZ}{n:Nat}{pos:Pos}(hc:X.calm=true)(hg:EM X es t)(hn:(assignEach es X.env).length=n:=by rfl)(hst:(assignEach es X.env).findIdx? (·.1)=none:=by rfl):PG X (.Tuple es k pos) (gLst K n t):=by subst h;exact zFH hc hg hn hst
theorem zAP(h:X.K=K){tg l:Expr}{tl:TE}(hl:PE X l tl):PI X tg l (zE0 K tl):=by subst h;exact zC7 hl
theorem zDV(h:X.K=K){tg l:Expr}{tl:TE}(hl:PE X l tl):PI X tg l (iTup K tl):=by subst h;exact zFE hl
theorem kBm(h:X.K=K){o e:Expr}{es:List Expr}{to:TE}{t:TA}{name:Str}{ai ae:Pos}{T id:String}{r:V->List V->Hp->VK->Prop}(pa:PlainAttrs T)(slot:Slot T name id)(hty:typeOf (.builtin id)=pure (.type "method_descriptor")) (hm:MtR X id r) (ho:PE X o to) (ha:PA X (e::es) t)
  (cb:Hs o name X.env (eval o X.env)=eval o X.env:=by rfl)
  (dh : ((Gh ae (Aj (e :: es) X.env)).all (fun x => !x.1) && (Nt ae (Jo [] X.env)).all (fun x => x.1.isSome)
   && decide ((e::es).length+([]:List Jp).length+(if([]:List Jp).isEmpty then 0 else 1)<30))=true:=by rfl)
  (br:(ai.endLine==ae.line)=true:=by rfl) (hs:Aj (e::es) X.env=(false,eval e X.env)::Aj es X.env:=by rfl) (bh:(Gh ae (Aj es X.env)).any (·.1)=false:=by rfl):
  PE X (.Call (.Attribute o name ai) (e::es) [] ae) (tBM K T r to t):=by
 subst h;exact zIN pa slot hty hm ho ha cb dh br hs bh
end
theorem zHB:Bj "len"=some (.builtin "len"):=by decide+kernel
theorem zH9:Bj "min"=some (.builtin "min"):=by decide+kernel
theorem zHA:Bj "max"=some (.builtin "max"):=by decide+kernel
theorem QM:Bj "sorted"=some (.builtin "sorted"):=by decide+kernel
theorem M8:Bj "isinstance"=some (.builtin "isinstance"):=by decide+kernel
theorem O0:Bj "list"=some (.type "list"):=by decide+kernel
theorem ZP:Bj "tuple"=some (.type "tuple"):=by decide+kernel
theorem HY:Bj "range"=some (.type "range"):=by decide+kernel
theorem zD4:Bj "bool"=some (.type "bool"):=by decide+kernel
theorem zHC:Bj "int"=some (.type "int"):=by decide+kernel
theorem zH8:Bj "str"=some (.type "str"):=by decide+kernel
structure Def(P:Bq)(w:World)(K:Ar)(mg:Str->Option Value)(base:Heap)(x:Str)(k:Nat)(ps:List Str)(sp:Sp)(f:Addr):Prop where
 at_:mg x=some (.ref f)
 ok: ∃fd,aG P w K mg base CX0 k f fd ps sp/\LP K fd ps []
 kp:Mq K (.ref f)=true
section
variable{X:Cx}{x:Str}{k j:Nat}{ps:List Str}{sp:Sp}{f:Addr}{p pos:Pos}{e:Expr}{es:List Expr}{t:TA}
theorem zA1(D:Def X.prog X.w X.K X.mg X.base x k ps sp f)(hr:XO j X.A)(hk:k<=j)(hg:Gl X x)(ha:PA X (e::es) t)(hdb:(x==("__debug__":Str))=false:=by decide)
  (he:Aj (e::es) X.env=(false,eval e X.env)::Aj es X.env:=by rfl) (hpl:(Gh pos (Aj es X.env)).any (·.1)=false:=by rfl):
  PE X (.Call (.Name x p) (e::es) [] pos) (BK sp [] E0 t):=by
 obtain⟨fd,F,B⟩:=D.ok;exact zCD F (hr.mono hk) hg D.at_ D.kp B .nil zIP ha hdb he hpl
end
theorem c8{H:Hp}{p:Addr}{o:HO}(hp:H p=none):bI H (bN H p o):=fun b o' e=>by
 rw[cH (YJ e hp)];exact e
theorem JX(ns:List Int):Er (.list (ns.map Op))=true:=by
 have h1:Gj (.list (ns.map Op))=true:=by simp only[Gj,canLayAll_ints]
 have h2:Ix (.list (ns.map Op))<=64:=by
  simp only[Ix,depthAll_ints];decide
 unfold Er;rw[h1,decide_eq_true h2];rfl
inductive dF where
 |non|bl (b:Bool)|int (i:Int)|str (x:Str)|ty (n:String)|fn (x:Str)|tup (ds:List dF)|lst (ds:List dF)|dct (ks:List bV) (ds:List dF)|exn (x:Str)|exr (x n:Str) (d:dF)
def FzL(K:Ar)(H:Hp)(a:Addr)(xs:List V):Prop:=
 (∃o,H a=some (.frz o (.lst xs)))∨
  ∃(o:Obj) (its:Array Value) (n:Nat),K.lookup a=some o/\o.cls= .type "list" /\o.dict=none/\o.data= .seq its n/\its.size<=sizeLine/\b5 xs its.toList
theorem FzL.sq{K:Ar}{H:Hp}{a:Addr}{xs:List V}(h:FzL K H a xs):X5 K H a xs:=by
 rcases h with⟨o,h⟩|h
 ·exact .inl (.inr ⟨o,h⟩)
 ·exact .inr h
def zJZ(h:Heap)(a C:Addr):Prop:= ∃o vs,h.get? a=some o/\o.cls= .ref C/\o.data= .fields vs
def zHI(h:Heap)(a C D:Addr):Prop:= ∃o vs,h.get? a=some o/\o.cls= .ref C/\o.data= .fields vs/\o.dict=some D
mutual
inductive bR(K:Ar)(N:Addr->Prop)(H:Hp):(Addr->Prop)->V->dF->Prop
 |non {M:Addr->Prop}:bR K N H M .non .non
 |bl {M:Addr->Prop} (b:Bool):bR K N H M (.bl b) (.bl b)
 |int {M:Addr->Prop} (i:Int):bR K N H M (.int i) (.int i)
 |str {M:Addr->Prop} (x:Str):bR K N H M (.str x) (.str x)
 |ty {M:Addr->Prop} (n:String):bR K N H M (.ty n) (.ty n)
 |fn {M:Addr->Prop} {a:Addr} {x:Str}:Pg K mainGlobals x=some (some (.ref a))->bR K N H M (.ref a) (.fn x)
 |tup {M:Addr->Prop} {a:Addr} {xs:List V} {ds:List dF}:WS K H a xs->cO K N H xs ds->bR K N H M (.ref a) (.tup ds)
 |lst {M:Addr->Prop} {a:Addr} {xs:List V} {ds:List dF}:H a=some (.lst xs)-> ¬M a->cO K N H xs ds->bR K N H M (.ref a) (.lst ds)
 |fzl {M:Addr->Prop} {a:Addr} {xs:List V} {ds:List dF}:FzL K H a xs->cO K N H xs ds->bR K N H M (.ref a) (.lst ds)
 |dct {M:Addr->Prop} {a:Addr} {kvs:List (bV×V)} {ds:List dF}:H a=some (.dK kvs)-> ¬M a->cO K N H (kvs.map Cj) ds->bR K N H M (.ref a) (.dct (kvs.map Bg) ds)
 |ktb {M:Addr->Prop} {a:Addr} {D:List (Str×V)} {ds:List dF}:KTab K a D->cO K N H (D.map Cj) ds->bR K N H M (.ref a) (.dct (D.map fun p=> .inr p.1) ds)
 |exn {M:Addr->Prop} {a C:Addr} {x:Str} {φ:Heap->Prop}:Pg K mainGlobals x=some (some (.ref C))->H a=some (.ext φ)->(∀h,φ h->zJZ h a C)->bR K N H M (.ref a) (.exn x)
 |exr {M:Addr->Prop} {a C D:Addr} {x n:Str} {φ:Heap->Prop} {v:V} {d:dF}:Pg K mainGlobals x=some (some (.ref C))->H a=some (.ext φ)->(∀h,φ h->zHI h a C D)->H D=some (.xd [(n,v)])->bR K N H N v d->bR K N H M (.ref a) (.exr x n d)
inductive cO(K:Ar)(N:Addr->Prop)(H:Hp):List V->List dF->Prop
 |nil:cO K N H [] []
 |cons {v:V} {vs:List V} {d:dF} {ds:List dF}:bR K N H N v d->cO K N H vs ds->cO K N H (v::vs) (d::ds)
end
def Hard:HO->Prop
 | .tup _=>True
 | .frz _ _=>True
 | .ext _=>True
 | .xd _=>True
 |_=>False
def Fr(P:Addr->Prop)(H H':Hp):Prop:= ∀b o,H b=some o->(P b->Hard o)->H' b=some o
theorem Fr.refl(P:Addr->Prop)(H:Hp):Fr P H H:=fun _ _ h _=>h
theorem Fr.trans{P:Addr->Prop}{H H1 H2:Hp}(a:Fr P H H1)(b:Fr P H1 H2):Fr P H H2:=fun c o h n=>b c o (a c o h n) n
theorem Fr.mono{P P':Addr->Prop}{H H':Hp}(a:Fr P H H')(h: ∀b,P b->P' b):Fr P' H H':=fun c o e n=>a c o e fun z=>n (h c z)
theorem bI.fr{P:Addr->Prop}{H H':Hp}(a:bI H H'):Fr P H H':=fun c o h _=>a c o h
section
variable{K:Ar}{N N' M M' P:Addr->Prop}{H H':Hp}
theorem Fr.tup(f:Fr P H H'){a:Addr}{xs:List V}(h:WS K H a xs):WS K H' a xs:=by
 rcases h with(h|⟨o,h⟩)|h
 ·exact .inl (.inl (f _ _ h fun _=>trivial))
 ·exact .inl (.inr ⟨o,f _ _ h fun _=>trivial⟩)
 ·exact .inr h
theorem Fr.fzl(f:Fr P H H'){a:Addr}{xs:List V}(h:FzL K H a xs):FzL K H' a xs:=by
 rcases h with⟨o,h⟩|h
 ·exact .inl ⟨o,f _ _ h fun _=>trivial⟩
 ·exact .inr h
theorem bR.fr(f:Fr P H H')(hN: ∀a,P a->N a){M:Addr->Prop}{v:V}{d:dF}(hM: ∀a,P a->M a)(h:bR K N H M v d):bR K N H' M v d:=
 bR.rec (motive_1:=fun M v d _=>(∀a,P a->M a)->bR K N H' M v d) (motive_2:=fun vs ds _=>cO K N H' vs ds) (fun _=> .non) (fun b _=> .bl b) (fun i _=> .int i) (fun x _=> .str x) (fun n _=> .ty n) (fun q _=> .fn q) (fun q _ r _=> .tup (f.tup q) r)
  (fun q n _ r hM=> .lst (f _ _ q fun z=>absurd (hM _ z) n) n r) (fun q _ r _=> .fzl (f.fzl q) r) (fun q n _ r hM=> .dct (f _ _ q fun z=>absurd (hM _ z) n) n r) (fun q _ r _=> .ktb q r) (fun p q r _=> .exn p (f _ _ q fun _=>trivial) r)
  (fun p q r s _ t _=> .exr p (f _ _ q fun _=>trivial) r (f _ _ s fun _=>trivial) (t hN)) .nil (fun _ _ a b=> .cons (a hN) b) h hM
theorem cO.map{K':Ar}{N':Addr->Prop}{H':Hp}(g: ∀{v d},bR K N H N v d->bR K' N' H' N' v d): ∀{vs:List V} {ds:List dF},cO K N H vs ds->cO K' N' H' vs ds:=by
 intro vs;induction vs with
 |nil=>intro ds h;cases h;exact .nil
 |cons v vs ih=>intro ds h;cases h with|cons a b=>exact .cons (g a) (ih b)
theorem cO.fr(f:Fr P H H')(hN: ∀a,P a->N a){vs:List V}{ds:List dF}(h:cO K N H vs ds):cO K N H' vs ds:=h.map fun r=>r.fr f hN hN
theorem bR.mono(hN: ∀a,N' a->N a){M M':Addr->Prop}{v:V}{d:dF}(hM: ∀a,M' a->M a)(h:bR K N H M v d):bR K N' H M' v d:=
 bR.rec (motive_1:=fun M v d _=> ∀M',(∀a,M' a->M a)->bR K N' H M' v d) (motive_2:=fun vs ds _=>cO K N' H vs ds) (fun _ _=> .non) (fun b _ _=> .bl b) (fun i _ _=> .int i) (fun x _ _=> .str x) (fun n _ _=> .ty n) (fun q _ _=> .fn q) (fun q _ r _ _=> .tup q r)
  (fun q n _ r _ hM=> .lst q (fun z=>n (hM _ z)) r) (fun q _ r _ _=> .fzl q r) (fun q n _ r _ hM=> .dct q (fun z=>n (hM _ z)) r) (fun q _ r _ _=> .ktb q r) (fun p q r _ _=> .exn p q r) (fun p q r s _ t _ _=> .exr p q r s (t _ hN)) .nil (fun _ _ a b=> .cons (a _ hN) b) h M' hM
theorem cO.mono(hN: ∀a,N' a->N a){vs:List V}{ds:List dF}(h:cO K N H vs ds):cO K N' H vs ds:=h.map fun r=>r.mono hN hN
theorem bR.same(f:bI H H'){v:V}{d:dF}(h:bR K N H M v d):bR K N H' M v d:=h.fr f.fr (fun _ z=>z.elim) (P:=fun _=>False) fun _ z=>z.elim
theorem cO.same(f:bI H H'){vs:List V}{ds:List dF}(h:cO K N H vs ds):cO K N H' vs ds:=h.fr f.fr (P:=fun _=>False) fun _ z=>z.elim
theorem cO.length: ∀{vs:List V} {ds:List dF},cO K N H vs ds->vs.length=ds.length
 |_,_,.nil=>rfl
 |_,_,.cons _ t=>congrArg (· +1) (cO.length t)
theorem cO.append: ∀{vs ws:List V} {ds es:List dF},cO K N H vs ds->cO K N H ws es->cO K N H (vs++ws) (ds++es)
 |_,_,_,_,.nil,s=>s
 |_,_,_,_,.cons h t,s=> .cons h (cO.append t s)
theorem cO.get: ∀{vs:List V} {ds:List dF} {i:Nat} {d:dF},cO K N H vs ds->ds[i]? =some d-> ∃v,vs[i]? =some v/\bR K N H N v d
 |_,_,_,_,.nil,e=>by simp at e
 |_,_,0,_,.cons r _,e=>by simp at e;subst e;exact⟨_,rfl,r⟩
 |_,_,i+1,x,.cons _ t,e=>by
  obtain⟨u,h1,h2⟩:=cO.get (i:=i) (d:=x) t (by simpa using e);exact⟨u,by simpa using h1,h2⟩
theorem cO.take: ∀{vs:List V} {ds:List dF} (n:Nat),cO K N H vs ds->cO K N H (vs.take n) (ds.take n)
 |_,_,0,_=> .nil
 |_,_,_+1,.nil=> .nil
 |_,_,n+1,.cons r t=> .cons r (cO.take n t)
theorem cO.drop: ∀{vs:List V} {ds:List dF} (n:Nat),cO K N H vs ds->cO K N H (vs.drop n) (ds.drop n)
 |_,_,0,r=>r
 |_,_,_+1,.nil=> .nil
 |_,_,n+1,.cons _ t=>cO.drop n t
theorem cO.snoc{vs:List V}{ds:List dF}{v:V}{d:dF}(r:cO K N H vs ds)(h:bR K N H N v d):cO K N H (vs++[v]) (ds++[d]):=r.append (.cons h .nil)
end
mutual
def dF.isD:dF->Bool
 | .non=>true
 | .bl _=>true
 | .int _=>true
 | .str _=>true
 | .ty _=>false
 | .fn _=>false
 | .tup ds=>IN ds
 | .lst ds=>IN ds
 | .dct _ _=>false
 | .exn _=>false
 | .exr _ _ _=>false
def IN:List dF->Bool
 |[]=>true
 |d::ds=>d.isD && IN ds
end
mutual
def dF.pd:dF->My
 | .non=> .none
 | .bl b=> .bool b
 | .int i=> .int i
 | .str x=> .str x
 | .ty _=> .none
 | .fn _=> .none
 | .tup ds=> .tuple (CN ds)
 | .lst ds=> .list (CN ds)
 | .dct _ _=> .none
 | .exn _=> .none
 | .exr _ _ _=> .none
def CN:List dF->List My
 |[]=>[]
 |d::ds=>d.pd::CN ds
end
mutual
def dF.hard:dF->Bool
 | .tup ds=>UW ds
 | .lst _=>false
 | .dct _ _=>false
 | .exr _ _ _=>false
 |_=>true
def UW:List dF->Bool
 |[]=>true
 |d::ds=>d.hard && UW ds
end
section
variable{K:Ar}{N:Addr->Prop}{H:Hp}
theorem bR.dp{M:Addr->Prop}{v:V}{d:dF}(h:bR K N H M v d)(e:d.isD=true):Dp K H v d.pd:=
 bR.rec (motive_1:=fun M v d _=>d.isD=true->Dp K H v d.pd) (motive_2:=fun vs ds _=>IN ds=true->NI K H vs (CN ds)) (fun _=> .non) (fun b _=> .bl b) (fun i _=> .int i) (fun x _=> .str x) (fun _ h=>nomatch h) (fun _ h=>nomatch h) (fun q _ r h=> .tup q (r h))
  (fun q _ _ r h=> .lst (X5.of q) (r h)) (fun q _ r h=> .lst q.sq (r h)) (fun _ _ _ _ h=>nomatch h) (fun _ _ _ h=>nomatch h) (fun _ _ _ h=>nomatch h) (fun _ _ _ _ _ _ h=>nomatch h) (fun _=> .nil) (fun _ _ a b e=> .cons (a (Ds.mp e).1) (b (Ds.mp e).2)) h e
theorem bR.hard{N':Addr->Prop}{M M':Addr->Prop}{v:V}{d:dF}(h:bR K N H M v d)(e:d.hard=true):bR K N' H M' v d:=
 bR.rec (motive_1:=fun M v d _=> ∀M',d.hard=true->bR K N' H M' v d) (motive_2:=fun vs ds _=>UW ds=true->cO K N' H vs ds) (fun _ _=> .non) (fun b _ _=> .bl b) (fun i _ _=> .int i) (fun x _ _=> .str x) (fun n _ _=> .ty n) (fun q _ _=> .fn q) (fun q _ r _ h=> .tup q (r h))
  (fun _ _ _ _ _ h=>nomatch h) (fun _ _ _ _ h=>nomatch h) (fun _ _ _ _ _ h=>nomatch h) (fun _ _ _ _ h=>nomatch h) (fun p q r _ _=> .exn p q r) (fun _ _ _ _ _ _ _ h=>nomatch h) (fun _=> .nil) (fun _ _ a b e=> .cons (a _ (Ds.mp e).1) (b (Ds.mp e).2)) h M' e
theorem cO.hard{N':Addr->Prop}: ∀{vs:List V} {ds:List dF},cO K N H vs ds->UW ds=true->cO K N' H vs ds:=by
 intro vs;induction vs with
 |nil=>intro ds h _;cases h;exact .nil
 |cons v vs ih=>intro ds h e;cases h with|cons a b=>exact .cons (a.hard (Ds.mp e).1) (ih b (Ds.mp e).2)
end
inductive Sl where
 |no|va (d:dF)|ow (d:dF)
abbrev Ev:=List Sl
structure Bs where
 Z:Addr->Prop
 P:Addr->Prop
 H0:Hp
 mu:Nat->Option Addr
 kp:List (V×dF)
def Nn(B:Bs)(O:Nat->Option Addr):Addr->Prop:=fun a=>B.Z a∨ ∃i,O i=some a
def OA(O:Nat->Option Addr):Addr->Prop:=fun a=> ∃i,O i=some a
inductive PQ(K:Ar)(N:Addr->Prop)(H:Hp)(a:Addr):dF->Prop
 |lst {xs:List V} {ds:List dF}:H a=some (.lst xs)->cO K N H xs ds->PQ K N H a (.lst ds)
 |dct {kvs:List (bV×V)} {ds:List dF}:H a=some (.dK kvs)->cO K N H (kvs.map Cj) ds->PQ K N H a (.dct (kvs.map Bg) ds)
theorem PQ.fr{K:Ar}{N P:Addr->Prop}{H H':Hp}{a:Addr}{d:dF}(f:Fr P H H')(hN: ∀a,P a->N a)(ha: ¬P a):PQ K N H a d->PQ K N H' a d
 | .lst q r=> .lst (f _ _ q fun z=>absurd z ha) (r.fr f hN)
 | .dct q r=> .dct (f _ _ q fun z=>absurd z ha) (r.fr f hN)
theorem PQ.mono{K:Ar}{N N':Addr->Prop}{H:Hp}{a:Addr}{d:dF}(h: ∀b,N' b->N b):PQ K N H a d->PQ K N' H a d
 | .lst q r=> .lst q (r.mono h)
 | .dct q r=> .dct q (r.mono h)
theorem PQ.soft{K:Ar}{N:Addr->Prop}{H:Hp}{a:Addr}{d:dF}(h:PQ K N H a d): ∃o,H a=some o/\¬Hard o:=by
 cases h with
 |lst q _=>exact⟨_,q,fun z=>z⟩
 |dct q _=>exact⟨_,q,fun z=>z⟩
theorem PQ.rep{K:Ar}{N M:Addr->Prop}{H:Hp}{a:Addr}{d:dF}(h:PQ K N H a d)(hM: ¬M a):bR K N H M (.ref a) d:=by
 cases h with
 |lst q r=>exact .lst q hM r
 |dct q r=>exact .dct q hM r
structure bA(K:Ar)(ml:List Nat)(B:Bs)(O:Nat->Option Addr)(H:Hp)(σ:St)(δ:Ev):Prop where
 len:σ.length=δ.length
 va: ∀(i:Nat) (d:dF),δ[i]? =some (Sl.va d)-> ∃v,σ[i]? =some (some v)/\bR K (Nn B O) H (Nn B O) v d
 ow: ∀(i:Nat) (d:dF),δ[i]? =some (Sl.ow d)-> ∃a,O i=some a/\σ[i]? =some (some (.ref a))/\PQ K (Nn B O) H a d
 dom: ∀(i:Nat) a,O i=some a-> ∃d,δ[i]? =some (Sl.ow d)
 inj: ∀i j a,O i=some a->O j=some a->i=j
 old: ∀i a,O i=some a-> ¬B.Z a/\(B.P a∨B.H0 a=none)
 zin: ∀a,B.Z a-> ∃o,H a=some o
 frm:Fr B.P B.H0 H
 par:(∀i a,B.mu i=some a->i∈ml)/\ ∀i∈ml,O i=B.mu i
 pin: ∀a,B.P a-> ∃o,H a=some o
 kep: ∀p∈B.kp,bR K (Nn B O) H (Nn B O) p.1 p.2
section
variable{K:Ar}{ml:List Nat}{B:Bs}{O:Nat->Option Addr}{H H':Hp}{σ:St}{δ δ':Ev}
theorem bA.nin(S:bA K ml B O H σ δ){a:Addr}(h:Nn B O a): ∃o,H a=some o:=by
 rcases h with h|⟨i,h⟩
 ·exact S.zin a h
 ·obtain⟨d,e⟩:=S.dom i a h
  obtain⟨a',e1,_,w⟩:=S.ow i d e;rw[h] at e1;cases e1;obtain⟨o,q,_⟩:=w.soft;exact⟨o,q⟩
theorem bA.new(S:bA K ml B O H σ δ){a:Addr}(h:H a=none): ¬Nn B O a:=fun z=>by
 obtain⟨o,q⟩:=S.nin z;rw[h] at q;cases q
theorem bA.same(S:bA K ml B O H σ δ)(f:bI H H'):bA K ml B O H' σ δ where
 len:=S.len
 va:=fun i d e=>let ⟨v,a,b⟩:=S.va i d e;⟨v,a,b.same f⟩
 ow:=fun i d e=>let ⟨a,b,c,w⟩:=S.ow i d e;⟨a,b,c,w.fr (P:=fun _=>False) f.fr (fun _ z=>z.elim) fun z=>z⟩
 dom:=S.dom
 inj:=S.inj
 old:=S.old
 zin:=fun a h=>let ⟨o,q⟩:=S.zin a h;⟨o,f _ _ q⟩
 frm:=S.frm.trans f.fr
 par:=S.par
 pin:=fun a h=>let ⟨o,q⟩:=S.pin a h;⟨o,f _ _ q⟩
 kep:=fun p h=>(S.kep p h).same f
theorem bA.fresh(S:bA K ml B O H σ δ){a:Addr}(h:H a=none):B.H0 a=none:=by
 cases q:B.H0 a with
 |none=>rfl
 |some o=>
  by_cases hp:B.P a
  ·obtain⟨o',e⟩:=S.pin a hp
   rw[h] at e;cases e
  ·have := S.frm a o q fun z => absurd z hp
   rw[h] at this;cases this
def Bs.add(B:Bs)(p:Addr):Bs:={B with Z:=fun a=>B.Z a∨a=p}
theorem U0{p:Addr}: ∀a,Nn B O a->Nn (B.add p) O a:=fun a h=>by
 rcases h with h|h
 ·exact .inl (.inl h)
 ·exact .inr h
theorem bR.away{p:Addr}(hp:H p=none)(N N':Addr->Prop)(hN: ∀a,N' a->N a∨a=p){M M':Addr->Prop}{v:V}{d:dF}(hM: ∀a,M' a->M a∨a=p)(h:bR K N H M v d):bR K N' H M' v d:=
 have no: ∀{a:Addr} {o:HO} {M M':Addr->Prop},H a=some o-> ¬M a->(∀a,M' a->M a∨a=p)-> ¬M' a:=fun q n hM z=>(hM _ z).elim n fun e=>by rw[e,hp] at q;cases q
 bR.rec (motive_1:=fun M v d _=> ∀M',(∀a,M' a->M a∨a=p)->bR K N' H M' v d) (motive_2:=fun vs ds _=>cO K N' H vs ds) (fun _ _=> .non) (fun b _ _=> .bl b) (fun i _ _=> .int i) (fun x _ _=> .str x) (fun n _ _=> .ty n) (fun q _ _=> .fn q) (fun q _ r _ _=> .tup q r)
  (fun q n _ r _ hM=> .lst q (no q n hM) r) (fun q _ r _ _=> .fzl q r) (fun q n _ r _ hM=> .dct q (no q n hM) r) (fun q _ r _ _=> .ktb q r) (fun p q r _ _=> .exn p q r) (fun p q r s _ t _ _=> .exr p q r s (t _ hN)) .nil (fun _ _ a b=> .cons (a _ hN) b) h M' hM
theorem cO.away{p:Addr}(hp:H p=none)(N N':Addr->Prop)(hN: ∀a,N' a->N a∨a=p){vs:List V}{ds:List dF}(h:cO K N H vs ds):cO K N' H vs ds:=h.map fun r=>r.away hp N N' hN hN
theorem W8{p:Addr}: ∀a,Nn (B.add p) O a->Nn B O a∨a=p:=fun a h=>by
 rcases h with(h|h)|h
 ·exact .inl (.inl h)
 ·exact .inr h
 ·exact .inl (.inr h)
theorem bA.laid(S:bA K ml B O H σ δ){p:Addr}{o:HO}(hp:H p=none):bA K ml (B.add p) O (bN H p o) σ δ where
 len:=S.len
 va:=fun i d e=>let ⟨v,a,b⟩:=S.va i d e;⟨v,a,(b.away hp _ _ W8 W8).same (c8 hp)⟩
 ow:=fun i d e=>by
  obtain⟨a,b,c,w⟩:=S.ow i d e;refine⟨a,b,c,?_⟩;have hne: ∀o,H a=some o->bN H p o=bN H p o:=fun _ _=>rfl;cases w with
  |lst q r=>exact .lst (c8 hp _ _ q) ((r.away hp _ _ W8).same (c8 hp))
  |dct q r=>exact .dct (c8 hp _ _ q) ((r.away hp _ _ W8).same (c8 hp))
 dom:=S.dom
 inj:=S.inj
 old:=fun i a h=>by
  refine⟨fun z=> ?_,(S.old i a h).2⟩;rcases z with z|z
  ·exact(S.old i a h).1 z
  ·obtain⟨o,q⟩:=S.nin (.inr ⟨i,h⟩)
   rw[z,hp] at q;cases q
 zin:=fun a h=>by
  rcases h with h|h
  ·obtain⟨o,q⟩:=S.zin a h
   exact⟨o,c8 hp _ _ q⟩
  ·exact⟨_,by rw[h];exact cS⟩
 frm:=S.frm.trans (c8 hp).fr
 par:=S.par
 pin:=fun a h=>let ⟨o,q⟩:=S.pin a h;⟨o,c8 hp _ _ q⟩
 kep:=fun p h=>((S.kep p h).away hp _ _ W8 W8).same (c8 hp)
theorem QE{i:Nat}{o:Option Addr}: ∀a,Nn B (fun j=>if j=i then none else O j) a->Nn B O a:=fun a h=>by
 rcases h with h|⟨j,h⟩
 ·exact .inl h
 ·refine .inr ⟨j,?_⟩
  by_cases hj:j=i
  ·simp[hj] at h
  ·simpa[hj] using h
theorem UK{α:Type}{l:List α}{i j:Nat}{x y:α}(h:(l.set i x)[j]? =some y):(j=i/\y=x/\i<l.length)∨(j≠i/\l[j]? =some y):=by
 by_cases hj:j=i
 ·subst hj
  rw[List.getElem?_set_self'] at h;obtain⟨z,q,h⟩:=Ao.mp h;cases h;exact .inl ⟨rfl,rfl,(Ag.mp q).1⟩
 ·rw[By (Dr hj)] at h
  exact .inr ⟨hj,h⟩
theorem bA.setVa(S:bA K ml B O H σ δ){i:Nat}{v:V}{d:dF}(hm:i∉ml)(h:bR K (Nn B O) H (Nn B O) v d):bA K ml B (fun j=>if j=i then none else O j) H (σ.set i (some v)) (δ.set i (.va d)) where
 len:=by rw[Cc,Cc,S.len]
 va:=fun j e q=>by
  rcases UK q with⟨rfl,z,hl⟩|⟨hj,q⟩
  ·cases z
   exact⟨v,by rw[Dh (by rw[S.len];exact hl)],h.mono (QE (o:=none)) (QE (o:=none))⟩
  ·obtain⟨u,e1,r⟩:=S.va j e q
   exact⟨u,by rw[By (Dr hj)];exact e1,r.mono (QE (o:=none)) (QE (o:=none))⟩
 ow:=fun j e q=>by
  rcases UK q with⟨rfl,z,hl⟩|⟨hj,q⟩
  ·cases z
  ·obtain⟨a,e1,e2,w⟩:=S.ow j e q
   exact⟨a,by simpa[hj] using e1,by rw[By (Dr hj)];exact e2,w.mono (QE (o:=none))⟩
 dom:=fun j a e=>by
  by_cases hj:j=i
  ·simp[hj] at e
  ·obtain ⟨d,q⟩ := S.dom j a (by simpa [hj] using e)
   exact⟨d,by rw[By (Dr hj)];exact q⟩
 inj:=fun j k a e1 e2=>by
  by_cases hj:j=i
  ·simp[hj] at e1
  ·by_cases hk:k=i
   ·simp[hk] at e2
   ·exact S.inj j k a (by simpa[hj] using e1) (by simpa[hk] using e2)
 old:=fun j a e=>by
  by_cases hj:j=i
  ·simp[hj] at e
  ·exact S.old j a (by simpa[hj] using e)
 zin:=S.zin
 frm:=S.frm
 par:=⟨S.par.1,fun j hj=>by
  have hne:j≠i:=fun z=>hm (z▸hj);have h2:O j=B.mu j:=S.par.2 j hj;simpa[hne] using h2⟩
 pin:=S.pin
 kep:=fun p hp=>(S.kep p hp).mono (QE (o:=none)) (QE (o:=none))
theorem QY{i:Nat}{p:Addr}: ∀a,Nn B (fun j=>if j=i then some p else O j) a->Nn (B.add p) O a:=fun a h=>by
 rcases h with h|⟨j,h⟩
 ·exact .inl (.inl h)
 ·by_cases hj:j=i
  ·simp[hj] at h
   exact .inl (.inr h.symm)
  ·exact .inr ⟨j,by simpa[hj] using h⟩
theorem bA.setOw{p:Addr}(S:bA K ml (B.add p) O H σ δ){i:Nat}{d:dF}(hm:i∉ml)(hl:i<δ.length)(hz: ¬B.Z p)(h0:B.H0 p=none)(h:PQ K (Nn (B.add p) O) H p d):
  bA K ml B (fun j=>if j=i then some p else O j) H (σ.set i (some (.ref p))) (δ.set i (.ow d)) where
 len:=by rw[Cc,Cc,S.len]
 va:=fun j e q=>by
  rcases UK q with⟨rfl,z,_⟩|⟨hj,q⟩
  ·cases z
  ·obtain⟨u,e1,r⟩:=S.va j e q
   exact⟨u,by rw[By (Dr hj)];exact e1,r.mono QY QY⟩
 ow:=fun j e q=>by
  rcases UK q with⟨rfl,z,hl⟩|⟨hj,q⟩
  ·cases z
   exact⟨p,by simp,by rw[Dh (by rw[S.len];exact hl)],h.mono QY⟩
  ·obtain⟨a,e1,e2,w⟩:=S.ow j e q
   exact⟨a,by simpa[hj] using e1,by rw[By (Dr hj)];exact e2,w.mono QY⟩
 dom:=fun j a e=>by
  by_cases hj:j=i
  ·subst hj
   exact⟨d,by rw[Dh hl]⟩
  ·obtain ⟨d,q⟩ := S.dom j a (by simpa [hj] using e)
   exact⟨d,by rw[By (Dr hj)];exact q⟩
 inj:=fun j k a e1 e2=>by
  by_cases hj:j=i
  ·by_cases hk:k=i
   ·rw[hj,hk]
   ·simp[hj] at e1
    simp[hk] at e2;exact absurd (.inr e1.symm) (S.old k a e2).1
  ·by_cases hk:k=i
   ·simp[hk] at e2
    simp[hj] at e1;exact absurd (.inr e2.symm) (S.old j a e1).1
   ·exact S.inj j k a (by simpa[hj] using e1) (by simpa[hk] using e2)
 old:=fun j a e=>by
  by_cases hj:j=i
  ·simp[hj] at e
   subst e;exact⟨hz,.inr h0⟩
  ·have := S.old j a (by simpa [hj] using e)
   exact⟨fun z=>this.1 (.inl z),this.2⟩
 zin:=fun a h=>S.zin a (.inl h)
 frm:=S.frm
 par:=⟨S.par.1,fun j hj=>by
  have hne:j≠i:=fun z=>hm (z▸hj);have h2:O j=B.mu j:=S.par.2 j hj;simpa[hne] using h2⟩
 pin:=S.pin
 kep:=fun p hp=>(S.kep p hp).mono QY QY
theorem bA.wrote(S:bA K ml B O H σ δ){i:Nat}{a:Addr}{d:dF}{o:HO}(e:O i=some a)(ho: ¬Hard o)(h:PQ K (Nn B O) (bN H a o) a d):bA K ml B O (bN H a o) σ (δ.set i (.ow d)):=by
 have hf:Fr (fun b=>b=a) H (bN H a o):=fun b u q n=>by
  by_cases hb:b=a
  ·subst hb
   obtain⟨d',q'⟩:=S.dom i b e;obtain⟨a',e1,_,w⟩:=S.ow i d' q';rw[e] at e1;cases e1;obtain⟨u',q1,hh⟩:=w.soft;rw[q] at q1;cases q1;exact absurd (n rfl) hh
  ·rw[cH hb]
   exact q
 have hN: ∀b,b=a->Nn B O b:=fun b z=> .inr ⟨i,z▸e⟩;have hin: ∀b,(∃u,H b=some u)-> ∃u,bN H a o b=some u:=fun b q0=>by
  obtain⟨u,q⟩:=q0;by_cases hb:b=a
  ·exact⟨o,by rw[hb];exact cS⟩
  ·exact⟨u,by rw[cH hb];exact q⟩
 refine⟨by rw[Cc,S.len],fun j d' q=> ?_,fun j d' q=> ?_,fun j b q=> ?_,S.inj,S.old,fun b h=>hin b (S.zin b h),?_,S.par,fun b h=>hin b (S.pin b h),fun p hp=>(S.kep p hp).fr hf hN hN⟩
 ·rcases UK q with⟨_,z,_⟩|⟨hj,q⟩
  ·cases z
  ·obtain⟨v,e1,r⟩:=S.va j d' q
   exact⟨v,e1,r.fr hf hN hN⟩
 ·rcases UK q with⟨rfl,z,hl⟩|⟨hj,q⟩
  ·cases z
   obtain⟨d0,q0⟩:=S.dom j a e;obtain⟨a',e1,e2,_⟩:=S.ow j d0 q0;rw[e] at e1;cases e1;exact⟨a,e,e2,h⟩
  ·obtain⟨a',e1,e2,w⟩:=S.ow j d' q
   exact⟨a',e1,e2,w.fr hf hN fun z=>hj (S.inj j i a (z▸e1) e)⟩
 ·by_cases hj:j=i
  ·subst hj
   obtain⟨d0,q0⟩:=S.dom j b q;exact⟨d,by rw[Dh (Ag.mp q0).1]⟩
  ·obtain⟨d0,q0⟩:=S.dom j b q
   exact⟨d0,by rw[By (Dr hj)];exact q0⟩
 ·intro b u q n
  have h1:=S.frm b u q n;by_cases hb:b=a
  ·subst hb
   rcases(S.old i b e).2 with z|z
   ·obtain⟨d',q'⟩:=S.dom i b e
    obtain⟨a',e1,_,w⟩:=S.ow i d' q';rw[e] at e1;cases e1;obtain⟨u',q1,hh⟩:=w.soft;rw[h1] at q1;cases q1;exact absurd (n z) hh
   ·rw[q] at z
    cases z
  ·rw[cH hb]
   exact h1
theorem bA.keepV(S:bA K ml B O H σ δ){ps:List (V×dF)}(h: ∀p∈ps,bR K (Nn B O) H (Nn B O) p.1 p.2):bA K ml {B with kp:=ps++B.kp} O H σ δ:=
 ⟨S.len,S.va,S.ow,S.dom,S.inj,S.old,S.zin,S.frm,S.par,S.pin,fun p hp=>(Bk.mp hp).elim (h p) (S.kep p)⟩
theorem bA.unkeep{ps:List (V×dF)}(S:bA K ml {B with kp:=ps++B.kp} O H σ δ):bA K ml B O H σ δ:=
 ⟨S.len,S.va,S.ow,S.dom,S.inj,S.old,S.zin,S.frm,S.par,S.pin,fun p hp=>S.kep p (Bf _ hp)⟩
end
def rz(B:Bs):Addr->Prop:=fun a=>B.Z a∨ ∃i,B.mu i=some a
def av(B:Bs)(O:Nat->Option Addr)(b:Bool):Addr->Prop:=if b then Nn B O else fun a=>Nn B O a/\rz B a
def at_(B:Bs)(O:Nat->Option Addr)(b:Bool):Addr->Prop:=if b then Nn B O else fun _=>False
theorem zE2{B:Bs}{O:Nat->Option Addr}{b:Bool}: ∀a,at_ B O b a->av B O b a:=fun a h=>by
 cases b with
 |true=>exact h
 |false=>exact h.elim
theorem zD7{B:Bs}{O:Nat->Option Addr}{b c:Bool}(h:b=true->c=true): ∀a,at_ B O b a->at_ B O c a:=fun a z=>by
 cases b with
 |true=>rw[h rfl];exact z
 |false=>exact z.elim
theorem bA.rzn{K:Ar}{ml:List Nat}{B:Bs}{O:Nat->Option Addr}{H:Hp}{σ:St}{δ:Ev}(S:bA K ml B O H σ δ): ∀a,rz B a->Nn B O a:=fun a h=>by
 rcases h with h|⟨i,h⟩
 ·exact .inl h
 ·exact .inr ⟨i,(S.par.2 i (S.par.1 i a h)).trans h⟩
theorem bA.rza{K:Ar}{ml:List Nat}{B:Bs}{O:Nat->Option Addr}{H:Hp}{σ:St}{δ:Ev}(S:bA K ml B O H σ δ){b:Bool}: ∀a,rz B a->av B O b a:=fun a h=>by
 cases b with
 |true=>exact S.rzn a h
 |false=>exact⟨S.rzn a h,h⟩
theorem OX{B:Bs}{O:Nat->Option Addr}{b c:Bool}(h:b=true->c=true): ∀a,av B O b a->av B O c a:=fun a z=>by
 cases b with
 |true=>rw[h rfl];exact z
 |false=>cases c with
  |true=>exact z.1
  |false=>exact z
structure Res(K:Ar)(ml:List Nat)(B:Bs)(O:Nat->Option Addr)(H:Hp)(σ:St)(pu bt bi:Bool)(H':Hp)(δ':Ev)(v:V)(d:dF):Prop where
 sta:bA K ml B O H' σ δ'
 frm:Fr (OA O) H H'
 pur:pu=true->bI H H'
 rep:bR K (av B O bi) H' (at_ B O bt) v d
abbrev VF:=Ev->Option (dF×Ev)
def TV(K:Ar)(ml:List Nat)(pu bt bi:Bool)(f:VF):TE:=fun σ H Q=> ∃B O δ d δ',bA K ml B O H σ δ/\f δ=some (d,δ')/\ ∀v H',Res K ml B O H σ pu bt bi H' δ' v d->Q v H'
theorem PE.imp{X:Cx}{e:Expr}{t u:TE}(h:PE X e t)(k: ∀σ H Q,u σ H Q->t σ H Q):PE X e u:=fun aa s σ H Q I w=>h aa s σ H Q I (k σ H Q w)
theorem PT.imp{X:Cx}{e:Expr}{t u:TT}(h:PT X e t)(k: ∀σ H Q,u σ H Q->t σ H Q):PT X e u:=fun aa s σ H Q I w=>h aa s σ H Q I (k σ H Q w)
theorem PW.imp{X:Cx}{e:Expr}{t u:TT}(h:PW X e t)(k: ∀σ H Q,u σ H Q->t σ H Q):PW X e u:=fun bn aa s σ H Q I w=>h bn aa s σ H Q I (k σ H Q w)
theorem PA.imp{X:Cx}{e:List Expr}{t u:TA}(h:PA X e t)(k: ∀σ H Q,u σ H Q->t σ H Q):PA X e u:=fun pos aa s σ H Q I w=>h pos aa s σ H Q I (k σ H Q w)
theorem PS.imp{X:Cx}{e:Stmt}{t u:TS}(h:PS X e t)(k: ∀D σ H,u D σ H->t D σ H):PS X e u:=fun aa s σ H D I w=>h aa s σ H D I (k D σ H w)
theorem PR.imp{X:Cx}{e:List Stmt}{t u:TS}(h:PR X e t)(k: ∀D σ H,u D σ H->t D σ H):PR X e u:=fun aa s σ H D I w=>h aa s σ H D I (k D σ H w)
section
variable{X:Cx}{K:Ar}{ml:List Nat}{e a b c:Expr}{pa ta ia pb tb ib pc tc ic:Bool}{fa fb fc:VF}{r:R2}{o:dF->dF->Option dF}{B:Bs}{O:Nat->Option Addr}{H H1 H':Hp}{σ:St}{δ δ':Ev}{v:V}{d:dF}
noncomputable def fC(d:dF):VF:=fun δ=>some (d,δ)
theorem Res.refl{pu bt bi:Bool}(S:bA K ml B O H σ δ)(h:bR K (av B O bi) H (at_ B O bt) v d):Res K ml B O H σ pu bt bi H δ v d:=⟨S,Fr.refl _ _,fun _=>bI.refl _,h⟩
theorem EG(h:PE X e (tC v))(hr: ∀N H M,bR K N H M v d):PE X e (TV K ml true true true (fC d)):=h.imp fun σ H Q hq0=>by
 obtain⟨B,O,δ,d',δ',S,q,k⟩:=hq0;cases q;exact k v H (Res.refl S (hr _ _ _))
theorem dD{i j pos}:PE X (.Constant (.int i) j pos) (TV K ml true true true (fC (.int i))):=EG zFN fun _ _ _=> .int i
theorem WQ{i j pos}:PE X (.Constant (.bool i) j pos) (TV K ml true true true (fC (.bl i))):=EG zIO fun _ _ _=> .bl i
theorem LN{j pos}:PE X (.Constant .none j pos) (TV K ml true true true (fC .non)):=EG zFL fun _ _ _=> .non
theorem cV{i j pos}:PE X (.Constant (.str i) j pos) (TV K ml true true true (fC (.str i))):=EG zFI fun _ _ _=> .str i
noncomputable def fV(i:Nat):VF:=fun δ=>match δ[i]? with
 |some (.va d)=>some (d,δ)
 |_=>none
noncomputable def fO(i:Nat):VF:=fun δ=>match δ[i]? with
 |some (.va d)=>some (d,δ)
 |some (.ow d)=>some (d,δ)
 |_=>none
theorem zE7{i:Nat}(h:PE X e (SJ i)):PE X e (TV K ml true true true (fV i)):=h.imp fun σ H Q hq0=>by
 obtain⟨B,O,δ,d',δ',S,q,k⟩:=hq0;unfold fV at q;split at q
 ·rename_i d hd
  cases q;obtain⟨v,e1,r⟩:=S.va i _ hd;exact⟨v,e1,k v H (Res.refl S r)⟩
 ·cases q
theorem zE8{i:Nat}(h:PE X e (SJ i)):PE X e (TV K ml true false true (fO i)):=h.imp fun σ H Q hq0=>by
 obtain⟨B,O,δ,d',δ',S,q,k⟩:=hq0;unfold fO at q;split at q
 ·rename_i d hd
  cases q;obtain⟨v,e1,r⟩:=S.va i _ hd;exact⟨v,e1,k v H (Res.refl S (r.mono (fun _ z=>z) fun a z=>z.elim))⟩
 ·rename_i d hd
  cases q;obtain⟨a,e1,e2,w⟩:=S.ow i _ hd;exact⟨.ref a,e2,k _ H (Res.refl S (w.rep fun z=>z))⟩
 ·cases q
theorem Res.live{H2:Hp}{v2:V}{d2:dF}(R2:Res K ml B O H1 σ pb tb ib H2 δ' v2 d2)(hs:(pb || (ta && ia))=true)(h:bR K (av B O ia) H1 (at_ B O ta) v d):bR K (av B O ia) H2 (at_ B O ta) v d:=by
 cases pb with
 |true=>exact h.same (R2.pur rfl)
 |false=>
  have hs:(ta && ia)=true:=by simpa using hs
  obtain⟨h1,h2⟩:=(Ae _ _).mp hs;subst h1 h2;exact h.fr R2.frm (fun a z=> .inr z) fun a z=> .inr z
noncomputable def f2(o:dF->dF->Option dF)(fa fb:VF):VF:=fun δ=>(fa δ).bind fun p=>(fb p.2).bind fun q=>(o p.1 q.1).map fun c=>(c,q.2)
theorem QR{δ2:Ev}(h:f2 o fa fb δ=some (d,δ2)): ∃x δ1 y,fa δ=some (x,δ1)/\fb δ1=some (y,δ2)/\o x y=some d:=by
 unfold f2 at h;cases h1:fa δ with
 |none=>rw[h1] at h;cases h
 |some p=>
  rw[h1] at h;cases h2:fb p.2 with
  |none=>simp[h2] at h
  |some q=>
   simp only[Av,h2] at h;obtain⟨c,h3,h⟩:=Ao.mp h;cases h;exact⟨p.1,p.2,q.1,rfl,h2,h3⟩
def P6(K:Ar)(r:R2)(o:dF->dF->Option dF):Prop:= ∀(H:Hp) (N N' M M':Addr->Prop) (x y:V) (d e c:dF) (Q:VK),bR K N H M x d->bR K N' H M' y e->o d e=some c->(∀v,(∀H' N M,bR K N H' M v c)->Q v H)->r x y H Q
def OpC(K:Ar)(r:R2)(o:dF->dF->Option dF):Prop:= ∀(H:Hp) (N M M':Addr->Prop) (x y:V) (d e c:dF) (Q:VK),bR K N H M x d->bR K N H M' y e->o d e=some c→
 (∀v H',bI H H'->(∀M,(∀a,M a-> ∃o,H a=some o)->bR K N H' M v c)->Q v H')->r x y H Q
def OpI(K:Ar)(r:R2)(o:dF->dF->Option dF):Prop:= ∀(H:Hp) (N N' M M':Addr->Prop) (x y:V) (d e c:dF) (Q:VK),bR K N H M x d->bR K N' H M' y e->o d e=some c->(∀v,bR K N H N v c->Q v H)->r x y H Q
theorem HP(ho:P6 K r o)(hs:(pb || (ta && ia))=true){Q:VK}(h:TV K ml (pa && pb) true true (f2 o fa fb) σ H Q):tOp r (TV K ml pa ta ia fa) (TV K ml pb tb ib fb) σ H Q:=by
 obtain⟨B,O,δ,d,δ2,S,q,k⟩:=h;obtain⟨x,δ1,y,h1,h2,h3⟩:=QR q;refine⟨B,O,δ,x,δ1,S,h1,fun v1 H1 R1=>⟨B,O,δ1,y,δ2,R1.sta,h2,fun v2 H2 R2=> ?_⟩⟩;exact ho H2 _ _ _ _ v1 v2 x y d Q (R2.live hs R1.rep) R2.rep h3 fun v hv=>k v H2 ⟨R2.sta,R1.frm.trans R2.frm,fun z=>by
  obtain⟨z1,z2⟩:=(Ae _ _).mp z;exact(R1.pur z1).trans (R2.pur z2),hv _ _ _⟩
theorem zED(ho:OpC K r o)(hs:(pb || (ta && ia))=true){Q:VK}(h:TV K ml (pa && pb) true (ia && ib) (f2 o fa fb) σ H Q):tOp r (TV K ml pa ta ia fa) (TV K ml pb tb ib fb) σ H Q:=by
 obtain⟨B,O,δ,d,δ2,S,q,k⟩:=h;obtain⟨x,δ1,y,h1,h2,h3⟩:=QR q;refine⟨B,O,δ,x,δ1,S,h1,fun v1 H1 R1=>⟨B,O,δ1,y,δ2,R1.sta,h2,fun v2 H2 R2=> ?_⟩⟩;have g1: ∀a,av B O (ia && ib) a->av B O ia a:=OX fun z=>((Ae _ _).mp z).1;have g2: ∀a,av B O (ia && ib) a->av B O ib a:=OX fun z=>((Ae _ _).mp z).2;refine ho H2 (av B O (ia && ib)) _ _ v1 v2 x y d Q ((R2.live hs R1.rep).mono g1 fun _ z=>z) (R2.rep.mono g2 fun _ z=>z) h3 fun v H3 s3 hv=>k v H3 ⟨R2.sta.same s3,(R1.frm.trans R2.frm).trans s3.fr,fun z=> ?_,hv _ fun a z=>R2.sta.nin z⟩;obtain⟨z1,z2⟩:=(Ae _ _).mp z;exact((R1.pur z1).trans (R2.pur z2)).trans s3
theorem zEC(ho:OpI K r o)(hs:(pb || (ta && ia))=true){Q:VK}(h:TV K ml (pa && pb) ia ia (f2 o fa fb) σ H Q):tOp r (TV K ml pa ta ia fa) (TV K ml pb tb ib fb) σ H Q:=by
 obtain⟨B,O,δ,d,δ2,S,q,k⟩:=h;obtain⟨x,δ1,y,h1,h2,h3⟩:=QR q;refine⟨B,O,δ,x,δ1,S,h1,fun v1 H1 R1=>⟨B,O,δ1,y,δ2,R1.sta,h2,fun v2 H2 R2=> ?_⟩⟩;exact ho H2 _ _ _ _ v1 v2 x y d Q (R2.live hs R1.rep) R2.rep h3 fun v hv=>k v H2 ⟨R2.sta,R1.frm.trans R2.frm,fun z=>by
  obtain⟨z1,z2⟩:=(Ae _ _).mp z;exact(R1.pur z1).trans (R2.pur z2),hv.mono (fun _ z=>z) zE2⟩
theorem YL{op:Operator}{pos:Pos}(ho:XD X (Go op) r)(hv:P6 K r o)(ha:PE X a (TV K ml pa ta ia fa))(hb:PE X b (TV K ml pb tb ib fb))(hs:(pb || (ta && ia))=true:=by rfl):PE X (.BinOp a op b pos) (TV K ml (pa && pb) true true (f2 o fa fb)):=
 (zDM ho ha hb).imp fun _ _ _ h=>HP hv hs h
theorem ZS{op:Operator}{pos:Pos}(ho:XD X (Go op) r)(hv:OpC K r o)(ha:PE X a (TV K ml pa ta ia fa))(hb:PE X b (TV K ml pb tb ib fb))(hs:(pb || (ta && ia))=true:=by rfl):PE X (.BinOp a op b pos) (TV K ml (pa && pb) true (ia && ib) (f2 o fa fb)):=
 (zDM ho ha hb).imp fun _ _ _ h=>zED hv hs h
theorem YW{op:CmpOp}{pos:Pos}(ho:XD X (Cw op) r)(hv:P6 K r o)(ha:PE X a (TV K ml pa ta ia fa))(hb:PE X b (TV K ml pb tb ib fb))(hm:Hd op b=false)(hs:(pb || (ta && ia))=true:=by rfl):PE X (.Compare a [op] [b] pos) (TV K ml (pa && pb) true true (f2 o fa fb)):=
 (zCC ho ha hb hm).imp fun _ _ _ h=>HP hv hs h
theorem zHK{pos:Pos}(ho:CQ X r)(hv:OpI K r o)(ha:PE X a (TV K ml pa ta ia fa))(hb:PE X b (TV K ml pb tb ib fb))(hx:KG b)(hs:(pb || (ta && ia))=true:=by rfl):PE X (.Subscript a b pos) (TV K ml (pa && pb) ia ia (f2 o fa fb)):=
 (zIM ho ha hb hx).imp fun _ _ _ h=>zEC hv hs h
noncomputable def oI(C:Int->Int->Bool)(g:Int->Int->dF):dF->dF->Option dF
 | .int i,.int j=>if C i j=true then some (g i j) else none
 |_,_=>none
theorem zA8{C:Int->Int->Bool}{g:Int->Int->dF}{d e c:dF}(h:oI C g d e=some c): ∃i j,d= .int i/\e= .int j/\C i j=true/\c=g i j:=by
 unfold oI at h;split at h
 ·split at h
  ·rename_i hc
   cases h;exact⟨_,_,rfl,rfl,hc,rfl⟩
  ·cases h
 ·cases h
theorem FK{C:Int->Int->Prop}{C':Int->Int->Bool}{g:Int->Int->V}{g':Int->Int->dF}(hC: ∀i j,C' i j=true->C i j)(hg: ∀i j N H M,bR K N H M (g i j) (g' i j)):P6 K (rI C g) (oI C' g'):=by
 intro H N N' M M' x y d e c Q hx hy h k;obtain⟨i,j,rfl,rfl,hc,rfl⟩:=zA8 h;cases hx;cases hy;exact⟨_,_,rfl,rfl,hC _ _ hc,k _ fun _ _ _=>hg ..⟩
theorem OG{g:Int->Int->V}{g':Int->Int->dF}(hg: ∀i j N H M,bR K N H M (g i j) (g' i j)):P6 K (HD g) (oI (fun _ _=>true) g'):=by
 intro H N N' M M' x y d e c Q hx hy h k;obtain⟨i,j,rfl,rfl,hc,rfl⟩:=zA8 h;cases hx;cases hy;exact⟨_,_,rfl,rfl,k _ fun _ _ _=>hg ..⟩
noncomputable def cMul(i j:Int):Bool:=(decide (-18446744073709551616<i) && decide (i<18446744073709551616)) || (decide (-18446744073709551616<j) && decide (j<18446744073709551616))
noncomputable def cDiv(i j:Int):Bool:=decide (0<j) && decide (j<1073741824)
noncomputable def cPow(i j:Int):Bool:=decide (0<=j) && decide (j<=1000000) && decide (i.natAbs<18446744073709551616)
noncomputable abbrev NE:=oI (fun _ _=>true) fun i j=> .int (i - j)
noncomputable abbrev oMul:=oI cMul fun i j=> .int (i*j)
noncomputable abbrev FG:=oI cDiv fun i j=> .int (i/j)
noncomputable abbrev LA:=oI (fun _ j=>decide (0<j)) fun i j=> .int (i % j)
noncomputable abbrev oPow:=oI cPow fun i j=> .int (i ^ j.toNat)
noncomputable abbrev oLt:=oI (fun _ _=>true) fun i j=> .bl (decide (i<j))
noncomputable abbrev oLe:=oI (fun _ _=>true) fun i j=> .bl (decide (i<=j))
noncomputable abbrev oGt:=oI (fun _ _=>true) fun i j=> .bl (decide (j<i))
noncomputable abbrev oGe:=oI (fun _ _=>true) fun i j=> .bl (decide (j<=i))
theorem ON:P6 K (HD fun i j=> .int (i - j)) NE:=OG fun i j _ _ _=> .int _
theorem zI3:P6 K (rI CO fun i j=> .int (i*j)) oMul:=FK (fun i j h=>by
 have p:(2:Int) ^ 64=18446744073709551616:=by decide
 unfold CO;rw[p];simpa[cMul] using h) fun i j _ _ _=> .int _
theorem BB:P6 K (rI CDiv fun i j=> .int (i/j)) FG:=FK (fun i j h=>by show 0<j/\j<1073741824;simpa[cDiv] using h) fun i j _ _ _=> .int _
theorem QI:P6 K (rI (fun _ j=>0<j) fun i j=> .int (i % j)) LA:=FK (fun i j h=>by simpa using h) fun i j _ _ _=> .int _
theorem zI2:P6 K (rI CPow fun i j=> .int (i ^ j.toNat)) oPow:=FK (fun i j h=>by
 have p:(2:Nat) ^ 64=18446744073709551616:=by decide
 unfold CPow;rw[p];simpa[cPow,and_assoc] using h) fun i j _ _ _=> .int _
theorem s_lt:P6 K (HD fun i j=> .bl (decide (i<j))) oLt:=OG fun i j _ _ _=> .bl _
theorem s_le:P6 K (HD fun i j=> .bl (decide (i<=j))) oLe:=OG fun i j _ _ _=> .bl _
theorem s_gt:P6 K (HD fun i j=> .bl (decide (j<i))) oGt:=OG fun i j _ _ _=> .bl _
theorem s_ge:P6 K (HD fun i j=> .bl (decide (j<=i))) oGe:=OG fun i j _ _ _=> .bl _
noncomputable def MH(d:dF):Bool:=d.isD && Er d.pd
noncomputable def HU(d e:dF):Bool:=Jj d.pd e.pd
noncomputable def W9(d e:dF):Option dF:=if(MH d && MH e)=true then some (.bl (HU d e)) else none
noncomputable def P0(d e:dF):Option dF:=if(MH d && MH e)=true then some (.bl (!HU d e)) else none
theorem s_eq:P6 K (rEqD K) W9:=by
 intro H N N' M M' x y d e c Q hx hy h k;unfold W9 at h;split at h
 ·rename_i hh
  cases h;simp only[MH,Ae] at hh;exact⟨d.pd,e.pd,hx.dp hh.1.1,hy.dp hh.2.1,hh.1.2,hh.2.2,k _ fun _ _ _=> .bl _⟩
 ·cases h
theorem OM:P6 K (rNeD K) P0:=by
 intro H N N' M M' x y d e c Q hx hy h k;unfold P0 at h;split at h
 ·rename_i hh
  cases h;simp only[MH,Ae] at hh;exact⟨d.pd,e.pd,hx.dp hh.1.1,hy.dp hh.2.1,hh.1.2,hh.2.2,k _ fun _ _ _=> .bl _⟩
 ·cases h
noncomputable def isN:dF->Bool
 | .non=>true
 |_=>false
noncomputable def G3:dF->dF->Option dF
 |d,.non=>some (.bl (isN d))
 |_,_=>none
noncomputable def OD:dF->dF->Option dF
 |d,.non=>some (.bl (!isN d))
 |_,_=>none
theorem F1{N M:Addr->Prop}(h:bR K N H M v d):decide (v=V.non)=isN d:=by
 cases h<;>simp[isN]
theorem zI8:P6 K (fun x y H Q=>y= .non/\Q (.bl (decide (x= .non))) H) G3:=by
  intro H N N' M M' x y d e c Q hx hy h k;cases hy<;>first
    | (cases h
       refine⟨rfl,?_⟩;rw[F1 hx];exact k _ fun _ _ _=> .bl _)
    |(simp[G3] at h)
theorem zEU:P6 K (fun x y H Q=>y= .non/\Q (.bl (!decide (x= .non))) H) OD:=by
  intro H N N' M M' x y d e c Q hx hy h k;cases hy<;>first
    | (cases h
       refine⟨rfl,?_⟩;rw[F1 hx];exact k _ fun _ _ _=> .bl _)
    |(simp[OD] at h)
noncomputable def X1:dF->Option (List dF)
 | .tup ds=>some ds
 | .lst ds=>some ds
 |_=>none
theorem bR.seq{N M:Addr->Prop}{ds:List dF}(h:bR K N H M v d)(e:X1 d=some ds): ∃a xs,v= .ref a/\(X5 K H a xs∨WS K H a xs)/\cO K N H xs ds:=by
 cases h<;>first
  |(cases e;rename_i q r;exact⟨_,_,rfl,.inr q,r⟩)
  |(cases e;rename_i q n r;exact⟨_,_,rfl,.inl (X5.of q),r⟩)
  |(cases e;rename_i q r;exact⟨_,_,rfl,.inl q.sq,r⟩)
  |cases e
theorem zD8{N:Addr->Prop}{xs:List V}{ds:List dF}{i:Int}(r:cO K N H xs ds)(h:VQ ds i=some d): ∃v,VQ xs i=some v/\bR K N H N v d:=by
 unfold VQ at h⊢;rw[r.length];cases hi:ixN ds.length i with
 |none=>rw[hi] at h;cases h
 |some j=>
  rw[hi] at h;exact r.get h
end
section
variable{X:Cx}{K:Ar}{ml:List Nat}{e a b c:Expr}{es:List Expr}{pa ta ia pb tb ib pc tc ic pu bt bi ps bs:Bool}{fa fb fc:VF}{r r':R2}{o o':dF->dF->Option dF}{B:Bs}{O:Nat->Option Addr}{H H1 H':Hp}{σ:St}{δ δ':Ev}{v:V}{d:dF}{p:Addr}{pos:Pos}
theorem bA.unadd(S:bA K ml (B.add p) O H σ δ):bA K ml B O H σ δ where
 len:=S.len
 va:=fun i d e=>let ⟨v,a,b⟩:=S.va i d e;⟨v,a,b.mono U0 U0⟩
 ow:=fun i d e=>let ⟨a,b,c,w⟩:=S.ow i d e;⟨a,b,c,w.mono U0⟩
 dom:=S.dom
 inj:=S.inj
 old:=fun i a h=>⟨fun z=>(S.old i a h).1 (.inl z),(S.old i a h).2⟩
 zin:=fun a h=>S.zin a (.inl h)
 frm:=S.frm
 par:=S.par
 pin:=S.pin
 kep:=fun p h=>(S.kep p h).mono U0 U0
structure ResN(K:Ar)(ml:List Nat)(B:Bs)(O:Nat->Option Addr)(H:Hp)(σ:St)(pu:Bool)(H':Hp)(δ':Ev)(p:Addr)(d:dF):Prop where
 sta:bA K ml (B.add p) O H' σ δ'
 frm:Fr (OA O) H H'
 pur:pu=true->bI H H'
 own:PQ K (Nn (B.add p) O) H' p d
 nz: ¬Nn B O p
 h0:B.H0 p=none
def TN(K:Ar)(ml:List Nat)(pu:Bool)(f:VF):TE:=fun σ H Q=> ∃B O δ d δ',bA K ml B O H σ δ/\f δ=some (d,δ')/\ ∀p H',ResN K ml B O H σ pu H' δ' p d->Q (.ref p) H'
theorem bZ{f:VF}(h:PE X e (TN K ml pu f)):PE X e (TV K ml pu true true f):=h.imp fun σ H Q ⟨B,O,δ,d,δ',S,q,k⟩=>
 ⟨B,O,δ,d,δ',S,q,fun p H' R=>k _ H' ⟨R.sta.unadd,R.frm,R.pur,(R.own.mono U0).rep R.nz⟩⟩
theorem mkN{xs:List V}{ds:List dF}(S:bA K ml B O H1 σ δ')(f:Fr (OA O) H H1)(s:pu=true->bI H H1)(hp:H1 p=none)(r:cO K (Nn B O) H1 xs ds):ResN K ml B O H σ pu (bN H1 p (.lst xs)) δ' p (.lst ds):=
 ⟨S.laid hp,f.trans (c8 hp).fr,fun z=>(s z).trans (c8 hp),.lst cS ((r.away hp _ _ W8).same (c8 hp)),S.new hp,S.fresh hp⟩
theorem mkD(S:bA K ml B O H1 σ δ')(f:Fr (OA O) H H1)(s:pu=true->bI H H1)(hp:H1 p=none):ResN K ml B O H σ pu (bN H1 p (.dK [])) δ' p (.dct [] []):=
 ⟨S.laid hp,f.trans (c8 hp).fr,fun z=>(s z).trans (c8 hp),.dct (kvs:=[]) cS .nil,S.new hp,S.fresh hp⟩
theorem OU:PE X (.Dict [] [] pos) (TN K ml true (fC (.dct [] []))):=AE.imp fun σ H Q hq0=>by
 obtain⟨B,O,δ,d,δ',S,q,k⟩:=hq0;cases q;exact fun p hp=>k p _ (mkD S (Fr.refl _ _) (fun _=>bI.refl _) hp)
abbrev NG:=Ev->Option (List dF×Ev)
structure ResA(K:Ar)(ml:List Nat)(B:Bs)(O:Nat->Option Addr)(H:Hp)(σ:St)(pu b:Bool)(H':Hp)(δ':Ev)(vs:List V)(ds:List dF):Prop where
 sta:bA K ml B O H' σ δ'
 frm:Fr (OA O) H H'
 pur:pu=true->bI H H'
 rep:cO K (av B O b) H' vs ds
def TAV(K:Ar)(ml:List Nat)(pu b:Bool)(f:NG):TA:=fun σ H Q=> ∃B O δ d δ',bA K ml B O H σ δ/\f δ=some (d,δ')/\ ∀vs H',ResA K ml B O H σ pu b H' δ' vs d->Q vs H'
noncomputable def cF:NG:=fun δ=>some ([],δ)
noncomputable def c9(fa:VF)(fs:NG):NG:=fun δ=>(fa δ).bind fun p=>(fs p.2).map fun q=>(p.1::q.1,q.2)
theorem DD{fs:NG}{ds:List dF}(h:c9 fa fs δ=some (ds,δ')): ∃x δ1 xs,fa δ=some (x,δ1)/\fs δ1=some (xs,δ')/\ds=x::xs:=by
 unfold c9 at h;cases h1:fa δ with
 |none=>rw[h1] at h;cases h
 |some p=>
  rw[h1] at h;cases h2:fs p.2 with
  |none=>simp[h2] at h
  |some q=>
   simp only[Av,h2] at h;cases h;exact⟨p.1,p.2,q.1,rfl,h2,rfl⟩
theorem cW:PA X [] (TAV K ml true true cF):=aH.imp fun σ H Q hq0=>by
 obtain⟨B,O,δ,d,δ',S,q,k⟩:=hq0;cases q;exact k [] H ⟨S,Fr.refl _ _,fun _=>bI.refl _,.nil⟩
theorem dE{fs:NG}(ha:PE X a (TV K ml pa ta ia fa))(hr:PA X es (TAV K ml ps bs fs))(hs:Aj (a::es) X.env=(false,eval a X.env)::Aj es X.env:=by rfl)(hl:(ps || (ta && ia))=true:=by rfl)(ht:ta=true:=by rfl):
  PA X (a::es) (TAV K ml (pa && ps) (ta && ia && bs) (c9 fa fs)):=(cE ha hr hs).imp fun σ H Q hq0=>by
 obtain⟨B,O,δ,d,δ2,S,q,k⟩:=hq0;obtain⟨x,δ1,xs,h1,h2,rfl⟩:=DD q;refine⟨B,O,δ,x,δ1,S,h1,fun v1 H1 R1=>⟨B,O,δ1,xs,δ2,R1.sta,h2,fun vs H2 R2=>k _ H2 ⟨R2.sta,R1.frm.trans R2.frm,fun z=> ?_,?_⟩⟩⟩
 ·obtain⟨z1,z2⟩:=(Ae _ _).mp z
  exact(R1.pur z1).trans (R2.pur z2)
 ·have g : ∀ c,((ta && ia && bs) = true -> c = true) -> ∀ a,av B O (ta && ia && bs) a -> av B O c a := fun c h => OX h
  have g1:=g ta fun z=>by simp only[Ae] at z;exact z.1.1
  have g2:=g ia fun z=>by simp only[Ae] at z;exact z.1.2
  have g3:=g bs fun z=>by simp only[Ae] at z;exact z.2
  refine .cons ?_ (R2.rep.mono g3);have h:bR K (av B O ia) H2 (at_ B O ta) v1 x:=by
   cases ps with
   |true=>exact R1.rep.same (R2.pur rfl)
   |false=>
    have hs:(ta && ia)=true:=by simpa using hl
    obtain⟨h1,h2⟩:=(Ae _ _).mp hs;subst h1 h2;exact R1.rep.fr R2.frm (fun a z=> .inr z) fun a z=> .inr z
  subst ht;exact h.mono g2 g1
theorem bA.lone(S:bA K ml B O H σ δ){i:Nat}{x:dF}(hm:i∉ml)(h:fO i δ=some (x,δ')):δ'=δ/\ ∃v,σ[i]? =some (some v)/\bR K (av B O false) H (av B O false) v x:=by
 unfold fO at h;split at h
 ·rename_i d hd
  cases h;obtain⟨v,e1,r⟩:=S.va i _ hd;exact⟨rfl,v,e1,r.mono (fun a z=>z.1) fun a z=>z.1⟩
 ·rename_i d hd
  cases h;obtain⟨a,e1,e2,w⟩:=S.ow i _ hd;refine⟨rfl,.ref a,e2,(w.mono fun a z=>z.1).rep fun z=> ?_⟩;rcases z.2 with z|⟨j,z⟩
  ·exact(S.old i a e1).1 z
  ·have hj:=S.par.1 j a z
   have:i=j:=S.inj i j a e1 ((S.par.2 j hj).trans z);exact hm (this▸hj)
 ·cases h
noncomputable def Z3(fs:NG):VF:=fun δ=>(fs δ).bind fun p=>if p.1.length<=16777216 then some (.tup p.1,p.2) else none
noncomputable def YY(fs:NG):VF:=fun δ=>(fs δ).bind fun p=>if p.1.length<=16777216 then some (.lst p.1,p.2) else none
theorem II{fs:NG}{g:List dF->dF}(h:((fs δ).bind fun p=>if p.1.length<=16777216 then some (g p.1,p.2) else none)=some (d,δ')): ∃ds,fs δ=some (ds,δ')/\ds.length<=16777216/\d=g ds:=by
 cases h1:fs δ with
 |none=>rw[h1] at h;cases h
 |some p=>
  rw[h1] at h;have h:(if p.1.length<=16777216 then some (g p.1,p.2) else none)=some (d,δ'):=h;split at h
  ·cases h
   exact⟨p.1,rfl,by assumption,rfl⟩
  ·cases h
theorem bT{x1}{fs:NG}(h:PA X es (TAV K ml pu bs fs)):PE X (.Tuple es x1 pos) (TV K ml pu true bs (Z3 fs)):=(G9 h).imp fun σ H Q hq0=>by
 obtain⟨B,O,δ,d,δ',S,q,k⟩:=hq0;obtain⟨ds,h1,hl,rfl⟩:=II (g:=dF.tup) q;refine⟨B,O,δ,ds,δ',S,h1,fun vs H1 R=>⟨by rw[R.rep.length,Cm];exact hl,fun p hp=>k _ _ ⟨R.sta.same (c8 hp),R.frm.trans (c8 hp).fr,fun z=>(R.pur z).trans (c8 hp),.tup (WS.of cS) (R.rep.same (c8 hp))⟩⟩⟩
theorem aW{fs:NG}(h:PA X es (TAV K ml pu true fs)):PE X (.List es pos) (TN K ml pu (YY fs)):=(zFM h).imp fun σ H Q hq0=>by
 obtain⟨B,O,δ,d,δ',S,q,k⟩:=hq0;obtain⟨ds,h1,hl,rfl⟩:=II (g:=dF.lst) q;exact⟨B,O,δ,ds,δ',S,h1,fun vs H1 R=>⟨by rw[R.rep.length,Cm];exact hl,fun p hp=>k p _ (mkN R.sta R.frm R.pur hp R.rep)⟩⟩
abbrev VB:=Ev->Option (Bool×Ev)
structure CY(K:Ar)(ml:List Nat)(B:Bs)(O:Nat->Option Addr)(H:Hp)(σ:St)(pu:Bool)(H':Hp)(δ':Ev):Prop where
 sta:bA K ml B O H' σ δ'
 frm:Fr (OA O) H H'
 pur:pu=true->bI H H'
def TB(K:Ar)(ml:List Nat)(pu:Bool)(f:VB):TT:=fun σ H Q=> ∃B O δ k δ',bA K ml B O H σ δ/\f δ=some (k,δ')/\ ∀H',CY K ml B O H σ pu H' δ'->Q k H'
noncomputable def fB(f:VF):VB:=fun δ=>(f δ).bind fun p=>match p.1 with
 | .bl k=>some (k,p.2)
 |_=>none
theorem zH2{f:VF}{k:Bool}(h:fB f δ=some (k,δ')):f δ=some (.bl k,δ'):=by
 unfold fB at h;cases h1:f δ with
 |none=>rw[h1] at h;cases h
 |some p=>
  obtain⟨x,δ1⟩:=p;rw[h1] at h;cases x<;>first
   |(cases h;rfl)
   |cases h
theorem PK{f:VF}{t:TE}(ht: ∀σ H Q,TV K ml pu bt bi f σ H Q->t σ H Q){Q:Bool->Hp->Prop}(h:TB K ml pu (fB f) σ H Q):t σ H fun x H'=> ∃k,x= .bl k/\Q k H':=by
 obtain⟨B,O,δ,k,δ',S,q,w⟩:=h;refine ht σ H _ ⟨B,O,δ,.bl k,δ',S,zH2 q,fun v H' R=>⟨k,?_,w H' ⟨R.sta,R.frm,R.pur⟩⟩⟩;cases R.rep;rfl
theorem bW{op:CmpOp}(ho:XD X (Cw op) r)(hv:P6 K r o)(ha:PE X a (TV K ml pa ta ia fa))(hb:PE X b (TV K ml pb tb ib fb))(hm:Hd op b=false)(hs:(pb || (ta && ia))=true:=by rfl):PT X (.Compare a [op] [b] pos) (TB K ml (pa && pb) (fB (f2 o fa fb))):=
 (FS ho ha hb hm).imp fun _ _ _ h=>PK (fun _ _ _=>HP hv hs) h
theorem X4{f:VF}(h:PE X e (TV K ml pu bt bi f))(he: ∀bn,isTrue e X.env bn=(do let v<- bn;standAt e.pos;holding [v] (truthy v)):=by intro _;rfl):PT X e (TB K ml pu (fB f)):=
 (zF7 h he).imp fun _ _ _ h=>PK (fun _ _ _ z=>z) h
noncomputable def NL(x y:VB):VB:=fun δ=>(x δ).bind fun p=>if p.1=true then y p.2 else some (false,p.2)
noncomputable def HS(x y:VB):VB:=fun δ=>(x δ).bind fun p=>if p.1=true then some (true,p.2) else y p.2
noncomputable def M5(x:VB):VB:=fun δ=>(x δ).map fun p=>(!p.1,p.2)
theorem CY.refl(S:bA K ml B O H σ δ):CY K ml B O H σ pu H δ:=⟨S,Fr.refl _ _,fun _=>bI.refl _⟩
theorem zEI{x y:VB}{Q:Bool->Hp->Prop}(h:TB K ml (pa && pb) (NL x y) σ H Q):tAnd (TB K ml pa x) (TB K ml pb y) σ H Q:=by
 obtain⟨B,O,δ,k,δ',S,q,w⟩:=h;unfold NL at q;obtain⟨⟨kk,δ1⟩,h1,q⟩:=Aa.mp q;refine⟨B,O,δ,kk,δ1,S,h1,fun H1 R1=> ?_⟩;cases kk with
 |true=>
  have q:y δ1=some (k,δ'):=q;exact ND ⟨B,O,δ1,k,δ',R1.sta,q,fun H2 R2=>w H2 ⟨R2.sta,R1.frm.trans R2.frm,fun z=>by
   obtain⟨z1,z2⟩:=(Ae _ _).mp z;exact(R1.pur z1).trans (R2.pur z2)⟩⟩
 |false=>
  have q:some (false,δ1)=some (k,δ'):=q;cases q;exact NC (w H1 ⟨R1.sta,R1.frm,fun z=>R1.pur ((Ae _ _).mp z).1⟩)
theorem zHL{x y:VB}{Q:Bool->Hp->Prop}(h:TB K ml (pa && pb) (HS x y) σ H Q):tOr (TB K ml pa x) (TB K ml pb y) σ H Q:=by
 obtain⟨B,O,δ,k,δ',S,q,w⟩:=h;unfold HS at q;obtain⟨⟨kk,δ1⟩,h1,q⟩:=Aa.mp q;refine⟨B,O,δ,kk,δ1,S,h1,fun H1 R1=> ?_⟩;cases kk with
 |false=>
  have q:y δ1=some (k,δ'):=q;exact NC ⟨B,O,δ1,k,δ',R1.sta,q,fun H2 R2=>w H2 ⟨R2.sta,R1.frm.trans R2.frm,fun z=>by
   obtain⟨z1,z2⟩:=(Ae _ _).mp z;exact(R1.pur z1).trans (R2.pur z2)⟩⟩
 |true=>
  have q:some (true,δ1)=some (k,δ'):=q;cases q;exact ND (w H1 ⟨R1.sta,R1.frm,fun z=>R1.pur ((Ae _ _).mp z).1⟩)
theorem TW{x:VB}(h:PT X a (TB K ml pu x)):PT X (.UnaryOp .Not a pos) (TB K ml pu (M5 x)):=(zF8 h).imp fun σ H Q hq0=>by
 obtain⟨B,O,δ,k,δ',S,q,w⟩:=hq0;unfold M5 at q;obtain⟨p,h1,q⟩:=Ao.mp q;cases q;exact⟨B,O,δ,p.1,p.2,S,h1,w⟩
theorem LO{x:VB}(h:PT X a (TB K ml pu x)):PW X (.BoolOp .And [a] pos) (TB K ml pu x):=zBZ h
theorem W1{x:VB}(h:PT X a (TB K ml pu x)):PW X (.BoolOp .Or [a] pos) (TB K ml pu x):=zF4 h
theorem HQ{x y:VB}(ha:PT X a (TB K ml pa x))(hb:PW X (.BoolOp .And (b::es) pos) (TB K ml pb y)):PW X (.BoolOp .And (a::b::es) pos) (TB K ml (pa && pb) (NL x y)):=(zF5 ha hb).imp fun _ _ _ h=>zEI h
theorem VO{x y:VB}(ha:PT X a (TB K ml pa x))(hb:PW X (.BoolOp .Or (b::es) pos) (TB K ml pb y)):PW X (.BoolOp .Or (a::b::es) pos) (TB K ml (pa && pb) (HS x y)):=(zIJ ha hb).imp fun _ _ _ h=>zHL h
theorem RB{x:VB}(h:PW X e (TB K ml pu x)):PT X e (TB K ml pu x):=h.pt
noncomputable def RO(x y:VF):VF:=fun δ=>(x δ).bind fun p=>match p.1 with
 | .bl true=>y p.2
 | .bl false=>some (.bl false,p.2)
 |_=>none
noncomputable def fNot(x:VF):VF:=fun δ=>(x δ).bind fun p=>match p.1 with
 | .bl k=>some (.bl (!k),p.2)
 |_=>none
theorem V8{op}{f:VF}(h:PE X a (TV K ml pu bt bi f)):PE X (.BoolOp op [a] pos) (TV K ml pu bt bi f):=zFJ h
theorem XI(ha:PE X a (TV K ml pa ta ia fa))(hb:PE X (.BoolOp .And (b::es) pos) (TV K ml pb tb ib fb)):PE X (.BoolOp .And (a::b::es) pos) (TV K ml (pa && pb) tb ib (RO fa fb)):=(zFO ha hb).imp fun σ H Q hq0=>by
 obtain⟨B,O,δ,d,δ',S,q,k⟩:=hq0;unfold RO at q;obtain⟨⟨x,δ1⟩,h1,q⟩:=Aa.mp q;refine⟨B,O,δ,x,δ1,S,h1,fun v1 H1 R1=> ?_⟩;cases x with
 |bl kk=>
  have e1:v1= .bl kk:=by cases R1.rep;rfl
  refine⟨kk,e1,?_⟩;cases kk with
  |true=>
   exact ND ⟨B,O,δ1,d,δ',R1.sta,q,fun v2 H2 R2=>k v2 H2 ⟨R2.sta,R1.frm.trans R2.frm,fun z=>by
    obtain⟨z1,z2⟩:=(Ae _ _).mp z;exact(R1.pur z1).trans (R2.pur z2),R2.rep⟩⟩
  |false=>
   cases q;exact NC (k _ H1 ⟨R1.sta,R1.frm,fun z=>R1.pur ((Ae _ _).mp z).1,.bl _⟩)
 |_=>cases q
theorem zE9(ha:PE X a (TV K ml pa ta ia fa)):PE X (.UnaryOp .Not a pos) (TV K ml pa true true (fNot fa)):=(zFK ha).imp fun σ H Q hq0=>by
 obtain⟨B,O,δ,d,δ',S,q,k⟩:=hq0;unfold fNot at q;obtain⟨⟨x,δ1⟩,h1,q⟩:=Aa.mp q;refine⟨B,O,δ,x,δ1,S,h1,fun v1 H1 R1=> ?_⟩;cases x with
 |bl kk=>
  have e1:v1= .bl kk:=by cases R1.rep;rfl
  cases q;exact⟨kk,e1,k _ H1 ⟨R1.sta,R1.frm,R1.pur,.bl _⟩⟩
 |_=>cases q
noncomputable def fIf(t:VB)(x y:VF):VF:=fun δ=>(t δ).bind fun p=>if p.1=true then x p.2 else y p.2
theorem MX{t:VB}(ht:PT X c (TB K ml pc t))(ha:PE X a (TV K ml pa ta ia fa))(hb:PE X b (TV K ml pb tb ib fb)):PE X (.IfExp c a b pos) (TV K ml (pc && pa && pb) (ta && tb) (ia && ib) (fIf t fa fb)):=(AF ht ha hb).imp fun σ H Q hq0=>by
 obtain⟨B,O,δ,d,δ',S,q,k⟩:=hq0;unfold fIf at q;obtain⟨⟨kk,δ1⟩,h1,q⟩:=Aa.mp q;refine⟨B,O,δ,kk,δ1,S,h1,fun H1 R1=> ?_⟩;have g1: ∀c,((ta && tb)=true->c=true)-> ∀a,at_ B O (ta && tb) a->at_ B O c a:=fun c h=>zD7 h;have g2: ∀c,((ia && ib)=true->c=true)-> ∀a,av B O (ia && ib) a->av B O c a:=fun c h=>OX h;cases kk with
 |true=>
  exact ND ⟨B,O,δ1,d,δ',R1.sta,q,fun v2 H2 R2=>k v2 H2 ⟨R2.sta,R1.frm.trans R2.frm,fun z=>by
   simp only[Ae] at z;exact(R1.pur z.1.1).trans (R2.pur z.1.2),R2.rep.mono (g2 _ fun z=>((Ae _ _).mp z).1) (g1 _ fun z=>((Ae _ _).mp z).1)⟩⟩
 |false=>
  exact NC ⟨B,O,δ1,d,δ',R1.sta,q,fun v2 H2 R2=>k v2 H2 ⟨R2.sta,R1.frm.trans R2.frm,fun z=>by
   simp only[Ae] at z;exact(R1.pur z.1.1).trans (R2.pur z.2),R2.rep.mono (g2 _ fun z=>((Ae _ _).mp z).2) (g1 _ fun z=>((Ae _ _).mp z).2)⟩⟩
noncomputable def f3(o o':dF->dF->Option dF)(fa fb fc:VF):VF:=fun δ=>(fa δ).bind fun p=>(fb p.2).bind fun q=>(o p.1 q.1).bind fun z=>match z with
 | .bl true=>(fc q.2).bind fun s=>(o' q.1 s.1).map fun u=>(u,s.2)
 | .bl false=>some (.bl false,q.2)
 |_=>none
theorem J1(ho:P6 K r o)(ho':P6 K r' o')(hs:(pb || (ta && ia))=true)(hs':(pc || (tb && ib))=true){Q:VK}(h:TV K ml (pa && pb && pc) true true (f3 o o' fa fb fc) σ H Q):HL r r' (TV K ml pa ta ia fa) (TV K ml pb tb ib fb) (TV K ml pc tc ic fc) σ H Q:=by
 obtain⟨B,O,δ,d,δ3,S,q,k⟩:=h;unfold f3 at q;obtain⟨⟨x,δ1⟩,h1,q⟩:=Aa.mp q;cases h2:fb δ1 with
 |none=>simp[h2] at q
 |some p2=>
  obtain⟨y,δ2⟩:=p2;simp only[Av,h2] at q;refine⟨B,O,δ,x,δ1,S,h1,fun v1 H1 R1=>⟨B,O,δ1,y,δ2,R1.sta,h2,fun v2 H2 R2=> ?_⟩⟩;obtain⟨z,h3,q⟩:=Aa.mp q;refine ho H2 _ _ _ _ v1 v2 x y z _ (R2.live hs R1.rep) R2.rep h3 fun v hv=> ?_;have hv:=hv (fun _=>none) (fun _=>True) fun _=>True;cases z with
  |bl kk=>
   have e1:v= .bl kk:=by cases hv;rfl
   refine⟨kk,e1,?_⟩;cases kk with
   |false=>
    cases q;exact NC (k _ H2 ⟨R2.sta,R1.frm.trans R2.frm,fun z=>by
     simp only[Ae] at z;exact(R1.pur z.1.1).trans (R2.pur z.1.2),.bl _⟩)
   |true=>
    have q:((fc δ2).bind fun s=>(o' y s.1).map fun u=>(u,s.2))=some (d,δ3):=q;obtain⟨⟨z4,δ4⟩,h4,q⟩:=Aa.mp q;have q:((o' y z4).map fun u=>(u,δ4))=some (d,δ3):=q;obtain⟨u,h5,q⟩:=Ao.mp q;cases q;refine ND ⟨B,O,δ2,z4,_,R2.sta,h4,fun v4 H4 R4=> ?_⟩;exact ho' H4 _ _ _ _ v2 v4 y z4 d Q (R4.live hs' R2.rep) R4.rep h5 fun v hv=>k v H4 ⟨R4.sta,(R1.frm.trans R2.frm).trans R4.frm,fun z=>by
     simp only[Ae] at z;exact((R1.pur z.1.1).trans (R2.pur z.1.2)).trans (R4.pur z.2),hv _ _ _⟩
  |_=>cases q
theorem BV{op op':CmpOp}(ho:XD X (Cw op) r)(ho':XD X (Cw op') r')(hv:P6 K r o)(hv':P6 K r' o')(ha:PE X a (TV K ml pa ta ia fa))(hb:PE X b (TV K ml pb tb ib fb))(hc:PE X c (TV K ml pc tc ic fc))
  (hm:Qf [op,op'] [b,c]=false:=by with_unfolding_all rfl) (hs:(pb || (ta && ia))=true:=by rfl) (hs':(pc || (tb && ib))=true:=by rfl):PE X (.Compare a [op,op'] [b,c] pos) (TV K ml (pa && pb && pc) true true (f3 o o' fa fb fc)):=
 (zA0 ho ho' ha hb hc hm).imp fun _ _ _ h=>J1 hv hv' hs hs' h
theorem B6{op op':CmpOp}(ho:XD X (Cw op) r)(ho':XD X (Cw op') r')(hv:P6 K r o)(hv':P6 K r' o')(ha:PE X a (TV K ml pa ta ia fa))(hb:PE X b (TV K ml pb tb ib fb))(hc:PE X c (TV K ml pc tc ic fc))
  (hm:Qf [op,op'] [b,c]=false:=by with_unfolding_all rfl) (hs:(pb || (ta && ia))=true:=by rfl) (hs':(pc || (tb && ib))=true:=by rfl):PT X (.Compare a [op,op'] [b,c] pos) (TB K ml (pa && pb && pc) (fB (f3 o o' fa fb fc))):=
 (AN ho ho' ha hb hc hm).imp fun _ _ _ h=>PK (fun _ _ _=>J1 hv hv' hs hs') h
end
section
variable{X:Cx}{K:Ar}{ml:List Nat}{e a b c:Expr}{es:List Expr}{pa ta ia pb tb ib pc tc ic pu bt bi ps bs:Bool}{fa fb fc:VF}{B:Bs}{O:Nat->Option Addr}{H H1 H':Hp}{σ:St}{δ δ':Ev}{v:V}{d:dF}{p:Addr}{pos:Pos}
noncomputable def f1(o:dF->Option dF)(fa:VF):VF:=fun δ=>(fa δ).bind fun p=>(o p.1).map fun c=>(c,p.2)
theorem NT{o:dF->Option dF}(h:f1 o fa δ=some (d,δ')): ∃x,fa δ=some (x,δ')/\o x=some d:=by
 unfold f1 at h;cases h1:fa δ with
 |none=>rw[h1] at h;cases h
 |some p=>
  rw[h1] at h;have h:((o p.1).map fun c=>(c,p.2))=some (d,δ'):=h;obtain⟨c,h3,h⟩:=Ao.mp h;cases h;exact⟨p.1,rfl,h3⟩
abbrev RC:=List V->Hp->VK->Prop
def CalS(K:Ar)(r:RC)(o:dF->Option dF):Prop:= ∀(H:Hp) (N M:Addr->Prop) (x:V) (d c:dF) (Q:VK),bR K N H M x d->o d=some c->(∀v,(∀H' N M,bR K N H' M v c)->Q v H)->r [x] H Q
def CalC(K:Ar)(r:RC)(o:dF->Option dF):Prop:= ∀(H:Hp) (N M:Addr->Prop) (x:V) (d c:dF) (Q:VK),bR K N H M x d->o d=some c→
 (∀v H',bI H H'->(∀M,(∀a,M a-> ∃o,H a=some o)->bR K N H' M v c)->Q v H')->r [x] H Q
def CP(K:Ar)(r:RC)(o:dF->Option dF):Prop:= ∀(H:Hp) (N M:Addr->Prop) (x:V) (d c:dF) (Q:VK),bR K N H M x d->o d=some c→
 (∀p xs ds,H p=none->cO K N H xs ds->c= .lst ds->Q (.ref p) (bN H p (.lst xs)))->r [x] H Q
def LQ(K:Ar)(r:RC)(o:dF->dF->Option dF):Prop:= ∀(H:Hp) (N N' M M':Addr->Prop) (x y:V) (d e c:dF) (Q:VK),bR K N H M x d->bR K N' H M' y e->o d e=some c->(∀v,(∀H' N M,bR K N H' M v c)->Q v H)->r [x,y] H Q
theorem EE{r:RC}{o:dF->Option dF}(ho:CalS K r o){Q:VK}(h:TV K ml pa true true (f1 o fa) σ H Q):tCB r (MS (TV K ml pa ta ia fa) BL) σ H Q:=by
 obtain⟨B,O,δ,d,δ',S,q,k⟩:=h;obtain⟨x,h1,h2⟩:=NT q;exact⟨B,O,δ,x,δ',S,h1,fun v1 H1 R1=>ho H1 _ _ v1 x d Q R1.rep h2 fun v hv=>k v H1 ⟨R1.sta,R1.frm,R1.pur,hv _ _ _⟩⟩
theorem ED{r:RC}{o:dF->Option dF}(ho:CalC K r o){Q:VK}(h:TV K ml pa true ia (f1 o fa) σ H Q):tCB r (MS (TV K ml pa ta ia fa) BL) σ H Q:=by
 obtain⟨B,O,δ,d,δ',S,q,k⟩:=h;obtain⟨x,h1,h2⟩:=NT q;exact⟨B,O,δ,x,δ',S,h1,fun v1 H1 R1=>ho H1 _ _ v1 x d Q R1.rep h2 fun v H2 s2 hv=>k v H2 ⟨R1.sta.same s2,R1.frm.trans s2.fr,fun z=>(R1.pur z).trans s2,hv _ fun a z=>R1.sta.nin z⟩⟩
theorem MU{r:RC}{o:dF->Option dF}(ho:CP K r o){Q:VK}(h:TN K ml pa (f1 o fa) σ H Q):tCB r (MS (TV K ml pa ta true fa) BL) σ H Q:=by
 obtain⟨B,O,δ,d,δ',S,q,k⟩:=h;obtain⟨x,h1,h2⟩:=NT q;refine⟨B,O,δ,x,δ',S,h1,fun v1 H1 R1=>ho H1 _ _ v1 x d Q R1.rep h2 fun p xs ds hp hr he=> ?_⟩;subst he;exact k p _ (mkN R1.sta R1.frm R1.pur hp hr)
theorem EF{r:RC}{o:dF->dF->Option dF}(ho:LQ K r o)(hs:(pb || (ta && ia))=true){Q:VK}(h:TV K ml (pa && pb) true true (f2 o fa fb) σ H Q):tCB r (MS (TV K ml pa ta ia fa) (MS (TV K ml pb tb ib fb) BL)) σ H Q:=by
 obtain⟨B,O,δ,d,δ2,S,q,k⟩:=h;obtain⟨x,δ1,y,h1,h2,h3⟩:=QR q;refine⟨B,O,δ,x,δ1,S,h1,fun v1 H1 R1=>⟨B,O,δ1,y,δ2,R1.sta,h2,fun v2 H2 R2=> ?_⟩⟩;exact ho H2 _ _ _ _ v1 v2 x y d Q (R2.live hs R1.rep) R2.rep h3 fun v hv=>k v H2 ⟨R2.sta,R1.frm.trans R2.frm,fun z=>by
  obtain⟨z1,z2⟩:=(Ae _ _).mp z;exact(R1.pur z1).trans (R2.pur z2),hv _ _ _⟩
section
variable{x:Str}{p':Pos}{id T:String}{r:RC}
theorem zDB{o:dF->Option dF}(hc:aX X (.builtin id) r)(ho:CalS K r o)(hg:Gl X x)(hm:X.mg x=none)(hv:Bj x=some (.builtin id))(ha:PE X a (TV K ml pa ta ia fa))(hn:x≠ "__name__":=by decide) (hdb:(x==("__debug__":Str))=false:=by decide)
  (he:Aj (a::[]) X.env=(false,eval a X.env)::Aj [] X.env:=by rfl):PE X (.Call (.Name x p') [a] [] pos) (TV K ml pa true true (f1 o fa)):=
 (R8 hc hg hm hv (cE ha aH he) hn hdb he).imp fun _ _ _ h=>EE ho h
theorem BU{o:dF->dF->Option dF}(hc:aX X (.builtin id) r)(ho:LQ K r o)(hg:Gl X x)(hm:X.mg x=none)(hv:Bj x=some (.builtin id))(ha:PE X a (TV K ml pa ta ia fa))(hb:PE X b (TV K ml pb tb ib fb))(hn:x≠ "__name__":=by decide) (hdb:(x==("__debug__":Str))=false:=by decide)
  (he:Aj (a::[b]) X.env=(false,eval a X.env)::Aj [b] X.env:=by rfl) (he2:Aj (b::[]) X.env=(false,eval b X.env)::Aj [] X.env:=by rfl) (hpl:(Gh pos (Aj [b] X.env)).any (·.1)=false:=by rfl) (hs:(pb || (ta && ia))=true:=by rfl):
  PE X (.Call (.Name x p') [a,b] [] pos) (TV K ml (pa && pb) true true (f2 o fa fb)):=
 (R8 hc hg hm hv (cE ha (cE hb aH he2) he) hn hdb he hpl).imp fun _ _ _ h=>EF ho hs h
theorem QK{o:dF->Option dF}(hc:aX X (.type T) r)(ho:CalC K r o)(hg:Gl X x)(hm:X.mg x=none)(hv:Bj x=some (.type T))(ha:PE X a (TV K ml pa ta ia fa))(hn:x≠ "__name__":=by decide) (hdb:(x==("__debug__":Str))=false:=by decide)
  (he:Aj (a::[]) X.env=(false,eval a X.env)::Aj [] X.env:=by rfl):PE X (.Call (.Name x p') [a] [] pos) (TV K ml pa true ia (f1 o fa)):=
 (WL hc hg hm hv (cE ha aH he) hn hdb he).imp fun _ _ _ h=>ED ho h
theorem zD9{o:dF->Option dF}(hc:aX X (.type T) r)(ho:CP K r o)(hg:Gl X x)(hm:X.mg x=none)(hv:Bj x=some (.type T))(ha:PE X a (TV K ml pa ta true fa))(hn:x≠ "__name__":=by decide) (hdb:(x==("__debug__":Str))=false:=by decide)
  (he:Aj (a::[]) X.env=(false,eval a X.env)::Aj [] X.env:=by rfl):PE X (.Call (.Name x p') [a] [] pos) (TN K ml pa (f1 o fa)):=
 (WL hc hg hm hv (cE ha aH he) hn hdb he).imp fun _ _ _ h=>MU ho h
theorem zDA{o:dF->Option dF}(hc:aX X (.builtin id) r)(ho:CP K r o)(hg:Gl X x)(hm:X.mg x=none)(hv:Bj x=some (.builtin id))(ha:PE X a (TV K ml pa ta true fa))(hn:x≠ "__name__":=by decide) (hdb:(x==("__debug__":Str))=false:=by decide)
  (he:Aj (a::[]) X.env=(false,eval a X.env)::Aj [] X.env:=by rfl):PE X (.Call (.Name x p') [a] [] pos) (TN K ml pa (f1 o fa)):=
 (R8 hc hg hm hv (cE ha aH he) hn hdb he).imp fun _ _ _ h=>MU ho h
end
noncomputable def aF:dF->Option dF
 | .tup ds=>some (.int ds.length)
 | .lst ds=>some (.int ds.length)
 | .str z=>if z.length<=16777216 then some (.int z.length) else none
 |_=>none
def rLen(K:Ar):RC:=fun xs H Q=>(∃p ys,xs=[.ref p]/\(X5 K H p ys∨WS K H p ys)/\Q (.int ys.length) H)∨ ∃z,xs=[.str z]/\z.length<=sizeLine/\Q (.int z.length) H
theorem zJC(h:X.K=K):aX X (.builtin "len") (rLen K):=by subst h;exact KM.or KN
theorem zI6:CalS K (rLen K) aF:=by
  intro H N M x d c Q hx h k;cases d<;>first
    | (rename_i ds
       obtain⟨a,xs,rfl,sq,r⟩:=hx.seq rfl;cases h;refine .inl ⟨a,xs,rfl,sq,?_⟩;rw[r.length];exact k _ fun _ _ _=> .int _)
    | (cases hx
       simp only[aF] at h;split at h
       · cases h
         exact .inr ⟨_,rfl,by rw[Cm];assumption,k _ fun _ _ _=> .int _⟩
       · cases h)
    |cases h
noncomputable def JF(d:dF):Option dF:=(X1 d).map dF.lst
noncomputable def XH(d:dF):Option dF:=(X1 d).map dF.tup
def AX(K:Ar):RC:=fun xs H Q=> ∃p ys,xs=[.ref p]/\(X5 K H p ys∨WS K H p ys)/\ ∀l,H l=none->Q (.ref l) (bN H l (.lst ys))
def FY(K:Ar):RC:=fun xs H Q=> ∃p ys,xs=[.ref p]/\((X5 K H p ys/\ ∀l,H l=none->Q (.ref l) (bN H l (.tup ys)))∨(WS K H p ys/\Q (.ref p) H))
theorem zAS(h:X.K=K):aX X (.type "list") (AX K):=zJB h
theorem W7(h:X.K=K):aX X (.type "tuple") (FY K):=zGT h
theorem JW{d:dF}{g:List dF->dF}{c:dF}(h:(X1 d).map g=some c): ∃ds,X1 d=some ds/\c=g ds:=by
 cases h1:X1 d with
 |none=>rw[h1] at h;cases h
 |some ds=>rw[h1] at h;cases h;exact⟨ds,rfl,rfl⟩
theorem TH:CP K (AX K) JF:=by
 intro H N M x d c Q hx h k;obtain⟨ds,h1,rfl⟩:=JW h;obtain⟨a,xs,rfl,sq,r⟩:=hx.seq h1;exact⟨a,xs,rfl,sq,fun l hl=>k l xs ds hl r rfl⟩
theorem W4:CalC K (FY K) XH:=by
 intro H N M x d c Q hx h k;obtain⟨ds,h1,rfl⟩:=JW h;obtain⟨a,xs,rfl,sq,r⟩:=hx.seq h1;rcases sq with sq|sq
 ·exact⟨a,xs,rfl,.inl ⟨sq,fun l hl=>k _ _ (c8 hl) fun M hM=> .tup (WS.of cS) (r.same (c8 hl))⟩⟩
 ·exact⟨a,xs,rfl,.inr ⟨sq,k _ _ (bI.refl _) fun M hM=> .tup sq r⟩⟩
noncomputable def o2I(g:Int->Int->Int):dF->dF->Option dF
 | .int i,.int j=>some (.int (g i j))
 |_,_=>none
theorem A9{g:Int->Int->Int}:LQ K (fun xs H Q=> ∃i j,xs=[.int i,.int j]/\Q (.int (g i j)) H) (o2I g):=by
 intro H N N' M M' x y d e c Q hx hy h k;unfold o2I at h;split at h
 ·cases h
  cases hx;cases hy;exact⟨_,_,rfl,k _ fun _ _ _=> .int _⟩
 ·cases h
noncomputable abbrev oMax:=o2I fun i j=>if j>i then j else i
noncomputable abbrev oMin:=o2I fun i j=>if j<i then j else i
theorem zI5:LQ K (fun xs H Q=> ∃i j,xs=[.int i,.int j]/\Q (.int (if j>i then j else i)) H) oMax:=A9
theorem zI4:LQ K (fun xs H Q=> ∃i j,xs=[.int i,.int j]/\Q (.int (if j<i then j else i)) H) oMin:=A9
noncomputable def tyD:dF->Option String
 | .non=>some "NoneType"
 | .bl _=>some "bool"
 | .int _=>some "int"
 | .str _=>some "str"
 | .tup _=>some "tuple"
 | .lst _=>some "list"
 |_=>none
noncomputable def PY(t n:String):Option Bool:=if((Kr t)==(Kr n))=true then some true else if W.kitMeta n=true then(PySem.fastBuiltinMro t).map (·.contains (.type n)) else none
theorem zCX{t n:String}{k:Bool}(h:PY t n=some k):W.kitOne K (.type t) (.type n)=some k:=h
noncomputable def Q0:dF->dF->Option dF
 |d,.ty n=>(tyD d).bind fun t=>(PY t n).map dF.bl
 |_,_=>none
def rIsi(K:Ar):RC:=fun xs H Q=> ∃x n d N M t k,xs=[x,.ty n]/\bR K N H M x d/\tyD d=some t/\PY t n=some k/\Q (.bl k) H
theorem C2:aX X (.builtin "isinstance") (rIsi X.K):=by
 intro aa s σ H xs us Q I r h;obtain⟨x,n,d,N,M,t,k,rfl,hx,ht,hk,q⟩:=h;obtain⟨u,c,rfl,rx,rc⟩:=F9 r;cases (show c=Kr n from rc);have e:=zCX (K:=X.K) hk;have fin: ∀tk,EP X aa σ Q (.bool k) {s with toks:=tk}:=fun tk=>⟨.bl k,H,I.tok tk,rfl,q⟩;cases hx with
 |non=>cases ht;exact UA I rx (.non) e fin
 |bl y=>cases ht;exact UA I rx (.bl y) e fin
 |int i=>cases ht;exact UA I rx (.int i) e fin
 |str y=>cases ht;exact UA I rx (.str y) e fin
 |ty n=>cases ht
 |fn _=>cases ht
 |dct _ _ _=>cases ht
 |ktb _ _=>cases ht
 |exn _ _ _=>cases ht
 |exr _ _ _ _ _=>cases ht
 |tup q _=>
  cases ht;cases rx;obtain⟨its,_,⟨o,h1,h2,_⟩,_⟩:=I.tuple q;exact Fy W.kitx_tuple I.kIn ⟨o,h1,h2⟩ e (fun z=>nomatch z) fin
 |lst q _ _=>
  cases ht;cases rx;obtain⟨its,_,⟨o,n,h1,h2,_⟩,_⟩:=I.list (X5.of q);exact Fy Nb I.kIn ⟨o,h1,h2⟩ e (fun z=>nomatch z) fin
 |fzl q _=>
  cases ht;cases rx;obtain⟨its,_,⟨o,n,h1,h2,_⟩,_⟩:=I.list q.sq;exact Fy Nb I.kIn ⟨o,h1,h2⟩ e (fun z=>nomatch z) fin
theorem kIsi(h:X.K=K):aX X (.builtin "isinstance") (rIsi K):=by subst h;exact C2
theorem zI7:LQ K (rIsi K) Q0:=by
  intro H N N' M M' x y d e c Q hx hy h k;cases hy<;>first
    | (simp only [Q0] at h
       cases h1:tyD d with
       |none=>rw[h1] at h;cases h
       |some t=>
         rw[h1] at h;rename_i n;have h:(PY t n).map dF.bl=some c:=h;obtain⟨kk,h2,h⟩:=Ao.mp h;cases h;exact⟨x,n,d,N,M,t,kk,rfl,hx,h1,h2,k _ fun _ _ _=> .bl _⟩)
    |cases h
noncomputable def JH:dF->Option dF
 | .int i=>some (.int (-i))
 |_=>none
theorem RA(ha:PE X a (TV K ml pa ta ia fa)):PE X (.UnaryOp .USub a pos) (TV K ml pa true true (f1 JH fa)):=(zIL zEA ha).imp fun σ H Q hq0=>by
 obtain⟨B,O,δ,d,δ',S,q,k⟩:=hq0;obtain⟨x,h1,h2⟩:=NT q;refine⟨B,O,δ,x,δ',S,h1,fun v1 H1 R1=> ?_⟩;cases x with
 |int i=>
  cases h2;have e1:v1= .int i:=by cases R1.rep;rfl
  exact⟨i,e1,k _ H1 ⟨R1.sta,R1.frm,R1.pur,.int _⟩⟩
 |_=>cases h2
abbrev VP:=Ev->Option (Option Int×Ev)
def TPO(K:Ar)(ml:List Nat)(pu:Bool)(f:VP):TO:=fun σ H Q=> ∃B O δ k δ',bA K ml B O H σ δ/\f δ=some (k,δ')/\ ∀H',CY K ml B O H σ pu H' δ'->Q k H'
noncomputable def CM:VP:=fun δ=>some (none,δ)
noncomputable def FM(f:VF):VP:=fun δ=>(f δ).bind fun p=>match p.1 with
 | .int i=>some (some i,p.2)
 |_=>none
theorem PO.imp{e:Option Expr}{t u:TO}(h:PO X e t)(k: ∀σ H Q,u σ H Q->t σ H Q):PO X e u:=fun aa s σ H Q I w=>h aa s σ H Q I (k σ H Q w)
theorem SO:PO X none (TPO K ml true CM):=zC6.imp fun σ H Q hq0=>by
 obtain⟨B,O,δ,d,δ',S,q,k⟩:=hq0;cases q;exact k H (CY.refl S)
theorem SQ(h:PE X a (TV K ml pa ta ia fa)):PO X (some a) (TPO K ml pa (FM fa)):=(zC5 h).imp fun σ H Q hq0=>by
 obtain⟨B,O,δ,d,δ',S,q,k⟩:=hq0;unfold FM at q;obtain⟨⟨x,δ1⟩,h1,q⟩:=Aa.mp q;refine⟨B,O,δ,x,δ1,S,h1,fun v1 H1 R1=> ?_⟩;cases x with
 |int i=>
  have e1:v1= .int i:=by cases R1.rep;rfl
  cases q;exact⟨i,e1,k H1 ⟨R1.sta,R1.frm,R1.pur⟩⟩
 |_=>cases q
noncomputable def WG(ds:List dF)(lo hi:Option Int):List dF:=(ds.drop (HT.sIx ds.length 0 lo)).take (HT.sIx ds.length ds.length hi - HT.sIx ds.length 0 lo)
theorem O8{N:Addr->Prop}{xs:List V}{ds:List dF}(r:cO K N H xs ds)(lo hi:Option Int):cO K N H (ID xs lo hi) (WG ds lo hi):=by
 unfold ID WG;rw[r.length];exact(r.drop _).take _
noncomputable def oSl(d:dF)(lo hi:Option Int):Option dF:=match d with
 | .lst ds=>some (.lst (WG ds lo hi))
 | .tup ds=>some (.tup (WG ds lo hi))
 |_=>none
noncomputable def EV(fa:VF)(fl fh:VP):VF:=fun δ=>(fa δ).bind fun p=>(fl p.2).bind fun l=>(fh l.2).bind fun u=>(oSl p.1 l.1 u.1).map fun c=>(c,u.2)
theorem EA{prog:Bq}{w:World}{A:Cz}{E:Value->Af->Prop}{s:Af}{t sl:Addr}{items:Array Value}{vl vu:Value}{lo hi:Option Int}{Q:Value->Af->Prop}(ht:IsTup s.heap t items)(hs:s.heap.IsSliceOf sl vl vu .none)(pl:IsPart vl lo)
  (pu:IsPart vu hi) (h1:HT.sIx items.size 0 lo=0) (h2:HT.sIx items.size items.size hi=items.size) (h:Q (.ref t) s):wpAny (model prog w) A (Ld (.ref t) (.ref sl)) Q E s:=by
 obtain⟨os,hos,hcs,hds⟩:=id hs;have hT:s.TypeIs (.ref sl) "slice":=⟨os,hos,hcs⟩;unfold Ld;try with_reducible refine Ci ?_
 first|refine Ac (Ak ?_)|skip
 refine Ac (Kt ht.typeIs (by decide) ?_);refine Ac (Dq (name:=At "__getitem__") ht.typeIs Em
  (Dn Em ht.typeIs PyProof.Rows.entry_tuple_getitem ?_ (PyProof.Rows.args_tuple_getitem _ _)))
 show wpAny _ _ (Ke (.ref t)>>=_) _ _ s;refine Ac (PyProof.Rows.tupleItemsOf_ ht ?_);refine Ac (Kh hT ?_);rw[if_pos (by decide)];refine Ac (HT.WP hs pl pu ?_);rw[h1,h2];show wpAny _ _ (if((((0:Nat):Int)==0 && (1:Int)==1 && (items.size - 0)==items.size)=true) then _ else _) _ _ s;rw[if_pos (by simp)];refine Ac (m:=Qs _) (Ac (Kh ht.typeIs (Ak ?_)));rw[if_pos (by decide)];exact Ac (Hj (Ak ⟨_,rfl,Ak h⟩))
def rSlW(K:Ar):V->Option Int->Option Int->Hp->VK->Prop:=fun x lo hi H Q=> ∃a xs,x= .ref a/\WS K H a xs/\(HT.sIx xs.length 0 lo=0/\HT.sIx xs.length xs.length hi=xs.length)/\Q (.ref a) H
theorem zBQ:SlR X (rSlW X.K):=by
 intro aa s σ H x v vl vu lo hi sl Q I rx hs pl pu h;obtain⟨a,xs,rfl,hx,hw,q⟩:=h;cases rx;obtain⟨its,r,ht,hz⟩:=I.tuple hx;have af:its.toArray.size=xs.length:=by rw[Aw];exact r.length.symm
 refine⟨"tuple",_,PyProof.Rows.slot_tuple_getitem.lookup,ht.typeIs,?_⟩;exact EA ht hs pl pu (by rw[af];exact hw.1) (by rw[af];exact hw.2) ⟨.ref a,H,I,rfl,q⟩
def rSl(K:Ar):V->Option Int->Option Int->Hp->VK->Prop:=fun x lo hi H Q=>(rSlT K x lo hi H Q∨rSlL K x lo hi H Q)∨rSlW K x lo hi H Q
theorem kSl(h:X.K=K):SlR X (rSl K):=by subst h;exact(zEM.or zBR).or zBQ
theorem zCZ{fl fh:VP}(h:EV fa fl fh δ=some (d,δ')): ∃x δ1 l δ2 u,fa δ=some (x,δ1)/\fl δ1=some (l,δ2)/\fh δ2=some (u,δ')/\oSl x l u=some d:=by
 unfold EV at h;cases h1:fa δ with
 |none=>rw[h1] at h;cases h
 |some p=>
  rw[h1] at h;cases h2:fl p.2 with
  |none=>simp[h2] at h
  |some q=>
   simp only[Av,h2] at h;cases h3:fh q.2 with
   |none=>simp[h3] at h
   |some s=>
    simp only[Av,h3] at h;obtain⟨c,h4,h⟩:=Ao.mp h;cases h;exact⟨p.1,p.2,q.1,q.2,s.1,rfl,h2,h3,h4⟩
theorem SN{lo hi:Option Expr}{p2:Pos}{fl fh:VP}(hK:X.K=K)(ha:PE X a (TV K ml pa ta ia fa))(hl:PO X lo (TPO K ml pb fl))(hh:PO X hi (TPO K ml pc fh))(hs:(pb && pc || (ta && ia))=true:=by rfl):
  PE X (.Subscript a (.Slice lo hi none p2) pos) (TV K ml (pa && pb && pc) true ia (EV fa fl fh)):=(AG (kSl hK) ha hl hh).imp fun σ H Q hq0=>by
 obtain⟨B,O,δ,d,δ3,S,q,k⟩:=hq0;obtain⟨x,δ1,l,δ2,u,h1,h2,h3,h4⟩:=zCZ q;refine⟨B,O,δ,x,δ1,S,h1,fun v1 H1 R1=>⟨B,O,δ1,l,δ2,R1.sta,h2,fun H2 R2=>⟨B,O,δ2,u,δ3,R2.sta,h3,fun H3 R3=> ?_⟩⟩⟩;have hx:bR K (av B O ia) H3 (at_ B O ta) v1 x:=by
  rcases(Hv _ _).mp hs with z|z
  ·obtain⟨z1,z2⟩:=(Ae _ _).mp z
   exact(R1.rep.same (R2.pur z1)).same (R3.pur z2)
  ·obtain⟨z1,z2⟩:=(Ae _ _).mp z
   subst z1 z2;exact(R1.rep.fr R2.frm (fun a z=> .inr z) fun a z=> .inr z).fr R3.frm (fun a z=> .inr z) fun a z=> .inr z
 have ft:(pa && pb && pc)=true->bI H H3:=fun z=>by
  simp only[Ae] at z;exact((R1.pur z.1.1).trans (R2.pur z.1.2)).trans (R3.pur z.2)
 have hfr:=(R1.frm.trans R2.frm).trans R3.frm;cases x with
 |lst ds=>
  cases h4;obtain⟨a,xs,rfl,sq,r⟩:=hx.seq rfl;rcases sq with sq|sq
  ·exact .inl (.inr ⟨a,xs,rfl,sq,fun p hp=>k _ _ ⟨R3.sta.same (c8 hp),hfr.trans (c8 hp).fr,fun z=>(ft z).trans (c8 hp),.lst cS (R3.sta.new hp) ((O8 r l u).same (c8 hp))⟩⟩)
  ·cases hx with
   |lst q n r'=>exact .inl (.inr ⟨a,_,rfl,X5.of q,fun p hp=>k _ _ ⟨R3.sta.same (c8 hp),hfr.trans (c8 hp).fr,fun z=>(ft z).trans (c8 hp),.lst cS (R3.sta.new hp) ((O8 r' l u).same (c8 hp))⟩⟩)
   |fzl q r'=>exact .inl (.inr ⟨a,_,rfl,q.sq,fun p hp=>k _ _ ⟨R3.sta.same (c8 hp),hfr.trans (c8 hp).fr,fun z=>(ft z).trans (c8 hp),.lst cS (R3.sta.new hp) ((O8 r' l u).same (c8 hp))⟩⟩)
 |tup ds=>
  cases h4;cases hx with
  |tup q r'=>
   by_cases hw:HT.sIx ds.length 0 l=0/\HT.sIx ds.length ds.length u=ds.length
   ·refine .inr ⟨_,_,rfl,q,by rw [r'.length];exact hw,k _ _ ⟨R3.sta,hfr,ft,?_⟩⟩
    have e:WG ds l u=ds:=by
     unfold WG;rw[hw.1,hw.2];simp
    rw[e];exact .tup q r'
   ·exact .inl (.inl ⟨_,_,rfl,q,by rw[r'.length];exact hw,fun p hp=>k _ _ ⟨R3.sta.same (c8 hp),hfr.trans (c8 hp).fr,fun z=>(ft z).trans (c8 hp),.tup (WS.of cS) ((O8 r' l u).same (c8 hp))⟩⟩)
 |_=>cases h4
end
inductive Ou where
 |nx (δ:Ev)|rt (d:dF) (δ:Ev)|bk (δ:Ev)|ct (δ:Ev)
abbrev VS:=Ev->Option Ou
def Post(K:Ar)(ml:List Nat)(B:Bs)(D:GF):Ou->Prop
 | .nx δ'=> ∀σ' H' O',bA K ml B O' H' σ' δ'->D.nx σ' H'
 | .rt d δ'=> ∀v σ' H' O',bA K ml B O' H' σ' δ'->bR K (rz B) H' (rz B) v d->D.rt v H'
 | .bk δ'=> ∀σ' H' O',bA K ml B O' H' σ' δ'->D.bk σ' H'
 | .ct δ'=> ∀σ' H' O',bA K ml B O' H' σ' δ'->D.ct σ' H'
def TZ(K:Ar)(ml:List Nat)(g:VS):TS:=fun D σ H=> ∃B O δ o,bA K ml B O H σ δ/\g δ=some o/\Post K ml B D o
section
variable{X:Cx}{K:Ar}{ml:List Nat}{e a b c:Expr}{es:List Expr}{pa ta ia pb tb ib pc tc ic pu bt bi ps bs:Bool}{fa fb fc f:VF}{B B':Bs}{O:Nat->Option Addr}{H H1 H':Hp}{σ:St}{δ δ':Ev}{v:V}{d:dF}{p:Addr}{pos:Pos}{st:Stmt}{rest:List Stmt}{g g':VS}
noncomputable def ZV:VS:=fun δ=>some (.nx δ)
noncomputable def cK(g g':VS):VS:=fun δ=>(g δ).bind fun o=>match o with
 | .nx δ'=>g' δ'
 |o=>some o
theorem cI:PR X [] (TZ K ml ZV):=FR.imp fun D σ H hq0=>by
 obtain⟨B,O,δ,o,S,q,k⟩:=hq0;cases q;exact k σ H O S
theorem dC(h1:PS X st (TZ K ml g))(h2:PR X rest (TZ K ml g')):PR X (st::rest) (TZ K ml (cK g g')):=(JN h1 h2).imp fun D σ H hq0=>by
 obtain⟨B,O,δ,o,S,q,k⟩:=hq0;unfold cK at q;obtain⟨z,h1,q⟩:=Aa.mp q;refine⟨B,O,δ,z,S,h1,?_⟩;cases z with
 |nx δ1=>exact fun σ' H' O' S'=>⟨B,O',δ1,o,S',q,k⟩
 |rt d δ1=>cases q;exact k
 |bk δ1=>cases q;exact k
 |ct δ1=>cases q;exact k
theorem c7(h1:PS X st (TZ K ml g)):PR X [st] (TZ K ml g):=(JN h1 FR).imp fun D σ H ⟨B,O,δ,o,S,q,k⟩=>⟨B,O,δ,o,S,q,by cases o<;>exact k⟩
noncomputable def bO(f:VF):VS:=fun δ=>(f δ).map fun p=> .rt p.1 p.2
theorem cQ(h:PE X e (TV K ml pu bt bi f))(ht:bt=true:=by rfl):PS X (.Return (some e) pos) (TZ K ml (bO f)):=(AL h).imp fun D σ H hq0=>by
 obtain⟨B,O,δ,o,S,q,k⟩:=hq0;unfold bO at q;obtain⟨p,h1,q⟩:=Ao.mp q;cases q;subst ht;exact⟨B,O,δ,p.1,p.2,S,h1,fun v H' R=>k v σ H' O R.sta (R.rep.mono R.sta.rza R.sta.rzn)⟩
theorem zBI{i:Nat}(h:PE X e (SJ i))(hm:i∉ml:=by decide):PS X (.Return (some e) pos) (TZ K ml (bO (fO i))):=(AL h).imp fun D σ H hq0=>by
 obtain⟨B,O,δ,o,S,q,k⟩:=hq0;unfold bO at q;obtain⟨⟨x,δ1⟩,h1,q⟩:=Ao.mp q;cases q;obtain⟨rfl,v,e1,r⟩:=S.lone hm h1;exact⟨v,e1,k v σ H O S (r.mono S.rza S.rza)⟩
noncomputable def VJ(t:VB)(g g':VS):VS:=fun δ=>(t δ).bind fun p=>if p.1=true then g p.2 else g' p.2
theorem aZ{x y:List Stmt}{t:VB}(ht:PT X c (TB K ml pc t))(ha:PR X x (TZ K ml g))(hb:PR X y (TZ K ml g')):PS X (.If c x y pos) (TZ K ml (VJ t g g')):=(zIK ht ha hb).imp fun D σ H hq0=>by
 obtain⟨B,O,δ,o,S,q,k⟩:=hq0;unfold VJ at q;obtain⟨⟨kk,δ1⟩,h1,q⟩:=Aa.mp q;refine⟨B,O,δ,kk,δ1,S,h1,fun H1 R1=> ?_⟩;cases kk with
 |true=>exact ND ⟨B,O,δ1,o,R1.sta,q,k⟩
 |false=>exact NC ⟨B,O,δ1,o,R1.sta,q,k⟩
abbrev VX:=Ev->Option (Sl×Ev)
inductive St1(K:Ar)(B:Bs)(O:Nat->Option Addr)(H:Hp):Bs->V->Sl->Prop
 |va {v:V} {d:dF}:St1 K B O H {B with kp:=[(v,d)]++B.kp} v (.va d)
 |ol {p:Addr} {xs:List V} {ds:List dF}:H p=some (.lst xs)->xs.length=ds.length-> ¬Nn B O p->B.H0 p=none->St1 K B O H {B.add p with kp:=xs.zip ds++B.kp} (.ref p) (.ow (.lst ds))
 |od {p:Addr} {kvs:List (bV×V)} {ds:List dF}:H p=some (.dK kvs)->kvs.length=ds.length-> ¬Nn B O p->B.H0 p=none->St1 K B O H {B.add p with kp:=(kvs.map Cj).zip ds++B.kp} (.ref p) (.ow (.dct (kvs.map Bg) ds))
theorem St1.fr{s:Sl}(h:St1 K B O H B' v s)(f:Fr (OA O) H H'):St1 K B O H' B' v s:=by
 cases h with
 |va=>exact .va
 |ol q l n z=>exact .ol (f _ _ q fun w=>absurd (.inr w) n) l n z
 |od q l n z=>exact .od (f _ _ q fun w=>absurd (.inr w) n) l n z
def TX(K:Ar)(ml:List Nat)(f:VX):TE:=fun σ H Q=> ∃B O δ s δ',bA K ml B O H σ δ/\f δ=some (s,δ')/\ ∀v H' B',bA K ml B' O H' σ δ'->St1 K B O H' B' v s->Fr (OA O) H H'->Q v H'
noncomputable def xV(f:VF):VX:=fun δ=>(f δ).map fun p=>(.va p.1,p.2)
noncomputable def xO(f:VF):VX:=fun δ=>(f δ).map fun p=>(.ow p.1,p.2)
theorem ZT(h:PE X e (TV K ml pu true true f)):PE X e (TX K ml (xV f)):=h.imp fun σ H Q hq0=>by
 obtain⟨B,O,δ,o,δ',S,q,k⟩:=hq0;unfold xV at q;obtain⟨p,h1,q⟩:=Ao.mp q;cases q;exact⟨B,O,δ,p.1,p.2,S,h1,fun v H' R=>k v H' _ (R.sta.keepV (ps:=[(v,p.1)]) fun z hz=>by
  rw[Bb.mp hz];exact R.rep) .va R.frm⟩
theorem UM{N:Addr->Prop}: ∀{xs:List V} {ds:List dF},cO K N H xs ds-> ∀z∈xs.zip ds,bR K N H N z.1 z.2
 |_,_,.nil,z,hz=>nomatch hz
 |_,_,.cons h t,z,hz=>by
  rcases Ai.mp hz with e|e
  ·rw[e];exact h
  ·exact UM t z e
theorem UI{N:Addr->Prop}: ∀{xs:List V} {ds:List dF},xs.length=ds.length->(∀z∈xs.zip ds,bR K N H N z.1 z.2)->cO K N H xs ds
 |[],[],_,_=> .nil
 |x::xs,d::ds,hl,h=> .cons (h (x,d) (Au ..)) (UI (by simpa using hl) fun z hz=>h z (Ap _ hz))
theorem XJ(h:PE X e (TN K ml pu f)):PE X e (TX K ml (xO f)):=h.imp fun σ H Q hq0=>by
 obtain⟨B,O,δ,o,δ',S,q,k⟩:=hq0;unfold xO at q;cases h1:f δ with
 |none=>rw[h1] at q;cases q
 |some p=>
  obtain⟨d,δ1⟩:=p;rw[h1] at q;cases q;refine⟨B,O,δ,d,δ1,S,h1,fun p H' R=> ?_⟩;have w:=R.own;cases w with
  |lst q r=>exact k _ H' _ (R.sta.keepV (UM r)) (.ol q r.length R.nz R.h0) R.frm
  |dct q r=>exact k _ H' _ (R.sta.keepV (UM r)) (.od q (by simpa using r.length) R.nz R.h0) R.frm
theorem St1.bind{O':Nat->Option Addr}{s:Sl}{i:Nat}(h:St1 K B O H' B' v s)(S:bA K ml B' O' H' σ δ)(hm:i∉ml)(hl:i<δ.length): ∃O'',bA K ml B O'' H' (σ.set i (some v)) (δ.set i s):=by
 cases h with
 |va=>
  refine⟨_,bA.unkeep (ps:=_) (S.setVa hm (S.kep _ (Cg _ (Bb.mpr rfl))))⟩
 |ol q l n z=>
  refine⟨_,bA.setOw (bA.unkeep (B:=B.add _) S) hm hl (fun w=>n (.inl w)) z (.lst q (UI l fun z hz=>S.kep z (Cg _ hz)))⟩
 |od q l n z=>
  refine⟨_,bA.setOw (bA.unkeep (B:=B.add _) S) hm hl (fun w=>n (.inl w)) z (.dct q (UI (by simpa using l) fun z hz=>S.kep z (Cg _ hz)))⟩
noncomputable def Z9(i:Nat)(x:VX):VS:=fun δ=>(x δ).bind fun p=>if i<p.2.length then some (.nx (p.2.set i p.1)) else none
theorem bK{i:Nat}{y:Str}{x:VX}{bq:Pos}(hN:X.N.Nodup)(he:PE X e (TX K ml x))(hi:X.N[i]? =some y:=by rfl)(hx:GI X.env.scope y:=by first|exact .inl rfl|exact .inr rfl)(hm:i∉ml:=by decide)(hs:Hn e (some (.Name y bq)) pos.line X.env=pure false:=by rfl)
  (hf:X.fn y=true∨X.env.scope.names.lookup y=some .local:=by first|exact .inl rfl|exact .inr rfl|assumption):PS X (.Assign [.Name y bq] e pos) (TZ K ml (Z9 i x)):=(zF9 hN hi hx he hs hf).imp fun D σ H hq0=>by
 obtain⟨B,O,δ,o,S,q,k⟩:=hq0;unfold Z9 at q;obtain⟨⟨s,δ1⟩,h1,q⟩:=Aa.mp q;have q:(if i<δ1.length then some (Ou.nx (δ1.set i s)) else none)=some o:=q;split at q
 ·rename_i hl
  cases q;refine⟨B,O,δ,s,δ1,S,h1,fun v H' B' S' h' f'=> ?_⟩;obtain⟨O'',S''⟩:=h'.bind S' hm hl;exact k _ _ _ S''
 ·cases q
noncomputable def OK(i j:Nat)(x y:VX):VS:=fun δ=>(x δ).bind fun p=>(y p.2).bind fun q=>if i<q.2.length/\j<q.2.length then some (.nx ((q.2.set j q.1).set i p.1)) else none
theorem zBK{i j:Nat}{y z:Str}{fx fy:VX}{px py pt:Pos}{kt k2 pt2}(hc:X.calm=true)(hN:X.N.Nodup)(hi:X.N[i]? =some y)(hj:X.N[j]? =some z)(hij:i≠j)
  (hx:X.env.scope.names.lookup y=some .local) (hy:X.env.scope.names.lookup z=some .local) (ha:PE X a (TX K ml fx)) (hb:PE X b (TX K ml fy))
  (hw:Fm [.Tuple [.Name y px,.Name z py] kt pt] (.Tuple [a,b] k2 pt2) X.env=pure (some [y,z])) (hmi:i∉ml:=by decide) (hmj:j∉ml:=by decide)
  (hs:Fl [.Tuple [.Name y px,.Name z py] kt pt] (.Tuple [a,b] k2 pt2) pos.line X.env=pure false:=by rfl)
  (he:Aj (a::[b]) X.env=(false,eval a X.env)::Aj [b] X.env:=by rfl) (he2:Aj (b::[]) X.env=(false,eval b X.env)::Aj [] X.env:=by rfl):
  PS X (.Assign [.Tuple [.Name y px,.Name z py] kt pt] (.Tuple [a,b] k2 pt2) pos) (TZ K ml (OK i j fx fy)):=(zFA hc hN hi hj hij hx hy (cE ha (cE hb aH he2) he) hw hs).imp fun D σ H hq0=>by
 obtain⟨B,O,δ,o,S,q,k⟩:=hq0;unfold OK at q;obtain⟨⟨s,δ1⟩,h1,q⟩:=Aa.mp q;cases h2:fy δ1 with
 |none=>simp[h2] at q
 |some p2=>
  obtain⟨s2,δ2⟩:=p2;simp only[Av,h2] at q;split at q
  ·rename_i hl
   cases q;refine⟨B,O,δ,s,δ1,S,h1,fun v H1 B1 S1 w1 f1=>⟨B1,O,δ1,s2,δ2,S1,h2,fun v2 H2 B2 S2 w2 f2=>⟨v,v2,rfl,?_⟩⟩⟩;obtain⟨O3,S3⟩:=w2.bind S2 hmj hl.2;obtain⟨O4,S4⟩:=(w1.fr f2).bind S3 hmi (by rw[Cc];exact hl.1);rw[Eg _ _ (Dr hij)] at S4;exact k _ _ _ S4
  ·cases q
abbrev VG:=dF->Ev->Option Ev
def TGV(K:Ar)(ml:List Nat)(h:VG):TG:=fun v σ H Q=> ∃B O δ d δ',bA K ml B O H σ δ/\bR K (Nn B O) H (Nn B O) v d/\h d δ=some δ'/\ ∀σ' O',bA K ml B O' H σ' δ'->(∀i∈ml,σ'[i]? =σ[i]?)->Q σ' H
theorem PG.imp{t u:TG}(h:PG X e t)(k: ∀v σ H Q,u v σ H Q->t v σ H Q):PG X e u:=fun aa s σ H v w Q I r z=>h aa s σ H v w Q I r (k v σ H Q z)
theorem EM.imp{t u:CZ}(h:EM X es t)(k: ∀v σ H Q,u v σ H Q->t v σ H Q):EM X es u:=fun aa s σ H v w Q I r z=>h aa s σ H v w Q I r (k v σ H Q z)
theorem PG.or{t u:TG}(h:PG X e t)(h':PG X e u):PG X e (fun v σ H Q=>t v σ H Q∨u v σ H Q):=fun aa s σ H v w Q I r z=>by
 rcases z with z|z
 ·exact h aa s σ H v w Q I r z
 ·exact h' aa s σ H v w Q I r z
noncomputable def gN(i:Nat):VG:=fun d δ=>some (δ.set i (.va d))
theorem cR{i:Nat}{x:Str}(hN:X.N.Nodup)(hi:X.N[i]? =some x:=by rfl)(hx:GI X.env.scope x:=by first|exact .inl rfl|exact .inr rfl)(hm:i∉ml:=by decide)(hf:X.fn x=true∨X.env.scope.names.lookup x=some .local:=by first|exact .inl rfl|exact .inr rfl|assumption):PG X (.Name x pos) (TGV K ml (gN i)):=
 (UE hN hi hx hf).imp fun v σ H Q hq0 => by
  obtain⟨B,O,δ,d,δ',S,r,q,k⟩:=hq0;cases q;exact k _ _ (S.setVa hm r) fun j hj=>By fun(z:i=j)=>hm (z▸hj)
abbrev CJ:=List dF->Ev->Option Ev
def TGVs(K:Ar)(ml:List Nat)(h:CJ):CZ:=fun vs σ H Q=> ∃B O δ ds δ',bA K ml B O H σ δ/\cO K (Nn B O) H vs ds/\h ds δ=some δ'/\ ∀σ' O',bA K ml B O' H σ' δ'->(∀i∈ml,σ'[i]? =σ[i]?)->Q σ' H
noncomputable def YS:CJ:=fun ds δ=>match ds with
 |[]=>some δ
 |_=>none
noncomputable def b7(g:VG)(gs:CJ):CJ:=fun ds δ=>match ds with
 |d::r=>(g d δ).bind fun δ1=>gs r δ1
 |[]=>none
theorem ZC:EM X [] (TGVs K ml YS):=LC.imp fun vs σ H Q hq0=>by
 obtain⟨B,O,δ,ds,δ',S,r,q,k⟩:=hq0;cases r with
 |nil=>cases q;exact⟨rfl,k _ _ S fun _ _=>rfl⟩
 |cons _ _=>cases q
theorem cA{g:VG}{gs:CJ}(h1:PG X e (TGV K ml g))(h2:EM X es (TGVs K ml gs))(hs:(assignEach (e::es) X.env).map (·.2)=Gv e X.env::(assignEach es X.env).map (·.2):=by rfl):EM X (e::es) (TGVs K ml (b7 g gs)):=
 (WM h1 h2 hs).imp fun vs σ H Q hq0 => by
  obtain⟨B,O,δ,ds,δ',S,r,q,k⟩:=hq0;cases r with
  |nil=>cases q
  | @cons v vs d ds h t=>
   have q:((g d δ).bind fun δ1=>gs ds δ1)=some δ':=q;obtain⟨δ1,h1,q⟩:=Aa.mp q;have S0:=S.keepV (UM t);exact⟨v,vs,rfl,_,O,δ,d,δ1,S0,h,h1,fun σ1 O1 S1 m1=>⟨B,O1,δ1,ds,δ',S1.unkeep,UI t.length fun z hz=>S1.kep z (Cg _ hz),q,fun σ2 O2 S2 m2=>k σ2 O2 S2 fun i hi=>(m2 i hi).trans (m1 i hi)⟩⟩
noncomputable def NB(n:Nat)(gs:CJ):VG:=fun d δ=>(X1 d).bind fun ds=>if ds.length=n then gs ds δ else none
theorem X3{gs:CJ}{k n:Nat}(hK:X.K=K)(hc:X.calm=true)(h:EM X es (TGVs K ml gs))(hn:(assignEach es X.env).length=n:=by rfl)(hst:(assignEach es X.env).findIdx? (·.1)=none:=by rfl):PG X (.Tuple es k pos) (TGV K ml (NB n gs)):=
 ((zAQ (K := K) hK hc h hn hst).or (zJA (K := K) hK hc h hn hst)).imp fun v σ H Q hq0 => by
  obtain⟨B,O,δ,d,δ',S,r,q,k⟩:=hq0;unfold NB at q;obtain⟨ds,h1,q⟩:=Aa.mp q;have q:(if ds.length=n then gs ds δ else none)=some δ':=q;split at q
  ·rename_i hl
   obtain⟨a,xs,rfl,sq,ra⟩:=r.seq h1;have fin:TGVs K ml gs xs σ H Q:=⟨B,O,δ,ds,δ',S,ra,q,k⟩;rcases sq with sq|sq
   ·exact .inr ⟨a,xs,rfl,sq,ra.length.trans hl,fin⟩
   ·exact .inl ⟨a,xs,rfl,sq,ra.length.trans hl,fin⟩
  ·cases q
noncomputable def JT(f:VF)(g:VG):VS:=fun δ=>(f δ).bind fun p=>(g p.1 p.2).map Ou.nx
theorem OV{tg:Expr}{gg:VG}(he:PE X e (TV K ml pu true true f))(hg:PG X tg (TGV K ml gg))(hs:Fl [tg] e pos.line X.env=pure false:=by rfl)(hw:Fm [tg] e X.env=pure none:=by rfl)
  (h1:(assignEach [tg] X.env).map (·.2)=[Gv tg X.env]:=by rfl):PS X (.Assign [tg] e pos) (TZ K ml (JT f gg)):=(LF he hg hs hw h1).imp fun D σ H hq0=>by
 obtain⟨B,O,δ,o,S,q,k⟩:=hq0;unfold JT at q;obtain⟨⟨d,δ1⟩,h1,q⟩:=Aa.mp q;have q:(gg d δ1).map Ou.nx=some o:=q;obtain⟨δ2,h2,q⟩:=Ao.mp q;cases q;exact⟨B,O,δ,d,δ1,S,h1,fun v H' R=>⟨B,O,δ1,d,δ2,R.sta,R.rep,h2,fun σ' O' S' _=>k σ' H' O' S'⟩⟩
def MuV(K:Ar)(r:V->List V->Hp->VK->Prop)(m:List dF->List dF->Option (List dF)):Prop:= ∀(H:Hp) (N:Addr->Prop) (l:Addr) (xs vs:List V) (ds es ds':List dF) (Q:VK),
 H l=some (.lst xs)->N l->cO K N H xs ds->cO K N H vs es->m ds es=some ds'->(∀v xs',cO K N H xs' ds'->Q v (bN H l (.lst xs')))->r (.ref l) vs H Q
noncomputable def P1(δ:Ev)(i:Nat):Option (List dF):=match δ[i]? with
 |some (.ow (.lst ds))=>some ds
 |_=>none
noncomputable def VL(i:Nat)(m:List dF->List dF->Option (List dF))(fs:NG):VS:=fun δ=>(P1 δ i).bind fun _=>(fs δ).bind fun p=>(P1 p.2 i).bind fun ds=>(m ds p.1).map fun ds'=> .nx (p.2.set i (.ow (.lst ds')))
theorem MI{i:Nat}{ds:List dF}(h:P1 δ i=some ds):δ[i]? =some (.ow (.lst ds)):=by
 unfold P1 at h;split at h
 ·cases h;assumption
 ·cases h
theorem JR{N:Addr->Prop}{l:Addr}{o:HO}{xs:List V}{ds ys:List dF}{zs:List V}(ho:H l=some (.lst zs))(hN:N l)(h:cO K N H xs ds):cO K N (bN H l o) xs ds:=
 h.fr (P:=fun b=>b=l) (fun b u q n=>by
  by_cases hb:b=l
  ·subst hb
   rw[ho] at q;cases q;exact absurd (n rfl) fun z=>z
  ·rw[cH hb]
   exact q) fun a z=>z▸hN
theorem Y9{i:Nat}{x:Str}{name:Str}{ai ae dz:Pos}{id:String}{r:V->List V->Hp->VK->Prop}{m:List dF->List dF->Option (List dF)}{fs:NG}(hK:X.K=K)(slot:Slot "list" name id) (hty:typeOf (.builtin id)=pure (.type "method_descriptor")) (hm:MtR X id r) (hmu:MuV K r m)
  (ho:PE X (.Name x dz) (SJ i)) (ha:PA X (e::es) (TAV K ml pu true fs))
  (cb:Hs (.Name x dz) name X.env (eval (.Name x dz) X.env)=eval (.Name x dz) X.env:=by rfl)
  (dh : ((Gh ae (Aj (e :: es) X.env)).all (fun x => !x.1) && (Nt ae (Jo [] X.env)).all (fun x => x.1.isSome)
   && decide ((e::es).length+([]:List Jp).length+(if([]:List Jp).isEmpty then 0 else 1)<30))=true:=by rfl)
  (br:(ai.endLine==ae.line)=true:=by rfl) (hs:Aj (e::es) X.env=(false,eval e X.env)::Aj es X.env:=by rfl) (bh:(Gh ae (Aj es X.env)).any (·.1)=false:=by rfl)
  (hsw:Hn (.Call (.Attribute (.Name x dz) name ai) (e::es) [] ae) none pos.line X.env=pure false:=by rfl):
  PS X (.Expr (.Call (.Attribute (.Name x dz) name ai) (e::es) [] ae) pos) (TZ K ml (VL i m fs)):=
 (FQ (kBm (K := K) hK Li slot hty hm ho ha cb dh br hs bh) hsw).imp fun D σ H hq0 => by
  obtain⟨B,O,δ,o,S,q,k⟩:=hq0;unfold VL at q;obtain⟨ds0,h0,q⟩:=Aa.mp q;have q:((fs δ).bind fun p=>(P1 p.2 i).bind fun ds=>(m ds p.1).map fun ds'=>Ou.nx (p.2.set i (.ow (.lst ds'))))=some o:=q;obtain⟨⟨es',δ1⟩,h1,q⟩:=Aa.mp q;have q:((P1 δ1 i).bind fun ds=>(m ds es').map fun ds'=>Ou.nx (δ1.set i (.ow (.lst ds'))))=some o:=q;obtain⟨ds,h2,q⟩:=Aa.mp q;have q:((m ds es').map fun ds'=>Ou.nx (δ1.set i (.ow (.lst ds'))))=some o:=q;cases h3:m ds es' with
  |none=>rw[h3] at q;cases q
  |some ds'=>
   rw[h3] at q;cases q;obtain⟨l,e1,e2,w⟩:=S.ow i _ (MI h0);cases w with
   |lst hl0 _=>
    refine⟨.ref l,e2,.inl ⟨rfl,_,X5.of hl0⟩,B,O,δ,es',δ1,S,h1,fun vs H1 R=> ?_⟩;obtain⟨l',e3,_,w1⟩:=R.sta.ow i _ (MI h2);rw[e1] at e3;cases e3;cases w1 with
    |lst hl1 r1=>
     refine hmu H1 (Nn B O) l _ vs ds es' ds' _ hl1 (.inr ⟨i,e1⟩) r1 R.rep h3 fun v xs' r2=> ?_;exact k σ _ O (R.sta.wrote e1 (fun z=>z) (.lst cS (JR (ys:=[]) hl1 (.inr ⟨i,e1⟩) r2)))
noncomputable def UZ:List dF->List dF->Option (List dF)
 |ds,[d]=>if ds.length<16777216 then some (ds++[d]) else none
 |_,_=>none
theorem YT:MuV K FW UZ:=by
 intro H N l xs vs ds es ds' Q hl hN rx re h k;cases re with
 |nil=>cases h
 | @cons v vs d es hd t=>
  cases t with
  |cons _ _=>cases h
  |nil=>
   simp only[UZ] at h;split at h
   ·rename_i hz
    cases h;exact⟨l,xs,v,rfl,rfl,hl,by rw[rx.length,Cm];exact hz,k _ _ (rx.snoc hd)⟩
   ·cases h
end
section
variable{X:Cx}{K:Ar}{ml:List Nat}{e a b c:Expr}{es:List Expr}{pa ta ia pb tb ib pc tc ic pu bt bi ps bs:Bool}{fa fb fc f:VF}{B B':Bs}{O:Nat->Option Addr}{H H1 H':Hp}{σ:St}{δ δ':Ev}{v:V}{d:dF}{p:Addr}{pos:Pos}{st:Stmt}{rest:List Stmt}{g g':VS}
noncomputable def again(nxt:VS):Ou->Option Ou
 | .nx δ=>nxt δ
 | .ct δ=>nxt δ
 | .bk δ=>some (.nx δ)
 | .rt d δ=>some (.rt d δ)
noncomputable def bG(t:VB)(g:VS):Nat->VS
 |0=>fun _=>none
 |n+1=>fun δ=>(t δ).bind fun p=>if p.1=true then(g p.2).bind (again (bG t g n)) else some (.nx p.2)
theorem U9{t:VB}: ∀{n:Nat} {δ:Ev} {o:Ou},bG t g n δ=some o->bG t g (n+1) δ=some o
 |0,_,_,h=>by cases h
 | n + 1,δ,o,h => by
  dsimp only[bG] at h;show((t δ).bind fun p=>if p.1=true then(g p.2).bind (again (bG t g (n+1))) else some (.nx p.2))=some o;cases h1:t δ with
  |none=>rw[h1] at h;cases h
  |some p=>
   rw[h1] at h;obtain⟨kk,δ1⟩:=p;cases kk with
   |false=>exact h
   |true=>
    have h:(g δ1).bind (again (bG t g n))=some o:=h;show(g δ1).bind (again (bG t g (n+1)))=some o;cases h2:g δ1 with
    |none=>rw[h2] at h;cases h
    |some z=>
     rw[h2] at h;cases z with
     |nx δ2=>exact U9 (n:=n) h
     |ct δ2=>exact U9 (n:=n) h
     |bk δ2=>exact h
     |rt d δ2=>exact h
theorem TY{t:VB}{n:Nat}{o:Ou}(h:bG t g n δ=some o): ∀k,bG t g (n+k) δ=some o
 |0=>h
 |k+1=>U9 (TY h k)
theorem HR{t:VB}{n m:Nat}{o o':Ou}(h:bG t g n δ=some o)(h':bG t g m δ=some o'):o=o':=by
 have e1:=TY h m;have e2:=TY h' n;rw[Nat.add_comm] at e2;rw[e1] at e2;exact Ck e2
open Classical in
noncomputable def TR(t:VB)(g:VS):VS:=fun δ=>if h: ∃o n,bG t g n δ=some o then some (Classical.choose h) else none
theorem MP{t:VB}{n:Nat}{o:Ou}(h:bG t g n δ=some o):TR t g δ=some o:=by
 have hx: ∃o n,bG t g n δ=some o:=⟨o,n,h⟩;unfold TR;rw[dif_pos hx];obtain⟨m,hm⟩:=Mk hx;rw[HR hm h]
theorem HG{t:VB}{o:Ou}(h:TR t g δ=some o): ∃n,bG t g n δ=some o:=by
 unfold TR at h;split at h
 ·rename_i hx
  cases h;exact Mk hx
 ·cases h
theorem J7{body:List Stmt}{t:VB}(hp:Qe (model X.prog X.w) X.A X.env X.xe)(hc:PT X c (TB K ml pc t))(hb:PR X body (TZ K ml g)):PS X (.While c body [] pos) (TZ K ml (TR t g)):=(AM hp hc hb).imp fun D σ H hq0=>by
 obtain⟨B,O,δ,o,S,q,k⟩:=hq0;obtain⟨n,hn⟩:=HG q;refine⟨fun m σ H=> ∃O δ,bA K ml B O H σ δ/\bG t g m δ=some o,⟨n,O,δ,S,hn⟩,?_⟩;rintro m σ H ⟨O,δ,S,hm⟩;cases m with
 |zero=>cases hm
 |succ m=>
  dsimp only[bG] at hm;obtain⟨⟨kk,δ1⟩,h1,hm⟩:=Aa.mp hm;refine⟨B,O,δ,kk,δ1,S,h1,fun H1 R1=> ?_⟩;cases kk with
  |false=>
   have hm:some (Ou.nx δ1)=some o:=hm;cases hm;exact NC (k σ H1 O R1.sta)
  |true=>
   have hm:(g δ1).bind (again (bG t g m))=some o:=hm;obtain⟨z,h2,hm⟩:=Aa.mp hm;refine ND ⟨fun σ' H'=> ∃O δ,bA K ml B O H' σ' δ/\bG t g m δ=some o,fun σ' H' w=>⟨m,Nat.lt_succ_self _,w⟩,B,O,δ1,z,R1.sta,h2,?_⟩;cases z with
   |nx δ2=>exact fun σ' H' O' S'=>⟨O',δ2,S',hm⟩
   |ct δ2=>exact fun σ' H' O' S'=>⟨O',δ2,S',hm⟩
   |bk δ2=>cases hm;exact fun σ' H' O' S'=>k σ' H' O' S'
   |rt d δ2=>cases hm;exact fun v σ' H' O' S' r=>k v σ' H' O' S' r
def C0(K:Ar)(J:It)(kps:List (V×dF))(ds:List dF):Prop:= ∀(N:Addr->Prop) (H:Hp),(∀p∈kps,bR K N H N p.1 p.2)→
 (∀(i:Nat) (d:dF),ds[i]? =some d->J.go i H/\ ∀x H',J.yld i H x H'->bI H H'/\bR K N H' N x d)/\J.stop ds.length H
abbrev VI:=Ev->Option (List dF×Ev)
def CI(K:Ar)(ml:List Nat)(pu:Bool)(f:VI):TI:=fun σ H R=> ∃B O δ ds δ',bA K ml B O H σ δ/\f δ=some (ds,δ')∧
 ∀J kps H',bA K ml {B with kp:=kps++B.kp} O H' σ δ'->Fr (OA O) H H'->(pu=true->bI H H')->C0 K J kps ds->R J H'
theorem PI.imp{tg:Expr}{t u:TI}(h:PI X tg e t)(k: ∀σ H R,u σ H R->t σ H R):PI X tg e u:=fun aa s σ H R I w=>h aa s σ H R I (k σ H R w)
theorem PI.or{tg:Expr}{t u:TI}(h:PI X tg e t)(h':PI X tg e u):PI X tg e (fun σ H R=>t σ H R∨u σ H R):=fun aa s σ H R I z=>by
 rcases z with z|z
 ·exact h aa s σ H R I z
 ·exact h' aa s σ H R I z
noncomputable def XA(f:VF):VI:=fun δ=>(f δ).bind fun p=>(X1 p.1).map fun ds=>(ds,p.2)
theorem B7{a:Addr}{ds:List dF}:C0 K (Itl K a) [(.ref a,.lst ds)] ds:=by
 intro N H h;have r:=h _ (Bb.mpr rfl);have fin: ∀xs,X5 K H a xs->cO K N H xs ds->(∀(i:Nat) (d:dF),ds[i]? =some d->(Itl K a).go i H/\ ∀x H',(Itl K a).yld i H x H'->bI H H'/\bR K N H' N x d)/\(Itl K a).stop ds.length H:=fun xs sq r=>by
  refine⟨fun i d e=> ?_,xs,sq,by rw[r.length];exact Ah _⟩;obtain⟨x,e1,r1⟩:=r.get e;refine⟨⟨xs,x,sq,e1⟩,fun y H' hy=> ?_⟩;obtain⟨e2,e3⟩:=hy;subst e2;have:=e3 xs sq;rw[e1] at this;cases this;exact⟨bI.refl _,r1⟩
 cases r with
 |lst q n r=>exact fin _ (X5.of q) r
 |fzl q r=>exact fin _ q.sq r
theorem B9{a:Addr}{ds:List dF}:C0 K (Itt K a) [(.ref a,.tup ds)] ds:=by
 intro N H h;have r:=h _ (Bb.mpr rfl);cases r with
 |tup sq r=>
  refine⟨fun i d e=> ?_,_,sq,by rw[r.length];exact Ah _⟩;obtain⟨x,e1,r1⟩:=r.get e;refine⟨⟨_,x,sq,e1⟩,fun y H' hy=> ?_⟩;obtain⟨e2,e3⟩:=hy;subst e2;have:=e3 _ sq;rw[e1] at this;cases this;exact⟨bI.refl _,r1⟩
theorem W0{tg:Expr}(hK:X.K=K)(h:PE X e (TV K ml pu true true f)):PI X tg e (CI K ml pu (XA f)):=((zAP (K:=K) hK h).or (zDV (K:=K) hK h)).imp fun σ H R hq0=>by
 obtain⟨B,O,δ,ds,δ',S,q,k⟩:=hq0;unfold XA at q;obtain⟨⟨x,δ1⟩,h1,q⟩:=Aa.mp q;cases x with
 |lst ds'=>
  cases q;refine .inl ⟨B,O,δ,_,δ1,S,h1,fun v H1 R1=> ?_⟩;obtain⟨a,xs,rfl,sq,r⟩:=R1.rep.seq rfl;refine⟨a,rfl,?_,k _ [(.ref a,.lst ds)] H1 (R1.sta.keepV fun p hp=>by rw[Bb.mp hp];exact R1.rep) R1.frm R1.pur B7⟩;have r:=R1.rep;cases r with
  |lst q _ _=>exact⟨_,X5.of q⟩
  |fzl q _=>exact⟨_,q.sq⟩
 |tup ds'=>
  cases q;refine .inr ⟨B,O,δ,_,δ1,S,h1,fun v H1 R1=> ?_⟩;obtain⟨a,xs,rfl,sq,r⟩:=R1.rep.seq rfl;refine⟨a,rfl,?_,k _ [(.ref a,.tup ds)] H1 (R1.sta.keepV fun p hp=>by rw[Bb.mp hp];exact R1.rep) R1.frm R1.pur B9⟩;have r:=R1.rep;cases r with
  |tup q _=>exact⟨_,q⟩
 |_=>cases q
noncomputable def Z8(lo:Int)(n:Nat):List dF:=(Az n).map fun k:Nat=> .int (lo+k)
noncomputable def iR1(f:VF):VI:=fun δ=>(f δ).bind fun p=>match p.1 with
 | .int j=>if -4611686018427387904<=j/\j<4611686018427387904 then some (Z8 0 j.toNat,p.2) else none
 |_=>none
noncomputable def iR2(f g:VF):VI:=fun δ=>(f δ).bind fun p=>(g p.2).bind fun q=>match p.1,q.1 with
 | .int i,.int j=>if(-4611686018427387904<=i/\i<4611686018427387904)/\ -4611686018427387904<=j/\j<4611686018427387904 then some (Z8 i (j - i).toNat,q.2) else none
 |_,_=>none
theorem A5{lo:Int}{n i:Nat}{d:dF}(h:(Z8 lo n)[i]? =some d):i<n/\d= .int (lo+i):=by
 unfold Z8 at h;rw[Co] at h;obtain⟨k,h1,h⟩:=Ao.mp h;cases h;have:=Ag.mp h1;obtain⟨hl,e⟩:=this;rw[He] at hl;rw[Nw] at e;subst e;exact⟨hl,rfl⟩
theorem J8{lo:Int}{n:Nat}:C0 K (Itr lo n) [] (Z8 lo n):=by
 intro N H _;refine⟨fun i d e=> ?_,by simp[Itr,Z8]⟩;obtain⟨hl,rfl⟩:=A5 e;refine⟨hl,fun x H' hy=> ?_⟩;obtain⟨rfl,rfl⟩:=hy;exact⟨bI.refl _,.int _⟩
theorem YK{tg:Expr}{p':Pos}(hg:Gl X "range") (hm:X.mg "range"=none) (h:PE X a (TV K ml pa ta ia fa)) (hs:Aj [a] X.env=[(false,eval a X.env)]:=by rfl) (hs1:Aj (a::[]) X.env=(false,eval a X.env)::Aj [] X.env:=by rfl):
  PI X tg (.Call (.Name "range" p') [a] [] pos) (CI K ml pa (iR1 fa)):=(DU hg hm (cE h aH hs1) hs).imp fun σ H R hq0=>by
 obtain⟨B,O,δ,ds,δ',S,q,k⟩:=hq0;unfold iR1 at q;obtain⟨⟨x,δ1⟩,h1,q⟩:=Aa.mp q;cases x with
 |int j=>
  have q:(if -4611686018427387904<=j/\j<4611686018427387904 then some (Z8 0 j.toNat,δ1) else none)=some (ds,δ'):=q;split at q
  ·rename_i hj
   cases q;have p62:(2:Int) ^ 62=4611686018427387904:=by decide
   refine⟨B,O,δ,_,_,S,h1,fun v H1 R1=>⟨j,?_,by rw[p62];exact hj.1,by rw[p62];exact hj.2,k _ [] H1 (R1.sta.keepV fun _ z=>nomatch z) R1.frm R1.pur J8⟩⟩;have r:=R1.rep;cases r;rfl
  ·cases q
 |_=>cases q
theorem EH{tg:Expr}{p':Pos}(hg:Gl X "range") (hm:X.mg "range"=none) (h:PE X a (TV K ml pa ta ia fa)) (h':PE X b (TV K ml pb tb ib fb)) (hs:Aj [a,b] X.env=[(false,eval a X.env),(false,eval b X.env)]:=by rfl) (hs2:Aj [b] X.env=[(false,eval b X.env)]:=by rfl)
  (he:Aj (a::[b]) X.env=(false,eval a X.env)::Aj [b] X.env:=by rfl) (he2:Aj (b::[]) X.env=(false,eval b X.env)::Aj [] X.env:=by rfl):
  PI X tg (.Call (.Name "range" p') [a,b] [] pos) (CI K ml (pa && pb) (iR2 fa fb)):=(DV hg hm (cE h (cE h' aH he2) he) hs hs2).imp fun σ H R hq0=>by
 obtain⟨B,O,δ,ds,δ',S,q,k⟩:=hq0;unfold iR2 at q;obtain⟨⟨x,δ1⟩,h1,q⟩:=Aa.mp q;cases h2:fb δ1 with
 |none=>simp[h2] at q
 |some p2=>
  obtain⟨y,δ2⟩:=p2;simp only[Av,h2] at q;cases x with
  |int i=>
   cases y with
   |int j=>
    have q:(if(-4611686018427387904<=i/\i<4611686018427387904)/\ -4611686018427387904<=j/\j<4611686018427387904 then some (Z8 i (j - i).toNat,δ2) else none)=some (ds,δ'):=q;split at q
    ·rename_i hj
     cases q;have p62:(2:Int) ^ 62=4611686018427387904:=by decide
     refine⟨B,O,δ,_,_,S,h1,fun v H1 R1=>⟨B,O,δ1,_,_,R1.sta,h2,fun v2 H2 R2=>⟨i,j,?_,by rw[p62];exact⟨hj.1.1,hj.1.2,hj.2.1,hj.2.2⟩,k _ [] H2 (R2.sta.keepV fun _ z=>nomatch z) (R1.frm.trans R2.frm) (fun z=>by
      obtain⟨z1,z2⟩:=(Ae _ _).mp z;exact(R1.pur z1).trans (R2.pur z2)) J8⟩⟩⟩
     have r1:=R1.rep;have r2:=R2.rep;cases r1;cases r2;rfl
    ·cases q
   |_=>cases q
  |_=>cases q
noncomputable def XZ(gg:VG)(s:VS):List dF->VS
 |[]=>fun δ=>some (.nx δ)
 |d::r=>fun δ=>(gg d δ).bind fun δ1=>(s δ1).bind (again (XZ gg s r))
noncomputable def P4(fi:VI)(gg:VG)(s:VS):VS:=fun δ=>(fi δ).bind fun p=>XZ gg s p.1 p.2
theorem V9{tg iter:Expr}{body:List Stmt}{fi:VI}{gg:VG}(hp:Qe (model X.prog X.w) X.A X.env X.xe)(hc:X.calm=true)(hi:PI X tg iter (CI K ml pu fi))(hg:PG X tg (TGV K ml gg))(hb:PR X body (TZ K ml g))
  (hs: ∀x,foldedSetIterable iter X.env x=pure x:=by intro _;rfl):PS X (.For tg iter body [] pos) (TZ K ml (P4 fi gg g)):=(zFB hp hc hi hg hb hs).imp fun D σ H hq0=>by
 obtain⟨B,O,δ,o,S,q,k⟩:=hq0;unfold P4 at q;obtain⟨⟨ds,δ1⟩,h1,q⟩:=Aa.mp q;have q:XZ gg g ds δ1=some o:=q;refine⟨B,O,δ,ds,δ1,S,h1,fun J kps H1 S1 _ _ wk=> ?_⟩;refine⟨fun i m σ H=>m=ds.length - i/\i<=ds.length/\ ∃O δ,bA K ml {B with kp:=kps++B.kp} O H σ δ/\XZ gg g (ds.drop i) δ=some o,⟨ds.length,rfl,Di _,O,δ1,S1,q⟩,?_⟩;rintro i m σ H ⟨rfl,hi,O,δ,S,hf⟩;have w:=wk (Nn B O) H fun p hp=>S.kep p (Cg _ hp);by_cases hlt:i<ds.length
 ·obtain ⟨go,yl⟩ := w.1 i ds[i] (by simp [hlt])
  rw[De hlt] at hf;refine .inr ⟨go,fun σ' H'=> ∃O δ,bA K ml {B with kp:=kps++B.kp} O H' σ' δ/\XZ gg g (ds.drop (i+1)) δ=some o,fun σ' H' w'=>⟨ds.length - (i+1),by lia,rfl,hlt,w'⟩,fun x H' hy=> ?_⟩;obtain⟨sm,rx⟩:=yl x H' hy;have hf:((gg ds[i] δ).bind fun δ1=>(g δ1).bind (again (XZ gg g (ds.drop (i+1)))))=some o:=hf;obtain⟨δ2,h2,hf⟩:=Aa.mp hf;have hf:(g δ2).bind (again (XZ gg g (ds.drop (i+1))))=some o:=hf;refine⟨_,O,δ,ds[i],δ2,S.same sm,rx,h2,fun σ2 O2 S2 _=> ?_⟩;obtain⟨z,h3,hf⟩:=Aa.mp hf;refine⟨_,O2,δ2,z,S2,h3,?_⟩;cases z with
  |nx δ3=>exact fun σ' H' O' S'=>⟨O',δ3,S',hf⟩
  |ct δ3=>exact fun σ' H' O' S'=>⟨O',δ3,S',hf⟩
  |bk δ3=>cases hf;exact fun σ' H' O' S'=>k σ' H' O' S'.unkeep
  |rt d δ3=>cases hf;exact fun v σ' H' O' S' r=>k v σ' H' O' S'.unkeep r
 ·have e : i = ds.length := by lia
  subst e;rw[Dw] at hf;cases hf;exact .inl ⟨w.2,k σ H O S.unkeep⟩
end
section
variable{X:Cx}{K:Ar}{ml:List Nat}{e a b c:Expr}{es:List Expr}{pa ta ia pb tb ib pc tc ic pu bt bi ps bs:Bool}{fa fb fc f:VF}{B B':Bs}{O:Nat->Option Addr}{H H1 H':Hp}{σ:St}{δ δ':Ev}{v:V}{d:dF}{p:Addr}{pos:Pos}{st:Stmt}{rest:List Stmt}{g g':VS}
theorem bA.call{P:Addr->Prop}(S:bA K ml B O H σ δ)(hl:δ'.length=δ.length)(h: ∀i:Nat,(δ'[i]? =δ[i]? /\ ∀a,O i=some a-> ¬P a)∨ ∃a d',O i=some a/\δ'[i]? =some (Sl.ow d')/\PQ K (Nn B O) H' a d')
  (f:Fr P H H') (hP: ∀a,P a->OA O a):bA K ml B O H' σ δ' where
 len:=by rw[hl,S.len]
 va:=fun i d e=>by
  rcases h i with⟨e1,_⟩|⟨a,d',_,e1,_⟩
  ·rw[e1] at e
   obtain⟨v,e2,r⟩:=S.va i d e;exact⟨v,e2,r.fr f (fun a z=> .inr (hP a z)) fun a z=> .inr (hP a z)⟩
  ·rw[e1] at e
   cases e
 ow:=fun i d e=>by
  rcases h i with⟨e1,n⟩|⟨a,d',e2,e1,w⟩
  ·rw[e1] at e
   obtain⟨a,e2,e3,w⟩:=S.ow i d e;exact⟨a,e2,e3,w.fr f (fun a z=> .inr (hP a z)) (n a e2)⟩
  ·rw[e1] at e
   cases e;obtain⟨d0,q0⟩:=S.dom i a e2;obtain⟨a',e3,e4,_⟩:=S.ow i d0 q0;rw[e2] at e3;cases e3;exact⟨a,e2,e4,w⟩
 dom:=fun i a e=>by
  rcases h i with⟨e1,n⟩|⟨a,d',e2,e1,w⟩
  ·obtain⟨d0,q0⟩:=S.dom i a e
   exact⟨d0,e1.trans q0⟩
  ·exact⟨d',e1⟩
 inj:=S.inj
 old:=S.old
 zin:=fun a h'=>by
  obtain⟨o,q⟩:=S.zin a h';exact⟨o,f a o q fun z=>by
   obtain⟨i,e⟩:=hP a z;exact absurd h' (S.old i a e).1⟩
 frm:=fun b o q n=>by
  have h1:=S.frm b o q n;refine f b o h1 fun z=> ?_;obtain⟨i,e⟩:=hP b z;rcases(S.old i b e).2 with w|w
  ·exact n w
  ·rw[q] at w;cases w
 par:=S.par
 pin:=fun a h'=>by
  obtain⟨o,q⟩:=S.pin a h';by_cases z:P a
  ·obtain⟨i,e⟩:=hP a z
   rcases h i with⟨_,n⟩|⟨a',d',e2,e1,w⟩
   ·exact absurd z (n a e)
   ·rw[e] at e2
    cases e2;obtain⟨o,q,_⟩:=w.soft;exact⟨o,q⟩
  ·exact⟨o,f a o q fun y=>absurd y z⟩
 kep:=fun p hp=>(S.kep p hp).fr f (fun a z=> .inr (hP a z)) fun a z=> .inr (hP a z)
abbrev a0:=List dF->Option (dF×List dF)
def M4(ml:List Nat)(vs:List V):Addr->Prop:=fun a=> ∃i∈ml,vs[i]? =some (.ref a)
def Zp(Z:Addr->Prop)(ml:List Nat)(vs:List V):Addr->Prop:=fun a=>Z a∨M4 ml vs a
structure zE4(K:Ar)(ml:List Nat)(Z:Addr->Prop)(H:Hp)(vs:List V)(ds:List dF):Prop where
 len:vs.length=ds.length
 mem: ∀i∈ml,i<ds.length
 va: ∀(i:Nat) (d:dF),i∉ml->ds[i]? =some d-> ∃v,vs[i]? =some v/\bR K (Zp Z ml vs) H (Zp Z ml vs) v d
 ow: ∀(i:Nat) (d:dF),i∈ml->ds[i]? =some d-> ∃a,vs[i]? =some (.ref a)/\PQ K (Zp Z ml vs) H a d/\¬Z a
 inj: ∀(i j:Nat) (a:Addr),i∈ml->j∈ml->vs[i]? =some (.ref a)->vs[j]? =some (.ref a)->i=j
 zin: ∀a,Z a-> ∃o,H a=some o
def spV(K:Ar)(ml:List Nat)(n:Nat)(F:a0):Sp:=fun vs H Q _=> ∃(Z:Addr->Prop) (ds:List dF) (r:dF) (os:List dF),ds.length=n/\zE4 K ml Z H vs ds/\F ds=some (r,os)∧
 ∀v H',Fr (M4 ml vs) H H'->(∀(k i:Nat) (a:Addr) (o:dF),ml[k]? =some i->vs[i]? =some (.ref a)->os[k]? =some o->PQ K (Zp Z ml vs) H' a o)->bR K (Zp Z ml vs) H' (Zp Z ml vs) v r->Q v H'
noncomputable def bS(ml:List Nat)(n:Nat)(ds:List dF):Ev:=ds.mapIdx (fun i d=>if i∈ml then Sl.ow d else Sl.va d)++Bd (n - ds.length) Sl.no
noncomputable def U4(ml:List Nat)(δ:Ev):Option (List dF):=ml.mapM fun(i:Nat)=>match(δ[i]? :Option Sl) with
 |some (Sl.ow d)=>some d
 |_=>none
noncomputable def Z0(n:Nat)(ml:List Nat)(g:VS):a0:=fun ds=>(g (bS ml n ds)).bind fun o=>match o with
 | .rt d δ=>(U4 ml δ).map fun os=>(d,os)
 | .nx δ=>(U4 ml δ).map fun os=>(.non,os)
 |_=>none
theorem JI: ∀{ml:List Nat} {δ:Ev} {os:List dF},U4 ml δ=some os-> ∀(k i:Nat) (o:dF),ml[k]? =some i->os[k]? =some o->δ[i]? =some (.ow o)
 |[],_,_,h,k,i,o,e1,e2=>by simp at e1
 | j :: ml,δ,os,h,k,i,o,e1,e2 => by
  unfold U4 at h;rw[Qu] at h;split at h
  ·rename_i d hd
   cases h2:(ml.mapM fun(i:Nat)=>match(δ[i]? :Option Sl) with
    |some (Sl.ow d)=>some d
    |_=>none:Option (List dF)) with
   |none=>rw[h2] at h;cases h
   |some os2=>
    rw[h2] at h;cases h;cases k with
    |zero=>
     cases e1;cases e2;exact hd
    |succ k=>exact JI (ml:=ml) h2 k i o (by simpa using e1) (by simpa using e2)
  ·cases h
theorem D8{N:List Str}{Z:Addr->Prop}{vs:List V}{ds:List dF}(A:zE4 K ml Z H vs ds)(hn:ds.length<=N.length):
  ∃mu:Nat->Option Addr,(∀i a,mu i=some a↔i∈ml/\vs[i]? =some (.ref a))/\bA K ml ⟨Z,M4 ml vs,H,mu,[]⟩ mu H (start N vs) (bS ml N.length ds):=by
 classical
 let mu:Nat->Option Addr:=fun i=>if i∈ml then(match vs[i]? with
  |some (.ref a)=>some a
  |_=>none) else none
 have hmu: ∀i a,mu i=some a↔i∈ml/\vs[i]? =some (.ref a):=fun i a=>by
  show(if i∈ml then(match vs[i]? with
   |some (.ref a)=>some a
   |_=>none) else none)=some a↔_
  by_cases hi:i∈ml
  ·rw[if_pos hi]
   constructor
   ·intro h
    split at h
    ·rename_i b hb
     cases h;exact⟨hi,hb⟩
    ·cases h
   ·rintro ⟨_,h⟩
    rw[h]
  ·rw[if_neg hi]
   exact⟨(fun h=>nomatch h),fun h=>absurd h.1 hi⟩
 have hN: ∀a,Nn ⟨Z,M4 ml vs,H,mu,[]⟩ mu a->Zp Z ml vs a:=fun a h=>by
  rcases h with h|⟨i,h⟩
  ·exact .inl h
  ·exact .inr ⟨i,(hmu i a).mp h⟩
 have l6: ∀(i:Nat) (s:Sl),(bS ml N.length ds)[i]? =some s->(∃d,ds[i]? =some d/\s=if i∈ml then .ow d else .va d)∨s= .no:=fun i s h=>by
  unfold bS at h;by_cases hi:i<ds.length
  ·rw [Am (by simpa using hi),Mt] at h
   cases q:ds[i]? with
   |none=>rw[q] at h;cases h
   |some d=>rw[q] at h;cases h;exact .inl ⟨d,rfl,rfl⟩
  ·rw [Bw (by simpa using hi),Cy] at h
   split at h
   ·cases h;exact .inr rfl
   ·cases h
 have hst: ∀(i:Nat) (v:V),vs[i]? =some v->(start N vs)[i]? =some (some v):=fun i v h=>by
  unfold start;have hi:i<vs.length:=(Ag.mp h).1;rw[Am (by simpa using hi),Co,h];rfl
 refine⟨mu,hmu,?_,fun i d q=> ?_,fun i d q=> ?_,fun i a q=> ?_,fun i j a q1 q2=> ?_,fun i a q=> ?_,A.zin,Fr.refl _ _,⟨fun i a q=>((hmu i a).mp q).1,fun i _=>rfl⟩,fun a q=> ?_,fun p hp=>nomatch hp⟩
 ·unfold start bS
  have:=A.len;simp;lia
 ·rcases l6 i _ q with⟨e,h1,h2⟩|h
  ·by_cases hi:i∈ml
   ·rw[if_pos hi] at h2;cases h2
   ·rw[if_neg hi] at h2
    cases h2;obtain⟨v,e1,r⟩:=A.va i d hi h1;exact⟨v,hst i v e1,r.mono hN hN⟩
  ·cases h
 ·rcases l6 i _ q with⟨e,h1,h2⟩|h
  ·by_cases hi:i∈ml
   ·rw[if_pos hi] at h2
    cases h2;obtain⟨a,e1,w,_⟩:=A.ow i d hi h1;exact⟨a,(hmu i a).mpr ⟨hi,e1⟩,hst i _ e1,w.mono hN⟩
   ·rw[if_neg hi] at h2;cases h2
  ·cases h
 ·obtain⟨hi,e1⟩:=(hmu i a).mp q
  have hl:=A.mem i hi;refine⟨ds[i],?_⟩;unfold bS;rw[Am (by simpa using hl),Mt];simp[hl,hi]
 ·exact A.inj i j a ((hmu i a).mp q1).1 ((hmu j a).mp q2).1 ((hmu i a).mp q1).2 ((hmu j a).mp q2).2
 ·obtain⟨hi,e1⟩:=(hmu i a).mp q
  refine⟨fun z=> ?_,.inl ⟨i,hi,e1⟩⟩;obtain⟨a',e2,_,n⟩:=A.ow i (ds[i]'(A.mem i hi)) hi (by simp[A.mem i hi]);rw[e1] at e2;cases e2;exact n z
 ·obtain⟨i,hi,e1⟩:=q
  obtain⟨a',e2,w,n⟩:=A.ow i (ds[i]'(A.mem i hi)) hi (by simp[A.mem i hi]);rw[e1] at e2;cases e2;obtain⟨o,q,_⟩:=w.soft;exact⟨o,q⟩
theorem zJU{N ps:List Str}{vs:List V}{Q:VK}{E:XK}(hps:ps.length<=N.length)(h:spV K ml ps.length (Z0 N.length ml g) vs H Q E):TZ K ml g {nx:=fun _ H'=>Q .non H',rt:=Q} (start N vs) H:=by
 obtain⟨Z,ds,r,os,hn,AV,hF,k⟩:=h;obtain⟨mu,hmu,S0⟩:=D8 (N:=N) AV (by rw[hn];exact hps);unfold Z0 at hF;obtain⟨o,h1,hF⟩:=Aa.mp hF;refine⟨_,mu,_,o,S0,h1,?_⟩;have fin: ∀(δ':Ev) (v:V) (σ':St) (H':Hp) (O':Nat->Option Addr),U4 ml δ'=some os->bA K ml ⟨Z,M4 ml vs,H,mu,[]⟩ O' H' σ' δ'->bR K (rz ⟨Z,M4 ml vs,H,mu,[]⟩) H' (rz ⟨Z,M4 ml vs,H,mu,[]⟩) v r->Q v H':=fun δ' v σ' H' O' ho S' hr'=>by
  have hz: ∀a,Zp Z ml vs a->rz ⟨Z,M4 ml vs,H,mu,[]⟩ a:=fun a h=>by
   rcases h with h|⟨i,hi,e⟩
   ·exact .inl h
   ·exact .inr ⟨i,(hmu i a).mpr ⟨hi,e⟩⟩
  refine k v H' S'.frm (fun kk i a o e1 e2 e3=> ?_) (hr'.mono hz hz);have hd:=JI ho kk i o e1 e3;obtain⟨a',e4,_,w⟩:=S'.ow i o hd;have hi:i∈ml:=Eh e1;have:=(S'.par.2 i hi).trans ((hmu i a).mpr ⟨hi,e2⟩);rw[this] at e4;cases e4;refine w.mono fun b hb=> ?_;rcases hb with hb|⟨j,hj,e5⟩
  ·exact .inl hb
  ·exact .inr ⟨j,(S'.par.2 j hj).trans ((hmu j b).mpr ⟨hj,e5⟩)⟩
 cases o with
 |rt d δ'=>
  have hF:(U4 ml δ').map (fun os=>(d,os))=some (r,os):=hF;cases h2:U4 ml δ' with
  |none=>rw[h2] at hF;cases hF
  |some os'=>
   rw[h2] at hF;cases hF;exact fun v σ' H' O' S' hr'=>fin δ' v σ' H' O' h2 S' hr'
 |nx δ'=>
  have hF:(U4 ml δ').map (fun os=>(dF.non,os))=some (r,os):=hF;cases h2:U4 ml δ' with
  |none=>rw[h2] at hF;cases hF
  |some os'=>
   rw[h2] at hF;cases hF;exact fun σ' H' O' S'=>fin δ' .non σ' H' O' h2 S' .non
 |bk δ'=>cases hF
 |ct δ'=>cases hF
theorem WE.okV{P:Bq}{w:World}{mg:Str->Option Value}{base:Heap}{x qual:Str}{st:Stmt}{f:Addr}{fd:Gp}{N ps:List Str}{k:Nat}(F:WE K x qual st f fd)(S:cJ N ps (cY st))(hps:ps.length<=N.length)
  (ca: ∀(cdv:Value) (A:Cz) (outer:List Env) (s:Af) (H:Hp) (E:XK),XO k (A.deeper (Lp qual (cY st) s.heap.objs.size f cdv))→
   PR (IE CX0 P w K mg base N qual (cY st) f cdv A outer s H E).nox (ZL st) (TZ K ml g)):aG P w K mg base CX0 (k+1) f fd ps (spV K ml ps.length (Z0 N.length ml g)):=by
 refine F.ok S (fun vs H Q E h=> ?_) (fun cdv A outer s H vs Q E hr h=>⟨_,ca cdv A outer s H E hr,zJU hps h⟩);obtain⟨Z,ds,r,os,hn,AV,_⟩:=h;rw[AV.len,hn]
inductive AV where
 |d (d:dF)|o (j:Nat)
inductive VD(K:Ar)(N:Addr->Prop)(H:Hp)(σ:St):List V->List AV->Prop
 |nil:VD K N H σ [] []
 |d {v:V} {vs:List V} {d:dF} {as:List AV}:bR K N H N v d->VD K N H σ vs as->VD K N H σ (v::vs) (.d d::as)
 |o {v:V} {vs:List V} {j:Nat} {as:List AV}:σ[j]? =some (some v)->VD K N H σ vs as->VD K N H σ (v::vs) (.o j::as)
abbrev GK:=Ev->Option (List AV×Ev)
structure ResG(K:Ar)(ml:List Nat)(B:Bs)(O:Nat->Option Addr)(H:Hp)(σ:St)(pu:Bool)(H':Hp)(δ':Ev)(vs:List V)(as:List AV):Prop where
 sta:bA K ml B O H' σ δ'
 frm:Fr (OA O) H H'
 pur:pu=true->bI H H'
 rep:VD K (Nn B O) H' σ vs as
def TAG(K:Ar)(ml:List Nat)(pu:Bool)(f:GK):TA:=fun σ H Q=> ∃B O δ as δ',bA K ml B O H σ δ/\f δ=some (as,δ')/\ ∀vs H',ResG K ml B O H σ pu H' δ' vs as->Q vs H'
noncomputable def cC:GK:=fun δ=>some ([],δ)
noncomputable def aE(f:VF)(fs:GK):GK:=fun δ=>(f δ).bind fun p=>(fs p.2).map fun q=>(.d p.1::q.1,q.2)
noncomputable def slot(δ:Ev)(j:Nat):Option dF:=match δ[j]? with
 |some (.va d)=>some d
 |some (.ow d)=>some d
 |_=>none
noncomputable def aO(j:Nat)(fs:GK):GK:=fun δ=>(slot δ j).bind fun _=>(fs δ).map fun q=>(.o j::q.1,q.2)
theorem cZ:PA X [] (TAG K ml true cC):=aH.imp fun σ H Q hq0=>by
 obtain⟨B,O,δ,d,δ',S,q,k⟩:=hq0;cases q;exact k [] H ⟨S,Fr.refl _ _,fun _=>bI.refl _,.nil⟩
theorem c6{fs:GK}(ha:PE X a (TV K ml pa true true fa))(hr:PA X es (TAG K ml ps fs))(hs:Aj (a::es) X.env=(false,eval a X.env)::Aj es X.env:=by rfl):PA X (a::es) (TAG K ml (pa && ps) (aE fa fs)):=(cE ha hr hs).imp fun σ H Q hq0=>by
 obtain⟨B,O,δ,as,δ2,S,q,k⟩:=hq0;unfold aE at q;obtain⟨⟨x,δ1⟩,h1,q⟩:=Aa.mp q;have q:((fs δ1).map fun q=>(AV.d x::q.1,q.2))=some (as,δ2):=q;obtain⟨p2,h2,q⟩:=Ao.mp q;cases q;refine⟨B,O,δ,x,δ1,S,h1,fun v1 H1 R1=>⟨B,O,δ1,_,_,R1.sta,h2,fun vs H2 R2=>k _ H2 ⟨R2.sta,R1.frm.trans R2.frm,fun z=> ?_,.d (R1.rep.fr R2.frm (fun a z=> .inr z) fun a z=> .inr z) R2.rep⟩⟩⟩;obtain⟨z1,z2⟩:=(Ae _ _).mp z;exact(R1.pur z1).trans (R2.pur z2)
theorem MQ{j:Nat}{d:dF}(h:slot δ j=some d):δ[j]? =some (.va d)∨δ[j]? =some (.ow d):=by
 unfold slot at h;split at h
 ·cases h;exact .inl (by assumption)
 ·cases h;exact .inr (by assumption)
 ·cases h
theorem bA.slot(S:bA K ml B O H σ δ){j:Nat}{d:dF}(h:slot δ j=some d): ∃v,σ[j]? =some (some v):=by
 rcases MQ h with h|h
 ·obtain⟨v,e,_⟩:=S.va j d h
  exact⟨v,e⟩
 ·obtain⟨a,_,e,_⟩:=S.ow j d h
  exact⟨_,e⟩
theorem bL{fs:GK}{j:Nat}(ha:PE X a (SJ j))(hr:PA X es (TAG K ml ps fs))(hs:Aj (a::es) X.env=(false,eval a X.env)::Aj es X.env:=by rfl):PA X (a::es) (TAG K ml ps (aO j fs)):=(cE ha hr hs).imp fun σ H Q hq0=>by
 obtain⟨B,O,δ,as,δ2,S,q,k⟩:=hq0;unfold aO at q;obtain⟨d,h1,q⟩:=Aa.mp q;have q:((fs δ).map fun q=>(AV.o j::q.1,q.2))=some (as,δ2):=q;obtain⟨p2,h2,q⟩:=Ao.mp q;cases q;obtain⟨v,e⟩:=S.slot h1;exact⟨v,e,B,O,δ,_,_,S,h2,fun vs H2 R2=>k _ H2 ⟨R2.sta,R2.frm,R2.pur,.o e R2.rep⟩⟩
theorem VD.length: ∀{N:Addr->Prop} {vs:List V} {as:List AV},VD K N H σ vs as->vs.length=as.length
 |_,_,_,.nil=>rfl
 |_,_,_,.d _ t=>congrArg (· +1) (VD.length t)
 |_,_,_,.o _ t=>congrArg (· +1) (VD.length t)
theorem VD.getD: ∀{N:Addr->Prop} {vs:List V} {as:List AV} {i:Nat} {d:dF},VD K N H σ vs as->as[i]? =some (.d d)-> ∃v,vs[i]? =some v/\bR K N H N v d
 |_,_,_,_,_,.nil,e=>by simp at e
 |_,_,_,0,_,.d h _,e=>by simp at e;subst e;exact⟨_,rfl,h⟩
 |_,_,_,0,_,.o h _,e=>by simp at e
 |_,_,_,i+1,_,.d _ t,e=>by
  obtain⟨u,h1,h2⟩:=VD.getD (i:=i) t (by simpa using e);exact⟨u,by simpa using h1,h2⟩
 |_,_,_,i+1,_,.o _ t,e=>by
  obtain⟨u,h1,h2⟩:=VD.getD (i:=i) t (by simpa using e);exact⟨u,by simpa using h1,h2⟩
theorem VD.getO: ∀{N:Addr->Prop} {vs:List V} {as:List AV} {i j:Nat},VD K N H σ vs as->as[i]? =some (.o j)-> ∃v,vs[i]? =some v/\σ[j]? =some (some v)
 |_,_,_,_,_,.nil,e=>by simp at e
 |_,_,_,0,_,.d h _,e=>by simp at e
 |_,_,_,0,_,.o h _,e=>by simp at e;subst e;exact⟨_,rfl,h⟩
 |_,_,_,i+1,_,.d _ t,e=>by
  obtain⟨u,h1,h2⟩:=VD.getO (i:=i) t (by simpa using e);exact⟨u,by simpa using h1,h2⟩
 |_,_,_,i+1,_,.o _ t,e=>by
  obtain⟨u,h1,h2⟩:=VD.getO (i:=i) t (by simpa using e);exact⟨u,by simpa using h1,h2⟩
noncomputable def argD(δ:Ev):AV->Option dF
 | .d d=>some d
 | .o j=>slot δ j
noncomputable def W3(δ:Ev):List AV->Option (List dF)
 |[]=>some []
 |a::as=>(argD δ a).bind fun d=>(W3 δ as).map fun ds=>d::ds
theorem LV: ∀{as:List AV} {ds:List dF},W3 δ as=some ds->as.length=ds.length/\ ∀(i:Nat) (d:dF),ds[i]? =some d-> ∃a,as[i]? =some a/\argD δ a=some d
 |[],ds,h=>by cases h;exact⟨rfl,fun i d e=>by simp at e⟩
 | a :: as,ds,h => by
  unfold W3 at h;obtain⟨d,h1,h⟩:=Aa.mp h;cases h2:W3 δ as with
  |none=>simp[h2] at h
  |some ds'=>
   simp only[Av,h2] at h;cases h;obtain⟨l,g⟩:=LV h2;refine⟨by simp[l],fun i e he=> ?_⟩;cases i with
   |zero=>cases he;exact⟨a,rfl,h1⟩
   |succ i=>
    obtain⟨b,e1,e2⟩:=g i e (by simpa using he);exact⟨b,by simpa using e1,e2⟩
noncomputable def VH:List AV->List Nat
 |[]=>[]
 | .d _::as=>VH as
 | .o j::as=>j::VH as
theorem QV: ∀{as:List AV} {i j:Nat},as[i]? =some (.o j)->j∈VH as
 |[],_,_,e=>by simp at e
 | .d _::as,0,j,e=>by simp at e
 | .o k::as,0,j,e=>by simp at e;subst e;exact Au
 | .d _::as,i+1,j,e=>QV (as:=as) (i:=i) (by simpa using e)
 | .o k::as,i+1,j,e=>Ap _ (QV (as:=as) (i:=i) (by simpa using e))
theorem E4: ∀{as:List AV} {j:Nat},j∈VH as-> ∃i:Nat,as[i]? =some (AV.o j)
 |[],_,h=>nomatch h
 | .d _::as,j,h=>by
  obtain⟨i,e⟩:=E4 (as:=as) h;exact⟨i+1,by simpa using e⟩
 | .o k :: as,j,h => by
  rcases Ai.mp h with e|e
  ·exact⟨0,by rw[e];rfl⟩
  ·obtain⟨i,e⟩:=E4 (as:=as) e
   exact⟨i+1,by simpa using e⟩
theorem K7: ∀{as:List AV} {i k j:Nat},(VH as).Nodup->as[i]? =some (.o j)->as[k]? =some (.o j)->i=k
 |[],_,_,_,_,e,_=>by simp at e
 | .d _::as,0,_,j,_,e,_=>by simp at e
 | .d _::as,_+1,0,j,_,_,e=>by simp at e
 | .d _::as,i+1,k+1,j,n,e1,e2=>congrArg (· +1) (K7 (as:=as) n (by simpa using e1) (by simpa using e2))
 | .o x::as,0,0,j,_,_,_=>rfl
 | .o x::as,0,k+1,j,n,e1,e2=>by
  simp at e1;subst e1;have h:as[k]? =some (.o x):=by simpa using e2
  exact absurd (QV h) (Cq.mp n).1
 | .o x::as,i+1,0,j,n,e1,e2=>by
  simp at e2;subst e2;have h:as[i]? =some (.o x):=by simpa using e1
  exact absurd (QV h) (Cq.mp n).1
 | .o x::as,i+1,k+1,j,n,e1,e2=>congrArg (· +1) (K7 (as:=as) (Cq.mp n).2 (by simpa using e1) (by simpa using e2))
noncomputable def FD(δ:Ev)(as:List AV)(i:Nat):Bool:=match as[i]? with
 |some (.o j)=>match δ[j]? with
  |some (.ow _)=>true
  |_=>false
 |_=>false
noncomputable def XE(mF:List Nat):List AV->Nat->Bool
 |[],_=>true
 | .d _::as,i=>XE mF as (i+1)
 | .o _::as,i=>decide (i∈mF) && XE mF as (i+1)
theorem T5{mF:List Nat}: ∀{as:List AV} {k i j:Nat},XE mF as k=true->as[i]? =some (.o j)->k+i∈mF
 |[],_,_,_,_,e=>by simp at e
 | .d _::as,k,0,j,h,e=>by simp at e
 | .o _::as,k,0,j,h,e=>by
  simp only[XE,Ae,decide_eq_true_eq] at h;exact h.1
 | .d _::as,k,i+1,j,h,e=>by
  have:=T5 (as:=as) (k:=k+1) (i:=i) (j:=j) h (by simpa using e);rwa[show k+(i+1)=k+1+i by lia]
 | .o _::as,k,i+1,j,h,e=>by
  simp only[XE,Ae] at h;have:=T5 (as:=as) (k:=k+1) (i:=i) (j:=j) h.2 (by simpa using e);rwa[show k+(i+1)=k+1+i by lia]
noncomputable def UX:dF->Bool
 | .lst ds=>UW ds
 | .dct _ ds=>UW ds
 |_=>false
theorem PQ.kids{N N':Addr->Prop}{a:Addr}(w:PQ K N H a d)(h:UX d=true):PQ K N' H a d:=by
 cases w with
 |lst q r=>exact .lst q (r.hard h)
 |dct q r=>exact .dct q (r.hard h)
noncomputable def WN(as:List AV):List Nat->List dF->Ev->Ev
 |i::is,o::os,δ=>match as[i]? with
  |some (.o j)=>WN as is os (δ.set j (.ow o))
  |_=>WN as is os δ
 |_,_,δ=>δ
theorem SA{as:List AV}: ∀{is:List Nat} {os:List dF} {δ:Ev},(WN as is os δ).length=δ.length
 |[],_,_=>rfl
 |_::_,[],_=>rfl
 |i::is,o::os,δ=>by
  unfold WN;split
  ·rw[SA,Cc]
  ·rw[SA]
theorem OI{as:List AV}: ∀{is:List Nat} {os:List dF} {δ:Ev} (j:Nat),is.length=os.length->j<δ.length→
  (∃(k i:Nat) (o:dF),is[k]? =some i/\os[k]? =some o/\as[i]? =some (AV.o j)/\(WN as is os δ)[j]? =some (Sl.ow o))∨((∀i∈is,as[i]? ≠some (AV.o j))/\(WN as is os δ)[j]? =δ[j]?)
 |[],[],δ,j,_,_=> .inr ⟨(fun i h=>nomatch h),rfl⟩
 | i :: is,o :: os,δ,j,hl,hj => by
  unfold WN;split
  ·rename_i j0 e0
   rcases OI (is:=is) (os:=os) (δ:=δ.set j0 (.ow o)) j (by simpa using hl) (by rw[Cc];exact hj) with⟨k,i',o',h1,h2,h3,h4⟩|⟨h1,h2⟩
   ·exact .inl ⟨k+1,i',o',by simpa using h1,by simpa using h2,h3,h4⟩
   ·by_cases hjj:j=j0
    ·subst hjj
     rw[Dh hj] at h2;exact .inl ⟨0,i,o,rfl,rfl,e0,h2⟩
    ·rw[By (Dr hjj)] at h2
     refine .inr ⟨fun i' hi'=> ?_,h2⟩;rcases Ai.mp hi' with z|z
     ·rw[z,e0]
      intro w;cases w;exact hjj rfl
     ·exact h1 i' z
  ·rename_i hn
   rcases OI (is:=is) (os:=os) (δ:=δ) j (by simpa using hl) hj with⟨k,i',o',h1,h2,h3,h4⟩|⟨h1,h2⟩
   ·exact .inl ⟨k+1,i',o',by simpa using h1,by simpa using h2,h3,h4⟩
   ·refine .inr ⟨fun i' hi' => ?_,h2⟩
    rcases Ai.mp hi' with z|z
    ·rw[z]
     exact fun w=>hn j w
    ·exact h1 i' z
noncomputable def VT(mF:List Nat)(as:List AV)(δ:Ev):Bool:=mF.all (FD δ as) && decide (VH as).Nodup
noncomputable def WU(mF:List Nat)(as:List AV)(r:dF)(os:List dF):Bool:=(XE mF as 0 || r.hard) && (XE mF as 0 || os.all UX) && decide (mF.length=os.length)
noncomputable def cU(n:Nat)(mF:List Nat)(F:a0)(fs:GK):VF:=fun δ=>(fs δ).bind fun p=>(W3 p.2 p.1).bind fun ds=>if ds.length=n/\VT mF p.1 p.2=true then(F ds).bind fun q=>if WU mF p.1 q.1 q.2=true then some (q.1,WN p.1 mF q.2 p.2) else none else none
theorem zBO{n:Nat}{mF:List Nat}{F:a0}{fs:GK}{Q:VK}(h:TV K ml (ps && mF.isEmpty) true true (cU n mF F fs) σ H Q):BK (spV K mF n F) [] E0 (TAG K ml ps fs) σ H Q:=by
 obtain⟨B,O,δ,d,δ2,S,q,k⟩:=h;unfold cU at q;obtain⟨⟨as,δ1⟩,h1,q⟩:=Aa.mp q;have q:((W3 δ1 as).bind fun ds=>if ds.length=n/\VT mF as δ1=true then(F ds).bind fun q=>if WU mF as q.1 q.2=true then some (q.1,WN as mF q.2 δ1) else none else none)=some (d,δ2):=q;obtain⟨ds,h2,q⟩:=Aa.mp q;have q:(if ds.length=n/\VT mF as δ1=true then(F ds).bind fun q=>if WU mF as q.1 q.2=true then some (q.1,WN as mF q.2 δ1) else none else none)=some (d,δ2):=q;split at q
 ·rename_i hc
  obtain⟨⟨r,os⟩,h3,q⟩:=Aa.mp q;have q:(if WU mF as r os=true then some (r,WN as mF os δ1) else none)=some (d,δ2):=q;split at q
  ·rename_i hb
   cases q;obtain⟨hn,hc⟩:=hc;simp only[VT,Ae,decide_eq_true_eq,Iz] at hc;simp only[WU,Ae,decide_eq_true_eq] at hb;obtain⟨hmu,hnd⟩:=hc;obtain⟨⟨ma,mq⟩,af⟩:=hb;refine⟨B,O,δ,as,δ1,S,h1,fun vs H1 R=> ?_⟩;show spV K mF n F (vs++[]) H1 Q E0;rw[Db];obtain⟨hal,hag⟩:=LV h2;have hm: ∀i∈mF,∃j a x,as[i]? =some (.o j)/\δ1[j]? =some (.ow x)/\O j=some a/\vs[i]? =some (.ref a)/\PQ K (Nn B O) H1 a x:=fun i hi=>by
    have:=hmu i hi;unfold FD at this;split at this
    ·rename_i j ej
     split at this
     ·rename_i x ex
      obtain⟨a,e1,e2,w⟩:=R.sta.ow j x ex;obtain⟨v,e3,e4⟩:=R.rep.getO ej;rw[e2] at e4;cases e4;exact⟨j,a,x,ej,ex,e1,e3,w⟩
     ·cases this
    ·cases this
   have hP: ∀a,M4 mF vs a-> ∃i j,i∈mF/\as[i]? =some (.o j)/\O j=some a:=fun a q0=>by
    obtain⟨i,hi,e⟩:=q0;obtain⟨j,a',x,e1,_,e2,e3,_⟩:=hm i hi;rw[e] at e3;cases e3;exact⟨i,j,hi,e1,e2⟩
   have hPO: ∀a,M4 mF vs a->OA O a:=fun a h=>by
    obtain⟨i,j,_,_,e⟩:=hP a h;exact⟨j,e⟩
   have hZp: ∀a,Zp (fun a=>Nn B O a/\ ∀j∈VH as,O j≠some a) mF vs a->Nn B O a:=fun a h=>by
    rcases h with h|h
    ·exact h.1
    ·exact .inr (hPO a h)
   refine⟨fun a=>Nn B O a/\ ∀j∈VH as,O j≠some a,ds,_,os,hn,⟨by rw[<- hal,R.rep.length],fun i hi=> ?_,fun i x hi e=> ?_,fun i x hi e=> ?_,fun i j a hi hj e1 e2=> ?_,fun a h=>R.sta.nin h.1⟩,h3,fun v H2 f2 w2 r2=> ?_⟩
   ·obtain⟨j,a,x,e1,_⟩:=hm i hi
    rw[<- hal];exact(Ag.mp e1).1
   ·obtain⟨a,e1,e2⟩:=hag i x e
    cases a with
    |d y=>
     cases e2;obtain⟨v,e3,r⟩:=R.rep.getD e1;exact⟨v,e3,r.mono hZp hZp⟩
    |o j=>
     obtain⟨v,e3,e4⟩:=R.rep.getO e1;refine⟨v,e3,?_⟩;rcases MQ e2 with e5|e5
     ·obtain⟨v',e6,r⟩:=R.sta.va j x e5
      rw[e4] at e6;cases e6;exact r.mono hZp hZp
     ·obtain⟨a,e7,e6,w⟩:=R.sta.ow j x e5
      rw[e4] at e6;cases e6;refine(w.mono hZp).rep fun z=> ?_;rcases z with z|z
      ·exact z.2 j (QV e1) e7
      ·obtain⟨i',j',hi',e8,e9⟩:=hP a z
       have:j=j':=R.sta.inj j j' a e7 e9;subst this;have:=K7 hnd e1 e8;subst this;exact hi hi'
   ·obtain⟨a,e1,e2⟩:=hag i x e
    obtain⟨j,b,y,e3,e4,e5,e6,w⟩:=hm i hi;rw[e3] at e1;cases e1;have e7:slot δ1 j=some y:=by unfold slot;rw[e4]
    have e2:slot δ1 j=some x:=e2;rw[e7] at e2;cases e2;exact⟨b,e6,w.mono hZp,fun z=>z.2 j (QV e3) e5⟩
   ·obtain⟨j1,b1,_,e3,_,e4,e5,_⟩:=hm i hi
    obtain⟨j2,b2,_,e6,_,e7,e8,_⟩:=hm j hj;rw[e1] at e5;cases e5;rw[e2] at e8;cases e8;have:j1=j2:=R.sta.inj j1 j2 a e4 e7;subst this;exact K7 hnd e3 e6
   ·have S2:bA K ml B O H2 σ (WN as mF os δ1):=by
     refine R.sta.call SA (fun j=> ?_) f2 hPO;by_cases hj:j<δ1.length
     ·rcases OI (as:=as) (is:=mF) (os:=os) (δ:=δ1) j af hj with⟨kk,i,o,e1,e2,e3,e4⟩|⟨e1,e2⟩
      ·obtain⟨j',a,x,e5,_,e6,e7,_⟩:=hm i (Eh e1)
       rw[e3] at e5;cases e5;have w:=w2 kk i a o e1 e7 e2;refine .inr ⟨a,o,e6,e4,?_⟩;rcases(Hv _ _).mp mq with z|z
       ·refine w.mono fun b hb => ?_
        by_cases hjs: ∃j'∈VH as,O j'=some b
        ·obtain⟨j',hj',e8⟩:=hjs
         obtain⟨i',e9⟩:=E4 hj';have hi':=T5 z e9;rw[Ew] at hi';obtain⟨j'',a'',_,e10,_,e11,e12,_⟩:=hm i' hi';rw[e9] at e10;cases e10;rw[e8] at e11;cases e11;exact .inr ⟨i',hi',e12⟩
        ·exact .inl ⟨hb,fun j' hj' e=>hjs ⟨j',hj',e⟩⟩
       ·exact w.kids (Iz.mp z o (Eh e2))
      ·refine .inl ⟨e2,fun a ea hPa => ?_⟩
       obtain⟨i,j',hi,e3,e4⟩:=hP a hPa;have:j=j':=R.sta.inj j j' a ea e4;subst this;exact e1 i hi e3
     ·refine .inl ⟨?_,fun a ea => ?_⟩
      ·rw[Bv (by rw[SA];lia),Bv (by lia)]
      ·obtain⟨x,ex⟩:=R.sta.dom j a ea
       exact absurd (Ag.mp ex).1 hj
    refine k v H2 ⟨S2,R.frm.trans (f2.mono hPO),fun z=> ?_,?_⟩
    ·obtain⟨z1,z2⟩:=(Ae _ _).mp z
     refine(R.pur z1).trans fun b o e=>f2 b o e fun w=> ?_;obtain⟨i,hi,_⟩:=w;rw[Lr.mp z2] at hi;cases hi
    ·rcases(Hv _ _).mp ma with z|z
     ·have hN : ∀ a,Nn B O a -> Zp (fun a => Nn B O a /\ ∀ j ∈ VH as,O j ≠ some a) mF vs a := fun b hb => by
       by_cases hjs: ∃j'∈VH as,O j'=some b
       ·obtain⟨j',hj',e8⟩:=hjs
        obtain⟨i',e9⟩:=E4 hj';have hi':=T5 z e9;rw[Ew] at hi';obtain⟨j'',a'',_,e10,_,e11,e12,_⟩:=hm i' hi';rw[e9] at e10;cases e10;rw[e8] at e11;cases e11;exact .inr ⟨i',hi',e12⟩
       ·exact .inl ⟨hb,fun j' hj' e=>hjs ⟨j',hj',e⟩⟩
      exact r2.mono hN hN
     ·exact r2.hard z
  ·cases q
 ·cases q
theorem zBN{x:Str}{kk j n:Nat}{qs:List Str}{mF:List Nat}{F:a0}{ff:Addr}{p':Pos}{fs:GK}(hK:X.K=K)(D:Def X.prog X.w K X.mg X.base x kk qs (spV K mF n F) ff)(hr:XO j X.A)(hk:kk<=j)(hg:Gl X x)(ha:PA X (e::es) (TAG K ml ps fs))(hdb:(x==("__debug__":Str))=false:=by decide)
  (he:Aj (e::es) X.env=(false,eval e X.env)::Aj es X.env:=by rfl) (hpl:(Gh pos (Aj es X.env)).any (·.1)=false:=by rfl):
  PE X (.Call (.Name x p') (e::es) [] pos) (TV K ml (ps && mF.isEmpty) true true (cU n mF F fs)):=by
 subst hK;exact(zA1 D hr hk hg ha hdb he hpl).imp fun _ _ _ h=>zBO h
end
section
variable{X:Cx}{K:Ar}{ml:List Nat}{e a b c:Expr}{es:List Expr}{pi pt pe pu bt bi ps bs:Bool}{f:VF}{B B':Bs}{O:Nat->Option Addr}{H H0 H1 H':Hp}{σ:St}{δ δ':Ev}{v:V}{d:dF}{p:Addr}{pos:Pos}{ix:List Nat}{nl:Nat}
noncomputable def bX(ix:List Nat)(δ:Ev):Ev:=ix.map fun i=>(δ[i]?).getD .no
noncomputable def OC(nl:Nat):Ev:=Bd nl Sl.no
noncomputable def aS(n nl:Nat)(gg:VG)(tb:VB)(fe:VF):List dF->List dF->Ev->Option (List dF×Ev)
 |[],acc,δ=>some (acc,δ)
 |d::r,acc,δ=>(gg d (δ++OC nl)).bind fun δ1=>(tb δ1).bind fun p=>if p.1=true then(fe p.2).bind fun q=>if acc.length<16777216 then aS n nl gg tb fe r (acc++[q.1]) (q.2.take n) else none else aS n nl gg tb fe r acc (p.2.take n)
noncomputable def ZX:List Nat->Ev->Ev->Ev
 |i::is,s::ss,δ=>match s with
  | .ow d=>ZX is ss (δ.set i (.ow d))
  |_=>ZX is ss δ
 |_,_,δ=>δ
noncomputable def aL(ix:List Nat)(nl:Nat)(fi:VI)(gg:VG)(tb:VB)(fe:VF):VF:=fun δ=>(fi δ).bind fun p=>(aS ix.length nl gg tb fe p.1 [] (bX ix p.2)).map fun q=>(.lst q.1,ZX ix q.2 p.2)
noncomputable def XX:VB:=fun δ=>some (true,δ)
theorem YF: ∀{ix:List Nat} {ss δ:Ev},(ZX ix ss δ).length=δ.length
 |[],_,_=>rfl
 |_::_,[],_=>rfl
 |i::is,s::ss,δ=>by
  cases s<;>simp only[ZX]<;>rw[YF]<;>try rw[Cc]
theorem XN: ∀{ix:List Nat} {ss δ:Ev} (i:Nat),i<δ.length->ix.length=ss.length→
  (∃(j:Nat) (d:dF),ix[j]? =some i/\ss[j]? =some (Sl.ow d)/\(ZX ix ss δ)[i]? =some (Sl.ow d))∨((∀(j:Nat) (d:dF),ix[j]? =some i->ss[j]? ≠some (Sl.ow d))/\(ZX ix ss δ)[i]? =δ[i]?)
 |[],ss,δ,i,hi,hl=> .inr ⟨(fun j d h=>by simp at h),rfl⟩
 |k::is,[],δ,i,hi,hl=>by cases hl
 | k :: is,s :: ss,δ,i,hi,hl => by
  have hl2:is.length=ss.length:=by simpa using hl
  cases s with
  |ow d=>
   simp only[ZX];rcases XN (ix:=is) (ss:=ss) (δ:=δ.set k (.ow d)) i (by rw[Cc];exact hi) hl2 with⟨j,d',h1,h2,h3⟩|⟨h1,h2⟩
   ·exact .inl ⟨j+1,d',by simpa using h1,by simpa using h2,h3⟩
   ·by_cases hk:i=k
    ·subst hk
     rw[Dh hi] at h2;exact .inl ⟨0,d,rfl,rfl,h2⟩
    ·rw[By (Dr hk)] at h2
     refine .inr ⟨fun j d' e=> ?_,h2⟩;cases j with
     |zero=>cases e;exact absurd rfl hk
     |succ j=>simpa using h1 j d' (by simpa using e)
  |va d=>
   simp only[ZX];rcases XN (ix:=is) (ss:=ss) (δ:=δ) i hi hl2 with⟨j,d',h1,h2,h3⟩|⟨h1,h2⟩
   ·exact .inl ⟨j+1,d',by simpa using h1,by simpa using h2,h3⟩
   ·refine .inr ⟨fun j d' e => ?_,h2⟩
    cases j with
    |zero=>simp
    |succ j=>simpa using h1 j d' (by simpa using e)
  |no=>
   simp only[ZX];rcases XN (ix:=is) (ss:=ss) (δ:=δ) i hi hl2 with⟨j,d',h1,h2,h3⟩|⟨h1,h2⟩
   ·exact .inl ⟨j+1,d',by simpa using h1,by simpa using h2,h3⟩
   ·refine .inr ⟨fun j d' e => ?_,h2⟩
    cases j with
    |zero=>simp
    |succ j=>simpa using h1 j d' (by simpa using e)
noncomputable def Oc(ix:List Nat)(O:Nat->Option Addr):Nat->Option Addr:=fun j=>(ix[j]?).bind O
noncomputable def Bc(ix:List Nat)(B:Bs)(O:Nat->Option Addr)(H0:Hp)(D:Addr)(kp:List (V×dF)):Bs:=
 ⟨fun a=>(B.Z a∨a=D)∨ ∃i,O i=some a/\i∉ix,OA (Oc ix O),H0,Oc ix O,kp⟩
theorem OB{D:Addr}{kp:List (V×dF)}: ∀a,Nn (Bc ix B O H0 D kp) (Oc ix O) a->Nn B O a∨a=D:=fun a h=>by
 rcases h with((h|h)|⟨i,h,_⟩)|⟨j,h⟩
 ·exact .inl (.inl h)
 ·exact .inr h
 ·exact .inl (.inr ⟨i,h⟩)
 ·unfold Oc at h
  cases q:ix[j]? with
  |none=>rw[q] at h;cases h
  |some i=>rw[q] at h;exact .inl (.inr ⟨i,h⟩)
theorem TK{D:Addr}{kp:List (V×dF)}: ∀a,Nn (B.add D) O a->Nn (Bc ix B O H0 D kp) (Oc ix O) a:=fun a h=>by
 rcases h with h|⟨i,h⟩
 ·exact .inl (.inl h)
 ·by_cases hi:i∈ix
  ·obtain⟨j,hj⟩:=Iy.mp hi
   exact .inr ⟨j,by unfold Oc;rw[hj];exact h⟩
  ·exact .inl (.inr ⟨i,h,hi⟩)
theorem bA.withKp{kp:List (V×dF)}(S:bA K ml B O H σ δ)(h: ∀p∈kp,bR K (Nn B O) H (Nn B O) p.1 p.2):bA K ml {B with kp:=kp} O H σ δ:=
 ⟨S.len,S.va,S.ow,S.dom,S.inj,S.old,S.zin,S.frm,S.par,S.pin,h⟩
theorem bA.writeZ{D:Addr}{o:HO}{acc:List V}(S:bA K ml B O H σ δ)(hD:B.Z D)(hl:H D=some (.lst acc))(h0:B.H0 D=none):bA K ml B O (bN H D o) σ δ:=by
 have hf:Fr (fun b=>b=D) H (bN H D o):=fun b u q n=>by
  by_cases hb:b=D
  ·subst hb
   rw[hl] at q;cases q;exact absurd (n rfl) fun z=>z
  ·rw[cH hb]
   exact q
 have hN: ∀b,b=D->Nn B O b:=fun b z=> .inl (z▸hD);have hin: ∀b,(∃u,H b=some u)-> ∃u,bN H D o b=some u:=fun b q0=>by
  obtain⟨u,q⟩:=q0;by_cases hb:b=D
  ·exact⟨o,by rw[hb];exact cS⟩
  ·exact⟨u,by rw[cH hb];exact q⟩
 refine⟨S.len,fun i d q=> ?_,fun i d q=> ?_,S.dom,S.inj,S.old,fun b h=>hin b (S.zin b h),fun b u q n=> ?_,S.par,fun b h=>hin b (S.pin b h),fun p hp=>(S.kep p hp).fr hf hN hN⟩
 ·obtain⟨v,e,r⟩:=S.va i d q
  exact⟨v,e,r.fr hf hN hN⟩
 ·obtain⟨a,e,e2,w⟩:=S.ow i d q
  exact⟨a,e,e2,w.fr hf hN fun z=>(S.old i a e).1 (z▸hD)⟩
 ·have hb : b ≠ D := fun z => by rw [z,h0] at q;cases q
  rw[cH hb];exact S.frm b u q n
theorem L3{j:Nat}{s:Sl}(h:(bX ix δ++OC nl)[j]? =some s):(∃i,ix[j]? =some i/\s=(δ[i]?).getD .no)∨s= .no:=by
 unfold bX OC at h;by_cases hj:j<ix.length
 ·rw [Am (by simpa using hj),Co] at h
  cases q:ix[j]? with
  |none=>rw[q] at h;cases h
  |some i=>rw[q] at h;cases h;exact .inl ⟨i,rfl,rfl⟩
 ·rw [Bw (by simpa using hj),Cy] at h
  split at h
  ·cases h;exact .inr rfl
  ·cases h
theorem IA{i j:Nat}{v:V}(hi:ix[j]? =some i)(h:σ[i]? =some (some v)):(aV ix σ++Bd nl none)[j]? =some (some v):=by
 have hj:j<ix.length:=(Ag.mp hi).1;unfold aV;rw[Am (by simpa using hj),Co,hi];show some ((σ[i]?).join)=_;rw[h];rfl
theorem bA.inner{D:Addr}(S:bA K ml B O H0 σ δ)(hD:H0 D=none)(hnd:ix.Nodup){kps:List (V×dF)}(hk: ∀p∈kps,bR K (Nn B O) H0 (Nn B O) p.1 p.2):
  bA K (Az ix.length) (Bc ix B O H0 D kps) (Oc ix O) (bN H0 D (.lst [])) (aV ix σ++Bd nl none) (bX ix δ++OC nl) where
 len:=by simp[aV,bX,OC]
 va := fun j d e => by
  rcases L3 e with⟨i,hi,q⟩|q
  ·have q:δ[i]? =some (.va d):=by
    cases w:δ[i]? with
    |none=>rw[w] at q;cases q
    |some s=>rw[w] at q;rw[show s= .va d from q.symm]
   obtain⟨v,e1,r⟩:=S.va i d q;exact⟨v,IA hi e1,(r.away hD _ _ OB OB).same (c8 hD)⟩
  ·cases q
 ow := fun j d e => by
  rcases L3 e with⟨i,hi,q⟩|q
  ·have q:δ[i]? =some (.ow d):=by
    cases w:δ[i]? with
    |none=>rw[w] at q;cases q
    |some s=>rw[w] at q;rw[show s= .ow d from q.symm]
   obtain⟨a,e1,e2,w⟩:=S.ow i d q;refine⟨a,by unfold Oc;rw[hi];exact e1,IA hi e2,?_⟩;cases w with
   |lst q' r=>exact .lst (c8 hD _ _ q') ((r.away hD _ _ OB).same (c8 hD))
   |dct q' r=>exact .dct (c8 hD _ _ q') ((r.away hD _ _ OB).same (c8 hD))
  ·cases q
 dom:=fun j a e=>by
  unfold Oc at e;obtain⟨i,hi,e⟩:=Aa.mp e;obtain⟨d,q⟩:=S.dom i a e;refine⟨d,?_⟩;have hj:j<ix.length:=(Ag.mp hi).1;unfold bX;rw[Am (by simpa using hj),Co,hi];show some ((δ[i]?).getD .no)=_;rw[q];rfl
 inj:=fun j k a e1 e2=>by
  unfold Oc at e1 e2;cases hi:ix[j]? with
  |none=>rw[hi] at e1;cases e1
  |some i=>
   cases hk:ix[k]? with
   |none=>rw[hk] at e2;cases e2
   |some i'=>
    rw[hi] at e1;rw[hk] at e2;have:i=i':=S.inj i i' a e1 e2;subst this;obtain⟨l1,q1⟩:=Ag.mp hi;obtain⟨l2,q2⟩:=Ag.mp hk;exact(Pj hnd).mp (q1.trans q2.symm)
 old:=fun j a e=>by
  have e':=e;unfold Oc at e';cases hi:ix[j]? with
  |none=>rw[hi] at e';cases e'
  |some i=>
   rw[hi] at e';refine⟨fun z=> ?_,.inl ⟨j,e⟩⟩;rcases z with(z|z)|⟨i',z,n⟩
   ·exact(S.old i a e').1 z
   ·obtain⟨o,q⟩:=S.nin (.inr ⟨i,e'⟩)
    rw[z,hD] at q;cases q
   ·have:i=i':=S.inj i i' a e' z
    subst this;exact n (Eh hi)
 zin:=fun a h=>by
  rcases h with(h|h)|⟨i,h,_⟩
  ·obtain⟨o,q⟩:=S.zin a h
   exact⟨o,c8 hD _ _ q⟩
  ·exact⟨_,by rw[h];exact cS⟩
  ·obtain⟨o,q⟩:=S.nin (.inr ⟨i,h⟩)
   exact⟨o,c8 hD _ _ q⟩
 frm:=(c8 hD).fr
 par:=⟨fun j a e=>by
  have e:(ix[j]?).bind O=some a:=e;cases hi:ix[j]? with
  |none=>rw[hi] at e;cases e
  |some i=>exact Dm.mpr (Ag.mp hi).1,fun j _=>rfl⟩
 pin:=fun a q0=>by
  obtain⟨j,e⟩:=q0;unfold Oc at e;obtain⟨i,hi,e⟩:=Aa.mp e;obtain⟨o,q⟩:=S.nin (.inr ⟨i,e⟩);exact⟨o,c8 hD _ _ q⟩
 kep:=fun p hp=>((hk p hp).away hD _ _ OB OB).same (c8 hD)
theorem bA.turn{O':Nat->Option Addr}{σ':St}{n:Nat}{m:St}(S:bA K (Az n) B O' H σ' δ)(hmu: ∀j,n<=j->B.mu j=none)(hm:m.length=n)(hσ:σ'.take n=m)(hn:n<=δ.length):bA K (Az n) B B.mu H (m++Bd nl none) (δ.take n++OC nl):=by
 have hO: ∀j,j<n->O' j=B.mu j:=fun j hj=>S.par.2 j (Dm.mpr hj);have hle: ∀j a,B.mu j=some a->O' j=some a:=fun j a e=>by rw[hO j (Dm.mp (S.par.1 j a e))];exact e
 have hN: ∀a,Nn B B.mu a->Nn B O' a:=fun a h=>by
  rcases h with h|⟨j,h⟩
  ·exact .inl h
  ·exact .inr ⟨j,hle j a h⟩
 have hg: ∀(j:Nat) (s:Sl),(δ.take n++OC nl)[j]? =some s->(j<n/\δ[j]? =some s)∨s= .no:=fun j s h=>by
  have hl:(δ.take n).length=n:=by rw[Bu];lia
  by_cases hj:j<n
  ·rw [Am (by rw [hl];exact hj),Ce hj] at h
   exact .inl ⟨hj,h⟩
  ·unfold OC at h
   rw[Bw (by rw[hl];lia),Cy] at h;split at h
   ·cases h;exact .inr rfl
   ·cases h
 have hs: ∀(j:Nat) (v:V),j<n->σ'[j]? =some (some v)->(m++Bd nl none)[j]? =some (some v):=fun j v hj e=>by
  rw[Am (by rw[hm];exact hj),<- hσ,Ce hj];exact e
 refine⟨?_,fun j d e=> ?_,fun j d e=> ?_,fun j a e=> ?_,fun j k a e1 e2=>S.inj j k a (hle j a e1) (hle k a e2),fun j a e=>S.old j a (hle j a e),S.zin,S.frm,⟨S.par.1,fun j _=>rfl⟩,S.pin,fun p hp=>(S.kep p hp).mono hN hN⟩
 ·simp[hm,OC,Bu]
  lia
 ·rcases hg j _ e with⟨hj,e⟩|e
  ·obtain⟨v,e1,r⟩:=S.va j d e
   exact⟨v,hs j v hj e1,r.mono hN hN⟩
  ·cases e
 ·rcases hg j _ e with⟨hj,e⟩|e
  ·obtain⟨a,e1,e2,w⟩:=S.ow j d e
   exact⟨a,(hO j hj)▸e1,hs j _ hj e2,w.mono hN⟩
  ·cases e
 ·have hj:=Dm.mp (S.par.1 j a e)
  obtain⟨d,q⟩:=S.dom j a (hle j a e);refine⟨d,?_⟩;rw[Am (by rw[Bu];lia),Ce hj];exact q
theorem YQ(ix:List Nat)(σ:St):(aV ix σ).length=ix.length:=by simp[aV]
theorem Q8{σ':St}(hl:ix.length<=σ'.length)(h: ∀i∈Az ix.length,σ'[i]? =(aV ix σ++Bd nl none)[i]?):σ'.take ix.length=aV ix σ:=by
 refine Oq fun j=> ?_;by_cases hj:j<ix.length
 ·rw[Ce hj,h j (Dm.mpr hj),Am (by rw[YQ];exact hj)]
 ·rw[Bv (by rw[Bu];lia),Bv (by rw[YQ];lia)]
theorem KQ{σ3:St}(m3: ∀i∈Az ix.length,σ3[i]? =(aV ix σ++Bd nl none)[i]?):ix.length<=σ3.length:=by
 by_cases hz:ix.length=0
 ·lia
 ·have hj : ix.length - 1 < ix.length := by lia
  have:=m3 (ix.length - 1) (Dm.mpr hj);have hs:(aV ix σ++Bd nl none)[ix.length - 1]? ≠none:=by
   rw[Am (by rw[YQ];exact hj)];simp[aV,hj]
  rw[<- this] at hs;have ni:ix.length - 1<σ3.length:=Po fun z=>hs (List.getElem?_eq_none_iff.mpr z);lia
theorem F7{fi:VI}{gg:VG}{tb:VB}{fe:VF}(hnd:ix.Nodup){Q:VK}(h:TN K ml (pi && pt && pe) (aL ix nl fi gg tb fe) σ H Q):
  F6 ix nl (CI K ml pi fi) (TGV K (Az ix.length) gg) (TB K (Az ix.length) pt tb) (TV K (Az ix.length) pe true true fe) σ H Q:=by
 obtain⟨B,O,δ,d,δ2,S,q,k⟩:=h;unfold aL at q;obtain⟨⟨ds,δ1⟩,h1,q⟩:=Aa.mp q;have q:((aS ix.length nl gg tb fe ds [] (bX ix δ1)).map fun q=>(dF.lst q.1,ZX ix q.2 δ1))=some (d,δ2):=q;obtain⟨⟨res,δf⟩,h2,q⟩:=Ao.mp q;cases q;refine⟨B,O,δ,ds,δ1,S,h1,fun J kps H0 S0 f0 p0 wk D hD=> ?_⟩;have hDO: ∀j,Oc ix O j≠some D:=fun j e=>by
  unfold Oc at e;obtain⟨i,hi,e⟩:=Aa.mp e;obtain⟨o,q⟩:=S0.nin (.inr ⟨i,e⟩);rw[hD] at q;cases q
 have cy: ∀kp j,ix.length<=j->(Bc ix B O H0 D kp).mu j=none:=fun kp j hj=>by
  show(ix[j]?).bind O=none;rw[Bv hj];rfl
 refine⟨fun i m acc H1=>m=ds.length - i/\i<=ds.length/\ ∃(ak:List dF) (δc:Ev),δc.length=ix.length/\acc.length=ak.length∧
   bA K (Az ix.length) (Bc ix B O H0 D (kps++acc.zip ak)) (Oc ix O) H1 (aV ix σ++Bd nl none) (δc++OC nl)/\H1 D=some (.lst acc)/\((pt && pe)=true->bI H0 H1)∧
   aS ix.length nl gg tb fe (ds.drop i) ak δc=some (res,δf),
  ⟨ds.length,rfl,Di _,[],bX ix δ1,by simp [bX],rfl,by
   rw[Ot,Db];exact S0.unkeep.inner hD hnd fun p hp=>S0.kep p (Cg _ hp),cS,fun _=>c8 hD,h2⟩,?_⟩
 rintro i m acc H1 ⟨rfl,hi,ak,δc,hlc,aw,S1,hD1,bp,hc⟩;have w:=wk (Nn (Bc ix B O H0 D (kps++acc.zip ak)) (Oc ix O)) H1 fun p hp=>S1.kep p (Cg _ hp);by_cases hlt:i<ds.length
 ·obtain ⟨go,yl⟩ := w.1 i ds[i] (by simp [hlt])
  rw[De hlt] at hc;simp only[aS] at hc;obtain⟨δ3,g1,hc⟩:=Aa.mp hc;obtain⟨⟨kk,δ4⟩,g2,hc⟩:=Aa.mp hc;refine .inr ⟨go,fun ao H'=> ∃(ak:List dF) (δc:Ev),δc.length=ix.length/\ao.length=ak.length∧
   bA K (Az ix.length) (Bc ix B O H0 D (kps++ao.zip ak)) (Oc ix O) H' (aV ix σ++Bd nl none) (δc++OC nl)/\H' D=some (.lst ao)/\((pt && pe)=true->bI H0 H')∧
   aS ix.length nl gg tb fe (ds.drop (i+1)) ak δc=some (res,δf),fun ao H' w'=>⟨ds.length - (i+1),by lia,rfl,hlt,w'⟩,fun x H2 hy=> ?_⟩
  obtain⟨sm,rx⟩:=yl x H2 hy;refine⟨_,_,_,ds[i],δ3,S1.same sm,rx,g1,fun σ3 O3 S3 m3=> ?_⟩;have ln3:=KQ m3;have hσ3:=Q8 ln3 m3;refine⟨hσ3,_,_,δ3,kk,δ4,S3,g2,fun H4 R4=> ?_⟩;have hD4:H4 D=some (.lst acc):=R4.frm _ _ (sm _ _ hD1) fun z=>by
   obtain⟨j,e⟩:=z;have:=(R4.sta.old j D e).1;exact absurd (.inl (.inr rfl)) this
  have ln4:ix.length<=δ4.length:=by rw[<- R4.sta.len];exact ln3
  cases kk with
  |false=>
   rw[if_neg Dt] at hc;refine NC ⟨ak,δ4.take ix.length,by rw[Bu];lia,aw,R4.sta.turn (cy _) (YQ ix σ) hσ3 ln4,hD4,fun z=> ?_,hc⟩;exact((bp z).trans sm).trans (R4.pur ((Ae _ _).mp z).1)
  |true=>
   rw[if_pos rfl] at hc;obtain⟨⟨dv,δ5⟩,g3,hc⟩:=Aa.mp hc;split at hc
   ·rename_i hz
    refine ND ⟨_,_,δ4,dv,δ5,R4.sta,g3,fun v H5 R5=> ?_⟩;have hD5:H5 D=some (.lst acc):=R5.frm _ _ hD4 fun z=>by
     obtain⟨j,e⟩:=z;have:=(R5.sta.old j D e).1;exact absurd (.inl (.inr rfl)) this
    have ln5:ix.length<=δ5.length:=by rw[<- R5.sta.len];exact ln3
    have S6:=R5.sta.turn (nl:=nl) (cy _) (YQ ix σ) hσ3 ln5;have hv:bR K (Nn (Bc ix B O H0 D (kps++acc.zip ak)) (Oc ix O)) H5 (Nn (Bc ix B O H0 D (kps++acc.zip ak)) (Oc ix O)) v dv:=by
     have hN: ∀a,Nn (Bc ix B O H0 D (kps++acc.zip ak)) (Oc ix O) a->av (Bc ix B O H0 D (kps++acc.zip ak)) O3 true a:=fun a h=>by
      rcases h with h|⟨j,h⟩
      ·exact .inl h
      ·refine .inr ⟨j,?_⟩
       have hj:j∈Az ix.length:=R5.sta.par.1 j a h;rw[R5.sta.par.2 j hj];exact h
     exact R5.rep.mono hN hN
    have S7:=S6.withKp (kp:=kps++(acc++[v]).zip (ak++[dv])) fun p hp=>by
     rw[Qi aw,<- Ba] at hp;rcases Bk.mp hp with z|z
     ·exact S6.kep p z
     ·rw[Bb.mp (show p∈[(v,dv)] from z)]
      exact hv
    refine⟨hD5,by rw[aw,Cm];exact hz,ak++[dv],δ5.take ix.length,by rw[Bu];lia,by simp[aw],?_,cS,fun z=> ?_,hc⟩
    ·exact S7.writeZ (.inl (.inr rfl)) hD5 hD
    ·intro b o e
     have hb:b≠D:=fun z=>by rw[z,hD] at e;cases e
     rw[cH hb];obtain⟨z1,z2⟩:=(Ae _ _).mp z;exact(((bp z).trans sm).trans ((R4.pur z1).trans (R5.pur z2))) b o e
   ·cases hc
 ·have e : i = ds.length := by lia
  subst e;rw[Dw] at hc;cases hc;refine .inl ⟨w.2,k D H1 ?_⟩;have fP:Fr (OA (Oc ix O)) H0 H1:=S1.frm;have hPO: ∀a,OA (Oc ix O) a->OA O a:=fun a q0=>by
   obtain⟨j,e⟩:=q0;unfold Oc at e;cases hi:ix[j]? with
   |none=>rw[hi] at e;cases e
   |some i=>rw[hi] at e;exact⟨i,e⟩
  have SL:=S0.unkeep.laid (o:= .lst acc) hD;have fL:Fr (OA (Oc ix O)) (bN H0 D (.lst acc)) H1:=fun b o e n=>by
   by_cases hb:b=D
   ·subst hb
    rw[cS] at e;cases e;exact hD1
   ·rw[cH hb] at e
    exact fP b o e n
  refine⟨SL.call (YF) (fun i=> ?_) fL hPO,f0.trans (fP.mono hPO),fun z=> ?_,.lst hD1 (UI aw fun p hp=>(S1.kep p (Bf _ hp)).mono TK TK),S0.unkeep.new hD,S0.fresh hD⟩
  ·by_cases cz:i<δ1.length
   ·rcases XN (ix:=ix) (ss:=δf) (δ:=δ1) i cz hlc.symm with⟨j,x,e1,e2,e3⟩|⟨e1,e2⟩
    ·have e4:(δf++OC nl)[j]? =some (.ow x):=by
      rw[Am (Ag.mp e2).1];exact e2
     obtain⟨a,e5,_,w⟩:=S1.ow j x e4;refine .inr ⟨a,x,?_,e3,w.mono TK⟩;unfold Oc at e5;rw[e1] at e5;exact e5
    ·refine .inl ⟨e2,fun a ea ⟨j,ej⟩ => ?_⟩
     obtain⟨x,ex⟩:=S1.dom j a ej;unfold Oc at ej;cases hi:ix[j]? with
     |none=>rw[hi] at ej;cases ej
     |some i'=>
      rw[hi] at ej;have:i=i':=S0.inj i i' a ea ej;subst this;have hj:j<δf.length:=by rw[hlc];exact(Ag.mp hi).1
      rw[Am hj] at ex;exact e1 j x hi ex
   ·refine .inl ⟨?_,fun a ea => ?_⟩
    ·rw[Bv (by rw[YF];lia),Bv (by lia)]
    ·obtain⟨x,ex⟩:=S0.dom i a ea
     exact absurd (Ag.mp ex).1 cz
  ·simp only[Ae] at z
   exact(p0 z.1.1).trans (bp (by simp[z.1.2,z.2]))
theorem zEH{Q:Bool->Hp->Prop}(h:TB K ml true XX σ H Q):tYes σ H Q:=by
 obtain⟨B,O,δ,k,δ',S,q,w⟩:=h;cases q;exact w H (CY.refl S)
theorem TU{Y:Cx}{t:VB}(h:PT Y c (TB K ml pt t)):PTs Y [c] (TB K ml pt t):=zC1 h
theorem X2{Y:Cx}:PTs Y [] (TB K ml true XX):=fun aa s σ H Q I hw=>zC2 aa s σ H Q I (zEH hw)
theorem zDC{Q:VK}{o:Bool}(h:TX K ml (if o then xO f else xV f) σ H Q):TN K ml pu f σ H Q:=by
 obtain⟨B,O,δ,s,δ',S,q,k⟩:=h;have e: ∃d,f δ=some (d,δ')/\s=if o then .ow d else .va d:=by
  cases o with
  |true=>
   have q:(f δ).map (fun p=>(Sl.ow p.1,p.2))=some (s,δ'):=q;cases h1:f δ with
   |none=>rw[h1] at q;cases q
   |some p=>rw[h1] at q;cases q;exact⟨p.1,rfl,rfl⟩
  |false=>
   have q:(f δ).map (fun p=>(Sl.va p.1,p.2))=some (s,δ'):=q;cases h1:f δ with
   |none=>rw[h1] at q;cases q
   |some p=>rw[h1] at q;cases q;exact⟨p.1,rfl,rfl⟩
 obtain⟨d,h1,hs⟩:=e;refine⟨B,O,δ,d,δ',S,h1,fun p H' R=> ?_⟩;cases o with
 |true=>
  cases hs;have w:=R.own;cases w with
  |lst q1 r=>exact k _ H' _ (R.sta.keepV (UM r)) (.ol q1 r.length R.nz R.h0) R.frm
  |dct q1 r=>exact k _ H' _ (R.sta.keepV (UM r)) (.od q1 (by simpa using r.length) R.nz R.h0) R.frm
 |false=>
  cases hs;exact k _ H' _ (R.sta.unadd.keepV (ps:=[(.ref p,d)]) fun z hz=>by
   rw[Bb.mp hz];exact(R.own.mono U0).rep R.nz) .va R.frm
theorem BO{i:Nat}{x:VX}{te:TE}(hte: ∀σ H Q,TX K ml x σ H Q->te σ H Q)(hm:i∉ml){D:GF}(h:TZ K ml (Z9 i x) D σ H):tAsg te (EW i) D σ H:=by
 obtain⟨B,O,δ,o,S,q,k⟩:=h;unfold Z9 at q;obtain⟨⟨s,δ1⟩,h1,q⟩:=Aa.mp q;have q:(if i<δ1.length then some (Ou.nx (δ1.set i s)) else none)=some o:=q;split at q
 ·rename_i hl
  cases q;refine hte _ _ _ ⟨B,O,δ,s,δ1,S,h1,fun v H' B' S' h' f'=> ?_⟩;obtain⟨O'',S''⟩:=h'.bind S' hm hl;exact k _ _ _ S''
 ·cases q
end
abbrev b8(P:Bq)(w:World)(K:Ar)(mg:Str->Option Value)(base:Heap)(x:Str)(k:Nat)(ps:List Str)(mF:List Nat)(F:a0)(f:Addr):Prop:=Def P w K mg base x k ps (spV K mF ps.length F) f
section
variable{X:Cx}{K:Ar}{ml:List Nat}{e a b c:Expr}{es:List Expr}{pa ta ia pb tb ib pc tc ic pu bt bi ps bs:Bool}{fa fb fc f:VF}{B B':Bs}{O:Nat->Option Addr}{H H0 H1 H':Hp}{σ:St}{δ δ':Ev}{v:V}{d:dF}{p:Addr}{pos:Pos}
theorem ZR{x:Str}(hg:Gl X x)(h: ∃u v,X.mg x=some u/\cB v u/\ ∀N H M,bR K N H M v d)(hd:(x==("__debug__":Str))=false:=by decide):PE X (.Name x pos) (TV K ml true true true (fC d)):=by
 obtain⟨u,v,h1,h2,h3⟩:=h;exact EG (zCA hg h1 h2 hd) h3
def zDJ(K:Ar):R2:=fun x y H Q=> ∃a b xs ys,x= .ref a/\y= .ref b/\WS K H a xs/\WS K H b ys/\xs.length+ys.length<=sizeLine∧
 (xs=[]->Q (.ref b) H)/\(xs≠[]->ys=[]->Q (.ref a) H)/\(xs≠[]->ys≠[]-> ∀p,H p=none->Q (.ref p) (bN H p (.tup (xs++ys))))
theorem zCI:XD X (Go .Add) (zDJ X.K):=by
 intro aa s σ H x y v u Q I rx ry h;obtain⟨a,b,xs,ys,rfl,rfl,ha,hb,hz,q0,q1,q2⟩:=h;cases rx;cases ry;obtain⟨its,r1,p1,_⟩:=I.tuple ha;obtain⟨fj,r2,p2,_⟩:=I.tuple hb;by_cases hx:xs=[]
 ·subst hx
  have e0:its=[]:=r1.nil_iff.mpr rfl;subst e0;obtain⟨⟨cls,dd,data,sl⟩,ho,hc,n,hd⟩:=id p1;obtain⟨⟨lb,dd2,data2,sl2⟩,ho2,hc2,n2,hd2⟩:=id p2;simp only at hc hd hc2 hd2;subst hc hd hc2 hd2;exact Mf ⟨_,ho,rfl⟩ ⟨_,ho2,rfl⟩ Lq Nr Ia Hr (Hk _ _)
   (tuple_addW0 a b _ fj.toArray n n2 dd dd2 sl sl2 (by simp)) ⟨ho,ho2,⟨.ref b,H,I,rfl,q0 rfl⟩⟩
 ·refine HT.zD2 p1 p2 (fun z => hx (r1.nil_iff.mp z)) (fun z => ⟨.ref a,H,I,rfl,q1 hx (r2.nil_iff.mp z)⟩) (fun z => ?_) (by rw [<- r1.length,<- r2.length];exact hz)
  refine⟨.ref s.heap.objs.size,_,I.laid (t':=s.toks) (o:= .tup (xs++ys)) (fun b ob q=>Ad _ q) (Ah _) ?_,rfl,q2 hx (fun w=>z (r2.nil_iff.mpr w)) _ (I.hok.fresh (Ah _))⟩;exact⟨by rw[Cf];exact hz,_,r1.append r2,Ks _ _⟩
def zDI(K:Ar):R2:=fun x y H Q=> ∃l b xs zs,x= .ref l/\y= .ref b/\X5 K H l xs/\X5 K H b zs/\xs.length+zs.length<=sizeLine/\ ∀p,H p=none->Q (.ref p) (bN H p (.lst (xs++zs)))
theorem zCH:XD X (Go .Add) (zDI X.K):=by
 intro aa s σ H x y v u Q I rx ry h;obtain⟨l,b,xs,zs,rfl,rfl,hH,hB,hz,q⟩:=h;cases rx;cases ry;obtain⟨its,r,p1,_⟩:=I.list hH;obtain⟨fj,r2,p2,_⟩:=I.list hB;obtain⟨⟨cls,dd,data,sl⟩,n,ho,hc,_,hd⟩:=id p1;obtain⟨⟨lb,dd2,data2,sl2⟩,n2,ho2,hc2,_,hd2⟩:=id p2;simp only at hc hd hc2 hd2;subst hc hd hc2 hd2;have ea:its.toArray++fj.toArray=(its++fj).toArray:=by simp
 have hl:=r.length;have hl2:=r2.length;refine Mf ⟨_,ho,rfl⟩ ⟨_,ho2,rfl⟩ noFill_list_add seq_list_add PySem.F.slot_list_add PySem.F.entry_list_add (PySem.F.args_list_add_2 _ _) (list_addW l b its.toArray fj.toArray n n2 dd dd2 sl sl2 (by rw[Aw,Aw,<- hl,<- hl2];exact hz)) ⟨ho,ho2,?_⟩;rw[ea];exact⟨.ref _,_,I.lnew (t':=s.toks) (r.append r2) (by rw[Cf];lia),rfl,q _ I.fresh⟩
def zDH(K:Ar):R2:=fun x y H Q=>((HD (fun i j=> .int (i+j)) x y H Q∨zDJ K x y H Q)∨zDI K x y H Q)∨ ∃i j,x= .str i/\y= .str j/\i.length+j.length<=sizeLine/\Q (.str (i++j)) H
theorem WJ(h:X.K=K):XD X (Go .Add) (zDH K):=by subst h;exact((zFV.or zCI).or zCH).or G7
noncomputable def Y4:dF->dF->Option dF
 | .int i,.int j=>some (.int (i+j))
 | .tup ds,.tup es=>if ds.length+es.length<=16777216 then some (.tup (ds++es)) else none
 | .lst ds,.lst es=>if ds.length+es.length<=16777216 then some (.lst (ds++es)) else none
 | .str x,.str y=>if x.length+y.length<=16777216 then some (.str (x++y)) else none
 |_,_=>none
theorem bR.tupE{N M:Addr->Prop}{ds:List dF}(h:bR K N H M v (.tup ds)): ∃a xs,v= .ref a/\WS K H a xs/\cO K N H xs ds:=by
 cases h with
 |tup q r=>exact⟨_,_,rfl,q,r⟩
theorem bR.lstE{N M:Addr->Prop}{ds:List dF}(h:bR K N H M v (.lst ds)): ∃a xs,v= .ref a/\X5 K H a xs/\cO K N H xs ds:=by
 cases h with
 |lst q n r=>exact⟨_,_,rfl,X5.of q,r⟩
 |fzl q r=>exact⟨_,_,rfl,q.sq,r⟩
theorem YG:OpC K (zDH K) Y4:=by
 intro H N M M' x y d e c Q hx hy h k;cases d with
 |int i=>
  cases e with
  |int j=>
   cases h;cases hx;cases hy;exact .inl (.inl (.inl ⟨_,_,rfl,rfl,k _ _ (bI.refl _) fun _ _=> .int _⟩))
  |_=>cases h
 |str i=>
  cases e with
  |str j=>
   simp only[Y4] at h;split at h
   ·cases h
    cases hx;cases hy;exact .inr ⟨_,_,rfl,rfl,by rw[Cm];assumption,k _ _ (bI.refl _) fun _ _=> .str _⟩
   ·cases h
  |_=>cases h
 |tup ds=>
  cases e with
  |tup es=>
   simp only[Y4] at h;split at h
   ·rename_i hz
    cases h;obtain⟨a,xs,rfl,q1,r1⟩:=hx.tupE;obtain⟨b,ys,rfl,q2,r2⟩:=hy.tupE;refine .inl (.inl (.inr ⟨a,b,xs,ys,rfl,rfl,q1,q2,by rw[r1.length,r2.length,Cm];exact hz,fun z=> ?_,fun z1 z2=> ?_,fun z1 z2 p hp=> ?_⟩))
    ·subst z
     have:ds=[]:=Gg.mp r1.length.symm;subst this;exact k _ _ (bI.refl _) fun M hM=> .tup q2 r2
    ·subst z2
     have:es=[]:=Gg.mp r2.length.symm;subst this;rw[Db] at k;exact k _ _ (bI.refl _) fun M hM=> .tup q1 r1
    ·exact k _ _ (c8 hp) fun M hM=> .tup (WS.of cS) ((r1.append r2).same (c8 hp))
   ·cases h
  |_=>cases h
 |lst ds=>
  cases e with
  |lst es=>
   simp only[Y4] at h;split at h
   ·rename_i hz
    cases h;obtain⟨a,xs,rfl,q1,r1⟩:=hx.lstE;obtain⟨b,ys,rfl,q2,r2⟩:=hy.lstE;exact .inl (.inr ⟨a,b,xs,ys,rfl,rfl,q1,q2,by rw[r1.length,r2.length,Cm];exact hz,fun p hp=>k _ _ (c8 hp) fun M hM=> .lst cS (fun z=>by
     obtain⟨o,q⟩:=hM _ z;rw[hp] at q;cases q) ((r1.append r2).same (c8 hp))⟩)
   ·cases h
  |_=>cases h
 |_=>cases h
def A0:Ar->R2:=fun _=>rI CO fun i j=> .int (i*j)
theorem K8(h:X.K=K):XD X (Go .Mult) (A0 K):=zFR
noncomputable abbrev OE:=oMul
theorem O7:OpC K (A0 K) OE:=by
 intro H N M M' x y d e c Q hx hy h k;exact zI3 H N N M M' x y d e c Q hx hy h fun v hv=>k v H (bI.refl _) fun M _=>hv _ _ _
noncomputable def XU:dF->Option bV
 | .int i=>some (.inl i)
 | .str x=>some (.inr x)
 |_=>none
theorem bR.key{N M:Addr->Prop}{k:bV}(h:bR K N H M v d)(e:XU d=some k):v=kV k:=by
 cases h<;>first
  |(cases e;rfl)
  |cases e
noncomputable def cD(ks:List bV)(ds:List dF)(k:bV):Option dF:=match ks,ds with
 |k'::ks,d::ds=>if k'=k then some d else cD ks ds k
 |_,_=>none
theorem WK{N:Addr->Prop}{k:bV}: ∀{kvs:List (bV×V)} {ds:List dF},cO K N H (kvs.map Cj) ds→
  (∃v d,T2 kvs k=some v/\cD (kvs.map Bg) ds k=some d/\bR K N H N v d)∨(T2 kvs k=none/\cD (kvs.map Bg) ds k=none)
 |[],_,.nil=> .inr ⟨rfl,rfl⟩
 | (k',v) :: kvs,_,.cons h t => by
  by_cases hk:k'=k
  ·refine .inl ⟨v,_,SM (p:=(k',v)) hk,?_,h⟩
   simp[cD,hk]
  ·rcases WK (k:=k) t with⟨v',d',h1,h2,h3⟩|⟨h1,h2⟩
   ·exact .inl ⟨v',d',(U7 (p:=(k',v)) hk).trans h1,by simpa[cD,hk] using h2,h3⟩
   ·exact .inr ⟨(U7 (p:=(k',v)) hk).trans h1,by simpa[cD,hk] using h2⟩
theorem zJD(hu:X.A.units+1<cLine):CQ X (fun x y H Q=> ∃a v,x= .ref a/\VA H a y (some v)/\Q v H):=by
 intro value slice aa s σ H x y v u Q I rx ry h hs;obtain⟨a,w,rfl,g,q⟩:=h;cases rx;exact Rn (IF I g) PySem.F.slot_dict_getitem.lookup (C8 hu I g ry fun w' s3 I3 rw'=>⟨w,H,I3,rw',q⟩) hs
def rIxA(K:Ar):R2:=fun x y H Q=>(rIx K x y H Q∨ ∃a v,x= .ref a/\VA H a y (some v)/\Q v H)∨ ∃a k D v,x= .ref a/\y= .str k/\KTab K a D/\Fu k D=some v/\Q v H
theorem kIxA(h:X.K=K)(hu:X.A.units+1<cLine):CQ X (rIxA K):=by subst h;exact(zH1.or (zJD hu)).or zCV
noncomputable def cN:dF->dF->Option dF
 | .tup ds,.int i=>VQ ds i
 | .lst ds,.int i=>VQ ds i
 | .dct ks ds,e=>(XU e).bind (cD ks ds)
 | .str z,.int i=>if z.length<=16777216 then(VQ z.cps.toList i).map fun c=> .str ⟨#[c]⟩ else none
 |_,_=>none
theorem QP{N:Addr->Prop}{k:Str}: ∀{D:List (Str×V)} {ds:List dF},cO K N H (D.map Cj) ds→
  (∃v d,Fu k D=some v/\cD (D.map fun p=> .inr p.1) ds (.inr k)=some d/\bR K N H N v d)∨(Fu k D=none/\cD (D.map fun p=> .inr p.1) ds (.inr k)=none)
 |[],_,.nil=> .inr ⟨rfl,rfl⟩
 | (k',v) :: D,_,.cons h t => by
  by_cases hk:k'=k
  ·subst hk
   exact .inl ⟨v,_,by simp[Fu],by simp[cD],h⟩
  ·have hk2 : ¬ k = k' := fun z => hk z.symm
   rcases QP (k:=k) t with⟨v',d',h1,h2,h3⟩|⟨h1,h2⟩
   ·exact .inl ⟨v',d',by simpa[Fu,hk,hk2] using h1,by simpa[cD,hk] using h2,h3⟩
   ·exact .inr ⟨by simpa[Fu,hk,hk2] using h1,by simpa[cD,hk] using h2⟩
theorem IU{i:Int}: ∀{D:List (Str×V)} {ds:List dF},cD (D.map fun p=> .inr p.1) ds (.inl i)=none
 |[],_=>by simp[cD]
 |_::_,[]=>by simp[cD]
 |p::D,d::ds=>by simpa[cD] using IU (D:=D) (ds:=ds)
theorem zJG:OpI K (rIxA K) cN:=by
 intro H N N' M M' x y d e c Q hx hy h k;have seq: ∀ds i,X1 d=some ds->e= .int i->VQ ds i=some c->rIxA K x y H Q:=fun ds i h1 h2 h3=>by
  subst h2;cases hy;obtain⟨a,xs,rfl,sq,r⟩:=hx.seq h1;obtain⟨v,hv,rv⟩:=zD8 r h3;rcases sq with sq|sq
  ·exact .inl (.inl (.inl ⟨a,xs,i,v,rfl,rfl,sq,hv,k v rv⟩))
  ·exact .inl (.inl (.inr (.inl ⟨a,xs,i,v,rfl,rfl,sq,hv,k v rv⟩)))
 cases d with
 |tup ds=>
  cases e with
  |int i=>exact seq ds i rfl rfl h
  |_=>cases h
 |lst ds=>
  cases e with
  |int i=>exact seq ds i rfl rfl h
  |_=>cases h
 |str z=>
  cases e with
  |int i=>
   simp only[cN] at h;split at h
   ·obtain⟨ch,hc,h⟩:=Ao.mp h
    cases h;cases hx;cases hy;exact .inl (.inl (.inr (.inr ⟨z,i,ch,rfl,rfl,by rw[Cm];assumption,hc,k _ (.str _)⟩)))
   ·cases h
  |_=>cases h
 |dct ks ds=>
  simp only[cN] at h;obtain⟨kk,hk,h⟩:=Aa.mp h;have h:cD ks ds kk=some c:=h;have ey:=hy.key hk;subst ey;cases hx with
  |dct q n r=>
   rcases WK (k:=kk) r with⟨v,d',h1,h2,h3⟩|⟨h1,h2⟩
   ·rw[h] at h2
    cases h2;exact .inl (.inr ⟨_,v,rfl,h1▸VA.k q,k v h3⟩)
   ·rw[h] at h2;cases h2
  |ktb T r=>
   cases kk with
   |inl i=>rw[IU] at h;cases h
   |inr x=>
    rcases QP (k:=x) r with⟨v,d',h1,h2,h3⟩|⟨h1,h2⟩
    ·rw[h] at h2
     cases h2;exact .inr ⟨_,x,_,v,rfl,rfl,T,h1,k v h3⟩
    ·rw[h] at h2;cases h2
 |_=>cases h
noncomputable def ZG(δ:Ev)(i:Nat):Option (List bV×List dF):=match δ[i]? with
 |some (.ow (.dct ks ds))=>some (ks,ds)
 |_=>none
theorem Z2{i:Nat}{ks:List bV}{ds:List dF}(h:ZG δ i=some (ks,ds)):δ[i]? =some (.ow (.dct ks ds)):=by
 unfold ZG at h;split at h
 ·cases h;assumption
 ·cases h
noncomputable def K2(i:Nat)(fk fx:VF):VF:=fun δ=>(ZG δ i).bind fun _=>(fk δ).bind fun p=>(fx p.2).bind fun q=>(XU p.1).bind fun k=>(ZG q.2 i).map fun z=>((cD z.1 z.2 k).getD q.1,q.2)
theorem BW{i:Nat}{fk fx:VF}{ai ae:Pos}(hu:X.A.units+1<cLine)(ho:PE X a (SJ i))(hk:PE X b (TV K ml pa ta ia fk))(hx:PE X c (TV K ml pb true true fx))(m:M2 X a "get" ai b c ae):
  PE X (.Call (.Attribute a "get" ai) [b,c] [] ae) (TV K ml (pa && pb) true true (K2 i fk fx)):=(AD hu ho hk hx m).imp fun σ H Q hq0=>by
 obtain⟨B,O,δ,d,δ3,S,q,k⟩:=hq0;unfold K2 at q;cases h0:ZG δ i with
 |none=>rw[h0] at q;cases q
 |some z0=>
  obtain⟨ks0,ds0⟩:=z0;rw[h0] at q;cases h1:fk δ with
  |none=>simp[h1] at q
  |some p1=>
   obtain⟨y,δ1⟩:=p1;simp only[Av,h1] at q;cases h2:fx δ1 with
   |none=>simp[h2] at q
   |some p2=>
    obtain⟨z,δ2⟩:=p2;simp only[Av,h2] at q;cases h3:XU y with
    |none=>simp[h3] at q
    |some kk=>
     simp only[Av,h3] at q;cases h4:ZG δ2 i with
     |none=>simp[h4] at q
     |some zz=>
      obtain⟨ks,ds⟩:=zz;simp only[h4] at q;cases q;obtain⟨l,e1,e2,w⟩:=S.ow i _ (Z2 h0);refine⟨.ref l,e2,l,rfl,?_,B,O,δ,y,δ1,S,h1,fun v1 H1 R1=>⟨B,O,δ1,z,_,R1.sta,h2,fun v2 H2 R2=> ?_⟩⟩
      ·generalize hw:dF.dct ks0 ds0=dd at w
       cases w with
       |lst _ _=>cases hw
       |dct q _=>exact .inl ⟨_,.inl q⟩
      ·have ey:=R1.rep.key h3
       subst ey;obtain⟨l',e3,_,w2⟩:=R2.sta.ow i _ (Z2 h4);rw[e1] at e3;cases e3;have fin: ∀o,bR K (Nn B O) H2 (Nn B O) (o:V) ((cD ks ds kk).getD z)->Q o H2:=fun o ho=>k o H2 ⟨R2.sta,R1.frm.trans R2.frm,fun z=>by
        obtain⟨z1,z2⟩:=(Ae _ _).mp z;exact(R1.pur z1).trans (R2.pur z2),ho⟩
       generalize hw:dF.dct ks ds=dd at w2;cases w2 with
       |lst _ _=>cases hw
       |dct q r=>
        cases hw;refine⟨_,VA.k q,fin _ ?_⟩;rcases WK (k:=kk) r with⟨v,d',g1,g2,g3⟩|⟨g1,g2⟩
        ·rw[g1,g2];exact g3
        ·rw[g1,g2];exact R2.rep
noncomputable def bB:List bV->List dF->bV->dF->List bV×List dF
 |k'::ks,d::ds,k,v=>if k'=k then(k'::ks,v::ds) else let r:=bB ks ds k v;(k'::r.1,d::r.2)
 |_,_,k,v=>([k],[v])
noncomputable def SG(i:Nat)(fk fv:VF):VS:=fun δ=>(fv δ).bind fun p=>(ZG p.2 i).bind fun _=>(fk p.2).bind fun q=>(XU q.1).bind fun k=>(ZG q.2 i).bind fun z=>if z.1.length<16777216/\z.1.Nodup then some (.nx (q.2.set i (.ow (let r:=bB z.1 z.2 k p.1;.dct r.1 r.2)))) else none
theorem UH{N:Addr->Prop}{k:bV}{v:V}(h:bR K N H N v d): ∀{kvs:List (bV×V)} {ds:List dF},(kvs.map Bg).Nodup->cO K N H (kvs.map Cj) ds→
  (ZF kvs k v).map Bg=(bB (kvs.map Bg) ds k d).1/\cO K N H ((ZF kvs k v).map Cj) (bB (kvs.map Bg) ds k d).2
 |[],_,_,.nil=>⟨rfl,.cons h .nil⟩
 | (k',u) :: kvs,_,nd,.cons hu t => by
  obtain⟨n1,n2⟩:=Cq.mp nd;by_cases hk:k'=k
  ·subst hk
   have e:ZF ((k',u)::kvs) k' v=(k',v)::kvs:=by
    unfold ZF;rw[if_pos (by simp)];simp only[Aq,if_true];congr 1;refine(Fb fun p hp=> ?_).trans (List.map_id _);have:p.1≠k':=fun z=>n1 (Bx.mpr ⟨p,hp,z⟩);simp[this]
   rw[e];exact⟨by simp[bB],by simpa[bB] using cO.cons h t⟩
  ·obtain⟨h1,h2⟩:=UH (k:=k) h n2 t
   have e:ZF ((k',u)::kvs) k v=(k',u)::ZF kvs k v:=by
    unfold ZF;simp only[Jg,hk,decide_false,Ro];split
    ·simp[hk]
    ·rfl
   rw[e];exact⟨by simpa[bB,hk] using h1,by simpa[bB,hk] using cO.cons hu h2⟩
theorem SE{N:Addr->Prop}{l:Addr}{o:HO}{xs:List V}{ds:List dF}{kvs:List (bV×V)}(ho:H l=some (.dK kvs))(hN:N l)(h:cO K N H xs ds):cO K N (bN H l o) xs ds:=
 h.fr (P:=fun b=>b=l) (fun b u q n=>by
  by_cases hb:b=l
  ·subst hb
   rw[ho] at q;cases q;exact absurd (n rfl) fun z=>z
  ·rw[cH hb]
   exact q) fun a z=>z▸hN
theorem PM{i:Nat}{fk fv:VF}{bq:Pos}(hu:X.A.units+1<cLine)(ho:PE X a (SJ i))(hk:PE X b (TV K ml pa ta ia fk))(hv:PE X c (TV K ml pb true true fv))(hs:Hn c (some (.Subscript a b bq)) pos.line X.env=pure false):
  PS X (.Assign [.Subscript a b bq] c pos) (TZ K ml (SG i fk fv)):=(zC4 hu ho hk hv hs).imp fun D σ H hq0=>by
 obtain⟨B,O,δ,o,S,q,k⟩:=hq0;unfold SG at q;obtain⟨⟨z,δ1⟩,h1,q⟩:=Aa.mp q;have q:((ZG δ1 i).bind fun _=>(fk δ1).bind fun q=>(XU q.1).bind fun k=>(ZG q.2 i).bind fun z_1=>if z_1.1.length<16777216/\z_1.1.Nodup then some (Ou.nx (q.2.set i (.ow (let r:=bB z_1.1 z_1.2 k z;.dct r.1 r.2)))) else none)=some o:=q;cases h0:ZG δ1 i with
 |none=>rw[h0] at q;cases q
 |some z0=>
 obtain⟨ks0,ds0⟩:=z0;rw[h0] at q;cases h2:fk δ1 with
 |none=>simp[h2] at q
 |some p2=>
  obtain⟨y,δ2⟩:=p2;simp only[Av,h2] at q;cases h3:XU y with
  |none=>simp[h3] at q
  |some kk=>
   simp only[Av,h3] at q;cases h4:ZG δ2 i with
   |none=>simp[h4] at q
   |some zz=>
    obtain⟨ks,ds⟩:=zz;simp only[h4,Av] at q;split at q
    ·rename_i hz
     cases q;refine⟨B,O,δ,z,δ1,S,h1,fun v1 H1 R1=> ?_⟩;obtain⟨l,e1,e2,_⟩:=R1.sta.ow i _ (Z2 h0);refine⟨.ref l,e2,B,O,δ1,y,δ2,R1.sta,h2,fun v2 H2 R2=> ?_⟩;have ey:=R2.rep.key h3;subst ey;obtain⟨l',e3,_,w2⟩:=R2.sta.ow i _ (Z2 h4);rw[e1] at e3;cases e3;generalize hw:dF.dct ks ds=dd at w2;cases w2 with
     |lst _ _=>cases hw
     |dct qd r=>
      cases hw;have rv:=R1.rep.fr R2.frm (fun a z=> .inr z) fun a z=> .inr z;obtain⟨g1,g2⟩:=UH (k:=kk) rv hz.2 r;refine⟨l,_,rfl,DPut.k qd (by rw[Cm];simpa using hz.1),k σ _ O (R2.sta.wrote e1 (fun z=>z) ?_)⟩;have w:PQ K (Nn B O) (bN H2 l (.dK (ZF _ kk v1))) l (.dct ((ZF _ kk v1).map Bg) _):= .dct cS (SE qd (.inr ⟨i,e1⟩) g2);rw[g1] at w;exact w
    ·cases q
end
section
variable{X:Cx}{K:Ar}{ml:List Nat}{e a b c:Expr}{es:List Expr}{pa ta ia pb tb ib pc tc ic pu bt bi ps bs:Bool}{fa fb fc f:VF}{B B':Bs}{O:Nat->Option Addr}{H H0 H1 H':Hp}{σ:St}{δ δ':Ev}{v:V}{d:dF}{p:Addr}{pos:Pos}
def zHN(i j k:Nat)(ta:TA):TS:=fun D σ H=>ta σ H fun vs H1=> ∃v w u,vs=[v,w,u]/\D.nx (((σ.set i (some v)).set j (some w)).set k (some u)) H1
theorem zC3{i j k:Nat}{x y z:Str}{a b c:Expr}{ta:TA}{px py pz pt:Pos}{kt k2 pt2}(hc:X.calm=true)(hN:X.N.Nodup)(hi:X.N[i]? =some x)(hj:X.N[j]? =some y)(hk:X.N[k]? =some z)(hij:i≠j)(hik:i≠k)(hjk:j≠k)
  (hx:X.env.scope.names.lookup x=some .local) (hy:X.env.scope.names.lookup y=some .local) (hz:X.env.scope.names.lookup z=some .local) (ha:PA X [a,b,c] ta)
  (hw:Fm [.Tuple [.Name x px,.Name y py,.Name z pz] kt pt] (.Tuple [a,b,c] k2 pt2) X.env=pure (some [x,y,z]))
  (hs:Fl [.Tuple [.Name x px,.Name y py,.Name z pz] kt pt] (.Tuple [a,b,c] k2 pt2) pos.line X.env=pure false:=by rfl):
  PS X (.Assign [.Tuple [.Name x px,.Name y py,.Name z pz] kt pt] (.Tuple [a,b,c] k2 pt2) pos) (zHN i j k ta):=by
 intro aa s σ H D I h;rw[exec_Assign_arm];refine Ac (Ge ?_);rw[hs];refine Ac (Ak ?_);rw[if_neg (by decide)];refine Ac (Tuple_ (ZW (ha _ aa s σ H _ I h) fun us s1 ⟨vs,H1,I1,r1,q1⟩=> ?_));obtain⟨v,w,u,e1,q1⟩:=q1;subst e1;obtain⟨u1,u2,u3,rfl,rv,rw',ru⟩: ∃u1 u2 u3,us=[u1,u2,u3]/\cB v u1/\cB w u2/\cB u u3:=by
  cases r1 with
  |cons p q=>
   cases q with
   |cons p' q'=>
    cases q' with
    |cons p'' q''=>
     cases q'';exact⟨_,_,_,rfl,p,p',p''⟩
 refine Cr ?_ (by show 3<=sizeLine;decide);have I2:cT X aa σ H1 {s1 with heap:=s1.heap.push {cls:= .type "tuple",data:= .seq [u1,u2,u3].toArray}}:=I1.kept (t':=s1.toks) fun b o e=>Ad _ e;rw[hw];refine Ac (Ak ?_);show wpAny (model X.prog X.w) X.A (do rule "assign.swapped-stores";let items<- Jm (.ref s1.heap.objs.size) 3 none;assignInOrder [fun v=>Jf X.env z v,fun v=>Jf X.env y v,fun v=>Jf X.env x v] items.reverse;pure Flow.next) _ _ _;refine Ac (Hj (Ac (Oj (items:= #[u1,u2,u3]) (I.ok.hd hc) (Ks s1.heap _) fun h' hx'=> ?_)));have I3:=I2.kept (h':=h') (t':=s1.toks) fun b o e=>hx' b o (Be (An e)) e;show wpAny _ _ (assignInOrder [fun v=>Jf X.env z v,fun v=>Jf X.env y v,fun v=>Jf X.env x v] [u3,u2,u1]>>=fun _=>pure Flow.next) _ _ _;refine Ac (Ef (Ir (YV I3 hN hk (.inl hz) ru (fun s2 I4=> ?_) (.inr hz))));refine Ef (Ir (YV I4 hN hj (.inl hy) rw' (fun s3 I5=> ?_) (.inr hy)));refine Ef (Ir (YV I5 hN hi (.inl hx) rv (fun s4 I6=>Ii (Ak ?_)) (.inr hx)));rw[Eg _ _ (Dr hij),Eg _ _ (Dr hik),Eg _ _ (Dr hjk)] at I6;exact⟨_,H1,I6,q1⟩
noncomputable def OL(i j k:Nat)(x y z:VX):VS:=fun δ=>(x δ).bind fun p=>(y p.2).bind fun q=>(z q.2).bind fun r=>if i<r.2.length/\j<r.2.length/\k<r.2.length then some (.nx (((r.2.set k r.1).set j q.1).set i p.1)) else none
theorem MN{i j k:Nat}{x y z:VX}{o:Ou}(h:OL i j k x y z δ=some o): ∃s1 δ1 s2 δ2 s3 δ3,x δ=some (s1,δ1)/\y δ1=some (s2,δ2)/\z δ2=some (s3,δ3)/\(i<δ3.length/\j<δ3.length/\k<δ3.length)/\o= .nx (((δ3.set k s3).set j s2).set i s1):=by
 unfold OL at h;cases h1:x δ with
 |none=>rw[h1] at h;cases h
 |some p=>
  rw[h1] at h;cases h2:y p.2 with
  |none=>simp[h2] at h
  |some q=>
   simp only[Av,h2] at h;cases h3:z q.2 with
   |none=>simp[h3] at h
   |some r=>
    simp only[Av,h3] at h;split at h
    ·cases h
     exact⟨p.1,p.2,q.1,q.2,r.1,r.2,rfl,h2,h3,by assumption,rfl⟩
    ·cases h
theorem zBJ{i j k:Nat}{x y z:Str}{fx fy fz:VX}{px py pz pt:Pos}{kt k2 pt2}(hc:X.calm=true)(hN:X.N.Nodup)(hi:X.N[i]? =some x)(hj:X.N[j]? =some y)(hk:X.N[k]? =some z)(hij:i≠j)(hik:i≠k)(hjk:j≠k)
  (hx:X.env.scope.names.lookup x=some .local) (hy:X.env.scope.names.lookup y=some .local) (hz:X.env.scope.names.lookup z=some .local) (ha:PE X a (TX K ml fx)) (hb:PE X b (TX K ml fy)) (hcc:PE X c (TX K ml fz))
  (hw:Fm [.Tuple [.Name x px,.Name y py,.Name z pz] kt pt] (.Tuple [a,b,c] k2 pt2) X.env=pure (some [x,y,z])) (hmi:i∉ml:=by decide) (hmj:j∉ml:=by decide) (hmk:k∉ml:=by decide)
  (hs:Fl [.Tuple [.Name x px,.Name y py,.Name z pz] kt pt] (.Tuple [a,b,c] k2 pt2) pos.line X.env=pure false:=by rfl)
  (he:Aj (a::[b,c]) X.env=(false,eval a X.env)::Aj [b,c] X.env:=by rfl) (he2:Aj (b::[c]) X.env=(false,eval b X.env)::Aj [c] X.env:=by rfl) (he3:Aj (c::[]) X.env=(false,eval c X.env)::Aj [] X.env:=by rfl):
  PS X (.Assign [.Tuple [.Name x px,.Name y py,.Name z pz] kt pt] (.Tuple [a,b,c] k2 pt2) pos) (TZ K ml (OL i j k fx fy fz)):=(zC3 hc hN hi hj hk hij hik hjk hx hy hz (cE ha (cE hb (cE hcc aH he3) he2) he) hw hs).imp fun D σ H hq0=>by
 obtain⟨B,O,δ,o,S,q,k⟩:=hq0;obtain⟨s1,δ1,s2,δ2,s3,δ3,h1,h2,h3,hl,rfl⟩:=MN q;refine⟨B,O,δ,s1,δ1,S,h1,fun v H1 B1 S1 w1 f1=>⟨B1,O,δ1,s2,δ2,S1,h2,fun v2 H2 B2 S2 w2 f2=>⟨B2,O,δ2,s3,δ3,S2,h3,fun v3 H3 B3 S3 w3 f3=>⟨v,v2,v3,rfl,?_⟩⟩⟩⟩;obtain⟨O4,S4⟩:=w3.bind S3 hmk hl.2.2;obtain⟨O5,S5⟩:=(w2.fr f3).bind S4 hmj (by rw[Cc];exact hl.2.1);obtain⟨O6,S6⟩:=((w1.fr f2).fr f3).bind S5 hmi (by rw[Cc,Cc];exact hl.1);rw[Eg _ _ (Dr hij),Eg _ _ (Dr hik),Eg _ _ (Dr hjk)] at S6;exact k _ _ _ S6
theorem zBG{i j k:Nat}{x y z:Str}{fx fy fz:VX}{px py pz pt:Pos}{kt k2 pt2}(hK:X.K=K)(hc:X.calm=true)(hN:X.N.Nodup)(hi:X.N[i]? =some x)(hj:X.N[j]? =some y)(hk:X.N[k]? =some z)(hij:i≠j)(hik:i≠k)(hjk:j≠k)
  (hx:GI X.env.scope x) (hy:GI X.env.scope y) (hz:GI X.env.scope z) (ha:PE X a (TX K ml fx)) (hb:PE X b (TX K ml fy)) (hcc:PE X c (TX K ml fz))
  (hmi:i∉ml:=by decide) (hmj:j∉ml:=by decide) (hmk:k∉ml:=by decide)
  (hs:Fl [.Tuple [.Name x px,.Name y py,.Name z pz] kt pt] (.Tuple [a,b,c] k2 pt2) pos.line X.env=pure false:=by rfl)
  (hw:Fm [.Tuple [.Name x px,.Name y py,.Name z pz] kt pt] (.Tuple [a,b,c] k2 pt2) X.env=pure none:=by rfl)
  (hn:(assignEach [.Name x px,.Name y py,.Name z pz] X.env).length=3:=by rfl) (hst:(assignEach [.Name x px,.Name y py,.Name z pz] X.env).findIdx? (·.1)=none:=by rfl)
  (g1:(assignEach [.Name x px,.Name y py,.Name z pz] X.env).map (·.2)=Gv (.Name x px) X.env::(assignEach [.Name y py,.Name z pz] X.env).map (·.2):=by rfl)
  (g2:(assignEach [.Name y py,.Name z pz] X.env).map (·.2)=Gv (.Name y py) X.env::(assignEach [.Name z pz] X.env).map (·.2):=by rfl)
  (g3:(assignEach [.Name z pz] X.env).map (·.2)=Gv (.Name z pz) X.env::(assignEach [] X.env).map (·.2):=by rfl)
  (fx':X.fn x=true∨X.env.scope.names.lookup x=some .local:=by first|exact .inl rfl|exact .inr rfl|assumption) (fy':X.fn y=true∨X.env.scope.names.lookup y=some .local:=by first|exact .inl rfl|exact .inr rfl|assumption) (fz':X.fn z=true∨X.env.scope.names.lookup z=some .local:=by first|exact .inl rfl|exact .inr rfl|assumption)
  (h1:(assignEach [.Tuple [.Name x px,.Name y py,.Name z pz] kt pt] X.env).map (·.2)=[Gv (.Tuple [.Name x px,.Name y py,.Name z pz] kt pt) X.env]:=by rfl)
  (he:Aj (a::[b,c]) X.env=(false,eval a X.env)::Aj [b,c] X.env:=by rfl) (he2:Aj (b::[c]) X.env=(false,eval b X.env)::Aj [c] X.env:=by rfl) (he3:Aj (c::[]) X.env=(false,eval c X.env)::Aj [] X.env:=by rfl):
  PS X (.Assign [.Tuple [.Name x px,.Name y py,.Name z pz] kt pt] (.Tuple [a,b,c] k2 pt2) pos) (TZ K ml (OL i j k fx fy fz)):=
 (LF (G9 (cE ha (cE hb (cE hcc aH he3) he2) he)) (zAQ (K := K) hK hc (WM (UE hN hi hx fx') (WM (UE hN hj hy fy') (WM (UE hN hk hz fz') LC g3) g2) g1) hn hst) hs hw h1).imp fun D σ H hq0 => by
  obtain⟨B,O,δ,o,S,q,k⟩:=hq0;obtain⟨s1,δ1,s2,δ2,s3,δ3,h1,h2,h3,hl,rfl⟩:=MN q;refine⟨B,O,δ,s1,δ1,S,h1,fun v H1 B1 S1 w1 f1=>⟨B1,O,δ1,s2,δ2,S1,h2,fun v2 H2 B2 S2 w2 f2=>⟨B2,O,δ2,s3,δ3,S2,h3,fun v3 H3 B3 S3 w3 f3=>⟨(by show 3<=sizeLine;decide),fun p hp=>⟨p,_,rfl,WS.of cS,rfl,v,_,rfl,v2,_,rfl,v3,_,rfl,rfl,?_⟩⟩⟩⟩⟩;have f4:Fr (OA O) H3 (bN H3 p (.tup [v,v2,v3])):=(c8 hp).fr;obtain⟨O4,S4⟩:=(w3.fr f4).bind (S3.same (c8 hp)) hmk hl.2.2;obtain⟨O5,S5⟩:=((w2.fr f3).fr f4).bind S4 hmj (by rw[Cc];exact hl.2.1);obtain⟨O6,S6⟩:=(((w1.fr f2).fr f3).fr f4).bind S5 hmi (by rw[Cc,Cc];exact hl.1);rw[Eg _ _ (Dr hij),Eg _ _ (Dr hik),Eg _ _ (Dr hjk)] at S6;exact k _ _ _ S6
theorem zBH{i j:Nat}{x y:Str}{fx fy:VX}{px py pt:Pos}{kt k2 pt2}(hK:X.K=K)(hc:X.calm=true)(hN:X.N.Nodup)(hi:X.N[i]? =some x)(hj:X.N[j]? =some y)(hij:i≠j)
  (hx:GI X.env.scope x) (hy:GI X.env.scope y) (ha:PE X a (TX K ml fx)) (hb:PE X b (TX K ml fy))
  (hmi:i∉ml:=by decide) (hmj:j∉ml:=by decide)
  (hs:Fl [.Tuple [.Name x px,.Name y py] kt pt] (.Tuple [a,b] k2 pt2) pos.line X.env=pure false:=by rfl)
  (hw:Fm [.Tuple [.Name x px,.Name y py] kt pt] (.Tuple [a,b] k2 pt2) X.env=pure none:=by rfl)
  (hn:(assignEach [.Name x px,.Name y py] X.env).length=2:=by rfl) (hst:(assignEach [.Name x px,.Name y py] X.env).findIdx? (·.1)=none:=by rfl)
  (g1:(assignEach [.Name x px,.Name y py] X.env).map (·.2)=Gv (.Name x px) X.env::(assignEach [.Name y py] X.env).map (·.2):=by rfl)
  (g2:(assignEach [.Name y py] X.env).map (·.2)=Gv (.Name y py) X.env::(assignEach [] X.env).map (·.2):=by rfl)
  (fx':X.fn x=true∨X.env.scope.names.lookup x=some .local:=by first|exact .inl rfl|exact .inr rfl|assumption) (fy':X.fn y=true∨X.env.scope.names.lookup y=some .local:=by first|exact .inl rfl|exact .inr rfl|assumption)
  (h1:(assignEach [.Tuple [.Name x px,.Name y py] kt pt] X.env).map (·.2)=[Gv (.Tuple [.Name x px,.Name y py] kt pt) X.env]:=by rfl)
  (he:Aj (a::[b]) X.env=(false,eval a X.env)::Aj [b] X.env:=by rfl) (he2:Aj (b::[]) X.env=(false,eval b X.env)::Aj [] X.env:=by rfl):
  PS X (.Assign [.Tuple [.Name x px,.Name y py] kt pt] (.Tuple [a,b] k2 pt2) pos) (TZ K ml (OK i j fx fy)):=
 (LF (G9 (cE ha (cE hb aH he2) he)) (zAQ (K := K) hK hc (WM (UE hN hi hx fx') (WM (UE hN hj hy fy') LC g2) g1) hn hst) hs hw h1).imp fun D σ H hq0 => by
  obtain⟨B,O,δ,o,S,q,k⟩:=hq0;unfold OK at q;obtain⟨⟨s,δ1⟩,h1,q⟩:=Aa.mp q;cases h2:fy δ1 with
  |none=>simp[h2] at q
  |some p2=>
   obtain⟨s2,δ2⟩:=p2;simp only[Av,h2] at q;split at q
   ·rename_i hl
    cases q;refine⟨B,O,δ,s,δ1,S,h1,fun v H1 B1 S1 w1 f1=>⟨B1,O,δ1,s2,δ2,S1,h2,fun v2 H2 B2 S2 w2 f2=>⟨(by show 2<=sizeLine;decide),fun p hp=>⟨p,_,rfl,WS.of cS,rfl,v,_,rfl,v2,_,rfl,rfl,?_⟩⟩⟩⟩;have f4:Fr (OA O) H2 (bN H2 p (.tup [v,v2])):=(c8 hp).fr;obtain⟨O3,S3⟩:=(w2.fr f4).bind (S2.same (c8 hp)) hmj hl.2;obtain⟨O4,S4⟩:=((w1.fr f2).fr f4).bind S3 hmi (by rw[Cc];exact hl.1);rw[Eg _ _ (Dr hij)] at S4;exact k _ _ _ S4
   ·cases q
end
section
variable{prog:Bq}{w:World}{A:Cz}{E:Value->Af->Prop}{s:Af}
theorem T1{it t:Addr}{i:Nat}{items:Array Value}{x:Value}{Q:Value->Af->Prop}(hit:s.heap.IsTupleIter it t i)(ht:s.heap.IsTuple t items)(hx:items[i]? =some x)
  (hQ: ∀h',h'.IsTupleIter it t (i+1)->Fk it s.heap h'->Q x {s with heap:=h'}):wpAny (model prog w) A (Ca (.ref it)) Q E s:=by
 obtain⟨oi,g1,c1,d1⟩:=id hit;obtain⟨ot,g2,_,nt,d2⟩:=ht;unfold Ca;refine Ac (Dq (name:=At "__next__") hit.typeIs Fh (Dn Fh hit.typeIs Js ?_ (Jh _)));show wpAny _ _ (field (Bo it) 0>>=_) _ _ s;refine Ac (Dy g1 d1 (x:= .ref t) rfl ?_);show wpAny _ _ (if(Bo t== .none)=true then _ else _) _ _ s;rw[if_neg (show¬(Bo t==Value.none)=true from Dt)];show wpAny _ _ (field (Bo it) 1>>=_) _ _ s;refine Ac (Dy g1 d1 (x:= .int i 0) rfl ?_);show wpAny _ _ (seqItems? (Bo t)>>=_) _ _ s;refine Ac (Ex g2 d2 ?_);simp only[hx,El];refine Ac (wpAny_setField g1 d1 (by simp) (Ak ⟨x,rfl,Ak (hQ _ ⟨_,Heap.get?_update_self _ g1 (Obj.isFreed_of_fields (Nx d1 _)),(Obj.cls_mapFields ..).trans c1,?_⟩ (Nf ..))⟩));rw[Nx d1];simp[rawInt]
theorem R0{it t:Addr}{i:Nat}{items:Array Value}{Q:Value->Af->Prop}(hh:A.handled=none)(hit:s.heap.IsTupleIter it t i)(ht:s.heap.IsTuple t items)(hx:items[i]? =none)
  (hE: ∀h' e,Jr it s.heap h'->(∃o,h'.get? e=some o/\o.cls= .type "StopIteration")->E (.ref e) {s with heap:=h'}):wpAny (model prog w) A (Ca (.ref it)) Q E s:=by
 obtain⟨oi,g1,c1,d1⟩:=id hit;obtain⟨ot,g2,_,nt,d2⟩:=ht;unfold Ca;refine Ac (Dq (name:=At "__next__") hit.typeIs Fh (Dn Fh hit.typeIs Js ?_ (Jh _)));show wpAny _ _ (field (Bo it) 0>>=_) _ _ s;refine Ac (Dy g1 d1 (x:= .ref t) rfl ?_);show wpAny _ _ (if(Bo t== .none)=true then _ else _) _ _ s;rw[if_neg (show¬(Bo t==Value.none)=true from Dt)];show wpAny _ _ (field (Bo it) 1>>=_) _ _ s;refine Ac (Dy g1 d1 (x:= .int i 0) rfl ?_);show wpAny _ _ (seqItems? (Bo t)>>=_) _ _ s;refine Ac (Ex g2 d2 ?_);simp only[hx,El];refine Ac (Hj (Ac (wpAny_setField g1 d1 (by simp) ?_)));show wpAny _ _ (newExc (Kr "StopIteration") []>>=_) _ _ _;refine Ac ?_;unfold newExc newTuple;refine Ac (Cr ?_ (by size_fits));refine Ac (m:=firstArgMember _ _) (Ik (a:=Value.none) (by first|rfl|(unfold firstArgMember;rfl)) (Cr ?_ (by size_fits)));unfold raiseNew;refine Ac (wpAny_handled ?_);first|rw[hh]|rw[show A.in1.handled=none from hh]
 refine Ac (Ak (wpAny_throw (hE _ _ (((Nf ..).extBut.push _).push _) ⟨_,As _ rfl,rfl⟩)))
end
theorem DA{prog:Bq}{w:World}{A:Cz}(hh:A.handled=none)(it t:Addr)(hne:t≠it)(items:Array Value):
  Draws prog w A it [it,t] items.size (fun i v=>items[i]? =some v) (fun i h=>h.IsTupleIter it t i/\h.IsTuple t items) where
 live:=fun _ _ st=>let ⟨o,ho,_⟩:=st.1;⟨o,ho⟩
 frame:=fun _ _ _ st hk=>⟨st.1.at fun o e=>hk it (by simp) o e,by obtain⟨o,ho,r⟩:=st.2;exact⟨o,hk t (by simp) o ho,r⟩⟩
 item:=fun i s Q E hi st hQ=>T1 st.1 st.2 (x:=items[i]) (by simp[hi]) fun h' a b=>hQ _ h' s.toks (by simp[hi]) ⟨a,st.2.extBut b.extBut hne⟩ b
 done:=fun s Q E st hE=>R0 hh st.1 st.2 (by simp) hE
section
variable{X:Cx}{aa:List (Addr×Obj)}{σ:St}{H:Hp}{s:Af}{h':Heap}
theorem cT.turnedL{t':Nat}{fp:List Addr}(I:cT X aa σ H s)(k: ∀b o,b∉fp->s.heap.get? b=some o->h'.get? b=some o)(there: ∀b∈fp,∃o,h'.get? b=some o)(hf: ∀b∈fp,PN X aa H b):cT X aa σ H {s with heap:=h',toks:=t'}:=by
 have nit: ∀b u,H b=some u->b∉fp:=fun b u e z=>by rw[(hf b z).1] at e;cases e
 have hL:X.env.locals∉fp:=fun z=>(hf _ z).2.1 rfl;refine I.step (g':=s.gens) (d':=s.drawn) (ch:=fp) (fun b hb=> ?_) (fun b o _ _ hc e _=>k b o hc e) (fun b o _ _ hc e _=>⟨o.slots,k b o hc e⟩) (fun _ _ _ _ n=>n)
  (fun b o hc e=>⟨o,k b o hc e⟩) (fun _ _ e=>e) (fun _ _ _ e=>e) (fun b ps e=>⟨#[],by rw[e];simp⟩) (fun m hm=> ?_) (fun b u e=> ?_) I.bare
 ·obtain⟨_,f1,f2,f3,f4,f5⟩:=hf b hb
  exact⟨f3,f1,f4,f5⟩
 ·obtain⟨o,es,ep,ho,r⟩:=hm
  exact⟨o,es,ep,k _ o hL ho,r⟩
 ·refine (I.hok b u e).stay (fun c v hc q => k c v ?_ q) (fun _ q => q) fun _ _ q => q
  rcases hc with z|z
  ·rw[z];exact nit b u e
  ·exact nit c _ z
end
section
variable{X:Cx}{aa:List (Addr×Obj)}{σ:St}{H:Hp}{s:Af}{h':Heap}
theorem cT.turnedL'{t':Nat}{fp:List Addr}(I:cT X aa σ H s)(k: ∀b o,b∉fp->s.heap.get? b=some o->h'.get? b=some o)(hf: ∀b∈fp,PN X aa H b):cT X aa σ H {s with heap:=h',toks:=t'}:=by
 have nit: ∀b u,H b=some u->b∉fp:=fun b u e z=>by rw[(hf b z).1] at e;cases e
 have hL:X.env.locals∉fp:=fun z=>(hf _ z).2.1 rfl;refine I.step (g':=s.gens) (d':=s.drawn) (ch:=fp) (fun b hb=> ?_) (fun b o _ _ hc e _=>k b o hc e) (fun b o _ _ hc e _=>⟨o.slots,k b o hc e⟩) (fun _ _ _ _ n=>n)
  (fun b o hc e=>⟨o,k b o hc e⟩) (fun _ _ e=>e) (fun _ _ _ e=>e) (fun b ps e=>⟨#[],by rw[e];simp⟩) (fun m hm=> ?_) (fun b u e=> ?_) I.bare
 ·obtain⟨_,f1,f2,f3,f4,f5⟩:=hf b hb
  exact⟨f3,f1,f4,f5⟩
 ·obtain⟨o,es,ep,ho,r⟩:=hm
  exact⟨o,es,ep,k _ o hL ho,r⟩
 ·refine (I.hok b u e).stay (fun c v hc q => k c v ?_ q) (fun _ q => q) fun _ _ q => q
  rcases hc with z|z
  ·rw[z];exact nit b u e
  ·exact nit c _ z
end
def LU(K:Ar)(tup:Bool)(H:Hp)(a:Addr)(xs:List V):Prop:=if tup=true then WS K H a xs else X5 K H a xs
def RD(tup:Bool)(h:Heap)(a:Addr)(items:Array Value):Prop:=if tup=true then h.IsTuple a items else h.IsList a items
def VC(tup:Bool)(h:Heap)(it a:Addr)(i:Nat):Prop:=if tup=true then h.IsTupleIter it a i else h.IsListIter it a i
theorem zB8{prog:Bq}{w:World}{A:Cz}(hh:A.handled=none)(tup:Bool)(it t:Addr)(hne:t≠it)(items:Array Value):
  Draws prog w A it [it,t] items.size (fun i v=>items[i]? =some v) (fun i h=>VC tup h it t i/\RD tup h t items):=by
 cases tup with
 |true=>exact DA hh it t hne items
 |false=>exact Draws.list hh it t hne items
theorem RD.lt{tup:Bool}{h:Heap}{a:Addr}{items:Array Value}(s:RD tup h a items):a<h.objs.size:=by
 cases tup with
 |true=>obtain⟨o,e,_⟩:=s;exact An e
 |false=>obtain⟨o,e,_⟩:=s;exact An e
theorem cT.srcA{X:Cx}{aa:List (Addr×Obj)}{σ:St}{H:Hp}{s:Af}{a:Addr}{xs:List V}{tup:Bool}(I:cT X aa σ H s)(h:LU X.K tup H a xs): ∃its:List Value,b5 xs its/\RD tup s.heap a its.toArray/\xs.length<=sizeLine:=by
 cases tup with
 |true=>
  obtain⟨its,r,p,z⟩:=I.tuple h;exact⟨its,r,p,z⟩
 |false=>
  obtain⟨its,r,p,z⟩:=I.list h;exact⟨its,r,p.isList,z⟩
theorem cT.sq_inj{X:Cx}{aa:List (Addr×Obj)}{σ:St}{H:Hp}{s:Af}{a:Addr}{xs ys:List V}{tup:Bool}(I:cT X aa σ H s)(h:LU X.K tup H a xs)(h':LU X.K tup H a ys):xs=ys:=by
 cases tup with
 |true=>exact I.tuple_inj h h'
 |false=>exact I.list_inj h h'
theorem VC.at{tup:Bool}{h h':Heap}{it a:Addr}{i:Nat}(st:VC tup h it a i)(k: ∀o,h.get? it=some o->h'.get? it=some o):VC tup h' it a i:=by
 cases tup with
 |true=>exact Heap.IsTupleIter.at st k
 |false=>exact Heap.IsListIter.at st k
theorem VC.obj{tup:Bool}{h:Heap}{it a:Addr}{i:Nat}(st:VC tup h it a i): ∃o,h.get? it=some o/\ ∀v,o.data≠ .cell v:=by
 cases tup with
 |true=>
  obtain⟨o,e,c,d⟩:=st;exact⟨o,e,fun v z=>by rw[d] at z;cases z⟩
 |false=>
  obtain⟨o,e,c,d⟩:=st;exact⟨o,e,fun v z=>by rw[d] at z;cases z⟩
noncomputable def Ite(K:Ar)(tup:Bool)(a:Addr):It:=
 ⟨fun i H=> ∃xs x,LU K tup H a xs/\xs[i]? =some x,fun i H v H'=> ∃p x,(∀xs,LU K tup H a xs->xs[i]? =some x)/\H p=none/\H'=bN H p (.tup [.int i,x])/\v= .ref p,fun i H=> ∃xs,LU K tup H a xs/\xs.length=i⟩
theorem EB{P:Bq}{w:World}{K:Ar}{es:List Expr}{k:Nat}{pos:Pos}(tup:Bool)(a e it:Addr)(hei:e≠it)(hae:a≠e)(hai:a≠it):
  KI P w K (.Tuple es k pos) (Ite K tup a) [e,it] e (fun i h=>(∃old,IsEnum h e it i old)/\VC tup h it a i) where
 mem:=by simp
 obj:=fun i h st b hb=>by
  obtain⟨⟨old,he⟩,hi⟩:=st;rcases Ai.mp hb with z|z
  ·subst z
   exact⟨_,he,fun v z=>by cases z⟩
  ·have:=Bb.mp z
   subst this;exact hi.obj
 keep:=fun i h h' st kk=>by
  obtain⟨⟨old,he⟩,hi⟩:=st;exact⟨⟨old,kk e (by simp) _ he⟩,hi.at fun o q=>kk it (by simp) o q⟩
 item:=by
  intro X hP hw hK hc i aa s σ H E I hf st hg;subst hP hw hK;obtain⟨⟨old,he⟩,hi⟩:=st;obtain⟨xs,x,hq,hx⟩:=hg;obtain⟨its,rv,src,hz⟩:=I.srcA hq;have hlt:i<its.toArray.size:=by
   have:=(Ag.mp hx).1;have:=rv.length;simp only[Aw];lia
  have hh:X.A.in1.handled=none:=I.ok.hd hc;refine wpAny_pyNext_enum_itemD (zB8 hh tup it a hai its.toArray) he ⟨hi,src⟩ hlt hei (by simp[hei,Dr hae]) fun u h1 tk hu ho st1 ht hsz hk=>⟨_,rfl,?_⟩;refine wpAny_letOwnedTupleGo_enum (s:={s with heap:=h1,toks:=tk+1}) ho fun h2 he2 sb2=> ?_;have sb2:Fk e h1 h2:=sb2;obtain⟨u',hu',ru⟩:=rv.get hx;have hu:its.toArray[i]? =some u:=hu;rw[List.getElem?_toArray,hu'] at hu;have hu:=Ck hu;subst hu;have kk: ∀b o,b∉[e,it]->s.heap.get? b=some o->h2.get? b=some o:=fun b o hb q=>by
   have h1b:b≠e:=fun z=>hb (by simp[z]);have h2b:b≠it:=fun z=>hb (by simp[z]);exact(sb2.2 b h1b).trans (hk b o h1b h2b q)
  have dg:h2.get? s.heap.objs.size=some {cls:= .type "tuple",data:= .seq #[.int i tk,u']}:=(sb2.2 _ (Gw (An he))).trans ht;have az:H s.heap.objs.size=none:=I.hok.fresh (Ah _);have gu: ∀b∈[e,it],b<s.heap.objs.size:=fun b hb=>by
   rcases Ai.mp hb with z|z
   ·rw[z];exact An he
   ·rw[Bb.mp z]
    obtain⟨o,q,_⟩:=hi.obj;exact An q
  have I0:cT X aa σ (bN H s.heap.objs.size (.tup [.int i,x])) {s with heap:=s.heap.push {cls:= .type "tuple",data:= .seq #[.int i tk,u']},toks:=tk}:=
   I.laid (fun b o q=>Ad _ q) (Ah _) ⟨by show 2<=sizeLine;decide,[.int i tk,u'],.cons ⟨tk,rfl⟩ (.cons ru .nil),Ks _ _⟩
  have I1:cT X aa σ (bN H s.heap.objs.size (.tup [.int i,x])) {s with heap:=h2,toks:=tk+1}:=by
   refine cT.turnedL (s:={s with heap:=s.heap.push {cls:= .type "tuple",data:= .seq #[.int i tk,u']},toks:=tk}) (h':=h2) (t':=tk+1) (fp:=[e,it]) I0 (fun b o hb q=> ?_) (fun b hb=> ?_) fun b hb=>⟨by rw[cH (Be (gu b hb))];exact(hf b hb).1,(hf b hb).2⟩
   ·by_cases hbn:b=s.heap.objs.size
    ·subst hbn
     have q:(s.heap.push {cls:= .type "tuple",data:= .seq #[.int i tk,u']}).get? s.heap.objs.size=some o:=q;rw[As _ rfl] at q;cases q;exact dg
    ·exact kk b o hb ((Il _ _ _ hbn).symm.trans q)
   ·rcases Ai.mp hb with z|z
    ·rw[z];exact⟨_,he2⟩
    ·rw[Bb.mp z]
     obtain⟨o,q,_⟩:=st1.1.obj;exact⟨o,(sb2.2 it (Dr hei)).trans q⟩
  refine⟨.ref s.heap.objs.size,bN H s.heap.objs.size (.tup [.int i,x]),?_,rfl,⟨_,x,fun ys hy=>by rw[I.sq_inj hy hq];exact hx,az,rfl,rfl⟩,⟨⟨_,by simpa using he2⟩,st1.1.at fun o q=>(sb2.2 it (Dr hei)).trans q⟩,fun b hb=> ?_⟩
  ·exact I1
  ·rw[cH (Be (gu b hb))]
   exact(hf b hb).1
 done:=by
  intro X hP hw hK hc i aa s σ H E I hf st hg;subst hP hw hK;obtain⟨⟨old,he⟩,hi⟩:=st;obtain⟨xs,hq,hx⟩:=hg;obtain⟨its,rv,src,hz⟩:=I.srcA hq;have hh:X.A.in1.handled=none:=I.ok.hd hc;have hn:its.toArray.size=i:=by rw[Aw,<- rv.length];exact hx
  refine wpAny_pyNext_enum_endD (zB8 hh tup it a hai its.toArray) he ⟨by rw[hn];exact hi,src⟩ fun h1 xb=>⟨rfl,?_⟩;obtain⟨f0,f1,f2,f3,f4,f5⟩:=hf it (by simp);exact I.turned (t':=s.toks) (fun b o hb q=>xb b o hb q) f0 f1 f3 f4 f5
 self:=fun _ i _ _ _ st h=>Ov st.1.choose_spec h
theorem DC(a:Addr)(items:Array Value)(n:Nat)(dd:Option Addr)(sl:Array (Option Value)):
  Meets (Kl.«enumerate.__new__» ⟨[.type "enumerate",.ref a],[]⟩) (fun _ R s=>s.heap.get? a=some {cls:= .type "tuple",dict:=dd,data:= .seq items n,slots:=sl}∧
   R (.ok (.ret (.ref (s.heap.push {cls:= .type "tuple_iterator",data:= .fields #[.ref a,.int 0 0]}).objs.size)))
    {s with heap:=(s.heap.push {cls:= .type "tuple_iterator",data:= .fields #[.ref a,.int 0 0]}).push {cls:= .type "enumerate",data:= .fields #[.none,.bool false,.ref s.heap.objs.size,rawInt 0,.none,.none]}}):=by
 refine .of_wp fun prog w A R s h=> ?_;obtain⟨hp,g,d,tk,os⟩:=s;obtain⟨ha,h⟩:=h;have hs:=sub_enumerate;have hT:Heap.IsTuple (Qj ⟨hp,g,d,tk,os⟩) a items:=⟨_,ha,rfl,n,rfl⟩;wp_walk using Hl ha
 refine wpAny_stack_any fun st=>Ak ?_;split
 ·rename_i c _ _ _ _ _
  cases (c==Kr "enumerate")<;>(wp_walk using Hl ha,Hq hT;exact⟨_,rfl,h⟩)
 ·wp_walk using Hl ha,Hq hT
  exact⟨_,rfl,h⟩
theorem GQ{prog:Bq}{w:World}{A:Cz}{E:Value->Af->Prop}{s:Af}{a:Addr}{items:Array Value}{tup:Bool}{Q:Value->Af->Prop}(hs:RD tup s.heap a items)
  (h: ∀h',IsEnum h' (s.heap.objs.size+1) s.heap.objs.size 0 .none->VC tup h' s.heap.objs.size a 0->(∀b o,s.heap.get? b=some o->h'.get? b=some o)->Q (.ref (s.heap.objs.size+1)) {s with heap:=h'}):
  wpAny (model prog w) A (call (.type "enumerate") [.ref a]) Q E s:=by
 cases tup with
 |false=>exact call_enumerate_list hs fun h' a1 a2 _ a4=>h h' a1 a2 a4
 |true=>
  obtain⟨⟨cc,dd,dt,sl⟩,g1,hc,n,hd⟩:=hs;replace hc:cc= .type "tuple":=hc
  replace hd:dt= .seq items n:=hd
  subst hc hd;have hz:(s.heap.push {cls:= .type "tuple_iterator",data:= .fields #[.ref a,.int 0 0]}).objs.size=s.heap.objs.size+1:=Cv ..;refine callType_new F.called_enumerate (by decide) (F.typeCall_enumerate_1 _) (F.newCall_enumerate_1 _) (fun obj=>F.args_object_init_2 obj _) F.entry_enumerate_new (DC a items n dd sl) ⟨g1,?_⟩;show _/\_;rw[hz];have he:=As (s.heap.push {cls:= .type "tuple_iterator",data:= .fields #[.ref a,.int 0 0]}) (o:={cls:= .type "enumerate",data:= .fields #[.none,.bool false,.ref s.heap.objs.size,rawInt 0,.none,.none]}) rfl;rw[hz] at he;exact⟨⟨_,he,rfl⟩,h _ he ⟨_,Ad _ (As _ rfl),rfl,rfl⟩ fun b o x=>Ad _ (Ad _ x)⟩
theorem KL:Bj "enumerate"=some (.type "enumerate"):=by decide+kernel
theorem zH7:Bj "zip"=some (.type "zip"):=by decide+kernel
section
variable{X:Cx}{K:Ar}{ml:List Nat}{l:Expr}{pu:Bool}{f:VF}{p pos cw:Pos}{es:List Expr}{tk:Nat}{δ:Ev}
def iEnu(K:Ar)(tl:TE):TI:=fun σ H R=>tl σ H fun x H1=> ∃a tup,x= .ref a/\(∃xs,LU K tup H1 a xs)/\R (Ite K tup a) H1
theorem zC8{tl:TE}(hg:Gl X "enumerate") (hm:X.mg "enumerate"=none) (hl:PE X l tl) (he:Aj (l::[]) X.env=(false,eval l X.env)::Aj [] X.env:=by rfl):
  PI X (.Tuple es tk cw) (.Call (.Name "enumerate" p) [l] [] pos) (iEnu X.K tl):=by
 intro aa s σ H R I h;refine Gq (V0 I hg hm KL ?_ (by decide) (by decide));refine Cs (ZW (cE hl aH he pos aa s σ H (fun vs H1=>match vs with
  |[x]=> ∃a tup,x= .ref a/\(∃xs,LU X.K tup H1 a xs)/\R (Ite X.K tup a) H1
  |_=>False) I h) fun us s1 ⟨vs,H1,I1,r1,q1⟩=> ?_) he (by rfl)
 match vs,r1,q1 with
 |[x],r1,q1=>
  obtain⟨a,tup,rfl,⟨xs,hq⟩,hR⟩:=q1;obtain⟨u,rfl,ru⟩:=VN r1;cases ru;obtain⟨its,rv,src,_⟩:=I1.srcA hq;refine GQ src fun h' he' hi' kp=> ?_;have I2:cT X aa σ H1 {s1 with heap:=h'}:=I1.kept (t':=s1.toks) kp;have hn: ∀b,s1.heap.objs.size<=b->H1 b=none:=fun b hb=>I1.hok.fresh hb;refine Ov he' ⟨s1.heap.objs.size+1,[s1.heap.objs.size+1,s1.heap.objs.size],_,Ite X.K tup a,H1,rfl,I2,EB tup a (s1.heap.objs.size+1) s1.heap.objs.size (Nat.succ_ne_self _) (fun z=> ?_) (fun z=> ?_),⟨⟨_,he'⟩,hi'⟩,fun b hb=> ?_,hR⟩
  ·have:=src.lt
   rw[z] at this;exact absurd this (Nat.not_lt_of_le (Fa _))
  ·have:=src.lt
   rw[z] at this;exact absurd this (Cd _)
  ·have hb':s1.heap.objs.size<=b:=by
    rcases Ai.mp hb with z|z
    ·rw[z];exact Fa _
    ·rw[Bb.mp z];exact Ah _
   exact I1.fpOk hb' (hn b hb')
theorem zGO(h:X.K=K){tl:TE}(hg:Gl X "enumerate") (hm:X.mg "enumerate"=none) (hl:PE X l tl) (he:Aj (l::[]) X.env=(false,eval l X.env)::Aj [] X.env:=by rfl):
  PI X (.Tuple es tk cw) (.Call (.Name "enumerate" p) [l] [] pos) (iEnu K tl):=by subst h;exact zC8 hg hm hl he
noncomputable def YX:Nat->List dF->List dF
 |_,[]=>[]
 |i,d::ds=> .tup [.int i,d]::YX (i+1) ds
noncomputable def RS(f:VF):VI:=fun δ=>(f δ).bind fun p=>(X1 p.1).map fun ds=>(YX 0 ds,p.2)
theorem NR: ∀{ds:List dF} {n i:Nat} {d:dF},(YX n ds)[i]? =some d-> ∃x,ds[i]? =some x/\d= .tup [.int (n+i:Nat),x]
 |[],_,_,_,h=>by simp[YX] at h
 |x::ds,n,0,d,h=>by simp[YX] at h;exact⟨x,rfl,h.symm⟩
 |x::ds,n,i+1,d,h=>by
  have h:(YX (n+1) ds)[i]? =some d:=by simpa[YX] using h
  obtain⟨y,h1,h2⟩:=NR h;exact⟨y,by simpa using h1,by rw[h2,show n+1+i=n+(i+1) by lia]⟩
theorem NS: ∀(ds:List dF) (n:Nat),(YX n ds).length=ds.length
 |[],_=>rfl
 |_::ds,n=>congrArg (· +1) (NS ds (n+1))
theorem MZ{a:Addr}{tup:Bool}{ds:List dF}:C0 K (Ite K tup a) [(.ref a,if tup=true then .tup ds else .lst ds)] (YX 0 ds):=by
 intro N H h;have r:=h _ (Bb.mpr rfl);have fin: ∀xs,LU K tup H a xs->cO K N H xs ds->(∀(i:Nat) (d:dF),(YX 0 ds)[i]? =some d->(Ite K tup a).go i H/\ ∀x H',(Ite K tup a).yld i H x H'->bI H H'/\bR K N H' N x d)/\(Ite K tup a).stop (YX 0 ds).length H:=fun xs sq r=>by
  refine⟨fun i d e=> ?_,xs,sq,by rw[r.length,NS]⟩;obtain⟨z,e1,rfl⟩:=NR e;obtain⟨x,e2,r1⟩:=r.get e1;refine⟨⟨xs,x,sq,e2⟩,fun y H' hy=> ?_⟩;obtain⟨p,x',e3,hp,rfl,rfl⟩:=hy;have:=e3 xs sq;rw[e2] at this;cases this;refine⟨c8 hp,.tup (WS.of cS) (.cons ?_ (.cons (r1.same (c8 hp)) .nil))⟩;rw[Ew];exact .int _
 cases tup with
 |true=>
  have r:bR K N H N (.ref a) (.tup ds):=r;cases r with
  |tup sq r=>exact fin _ sq r
 |false=>
  have r:bR K N H N (.ref a) (.lst ds):=r;cases r with
  |lst q n r=>exact fin _ (X5.of q) r
  |fzl q r=>exact fin _ q.sq r
theorem PL(hK:X.K=K)(hg:Gl X "enumerate") (hm:X.mg "enumerate"=none) (h:PE X l (TV K ml pu true true f)) (he:Aj (l::[]) X.env=(false,eval l X.env)::Aj [] X.env:=by rfl):
  PI X (.Tuple es tk cw) (.Call (.Name "enumerate" p) [l] [] pos) (CI K ml pu (RS f)):=(zGO (K:=K) hK hg hm h he).imp fun σ H R hq0=>by
 obtain⟨B,O,δ,ds,δ',S,q,k⟩:=hq0;unfold RS at q;obtain⟨⟨x,δ1⟩,h1,q⟩:=Aa.mp q;refine⟨B,O,δ,x,δ1,S,h1,fun v H1 R1=> ?_⟩;cases x with
 |lst ds'=>
  cases q;obtain⟨a,xs,rfl,sq,r⟩:=R1.rep.lstE;exact⟨a,false,rfl,⟨xs,sq⟩,k _ [(.ref a,.lst ds')] H1 (R1.sta.keepV fun p hp=>by rw[Bb.mp hp];exact R1.rep) R1.frm R1.pur (MZ (tup:=false))⟩
 |tup ds'=>
  cases q;obtain⟨a,xs,rfl,sq,r⟩:=R1.rep.tupE;exact⟨a,true,rfl,⟨xs,sq⟩,k _ [(.ref a,.tup ds')] H1 (R1.sta.keepV fun p hp=>by rw[Bb.mp hp];exact R1.rep) R1.frm R1.pur (MZ (tup:=true))⟩
 |_=>cases q
end
section
variable{prog:Bq}{w:World}{A:Cz}{E:Value->Af->Prop}{s:Af}
theorem VC.ext{tup:Bool}{h h':Heap}{it a b:Addr}{i:Nat}(x:VC tup h it a i)(hs:Jr b h h')(hne:it≠b):VC tup h' it a i:=x.at fun o e=>hs _ _ hne e
theorem RD.ext{tup:Bool}{h h':Heap}{a b:Addr}{xs:Array Value}(x:RD tup h a xs)(hs:Jr b h h')(hne:a≠b):RD tup h' a xs:=by
 cases tup with
 |true=>obtain⟨o,e,r⟩:=x;exact⟨o,hs _ _ hne e,r⟩
 |false=>obtain⟨o,e,r⟩:=x;exact⟨o,hs _ _ hne e,r⟩
theorem TJ{tup:Bool}{it a:Addr}{i:Nat}{xs:Array Value}{x:Value}{Q:Value->Af->Prop}(hi:VC tup s.heap it a i)(hs:RD tup s.heap a xs)(hx:xs[i]? =some x)
  (hQ: ∀h',VC tup h' it a (i+1)->Fk it s.heap h'->Q x {s with heap:=h'}):wpAny (model prog w) A (Ca (.ref it)) Q E s:=by
 cases tup with
 |true=>exact T1 hi hs hx hQ
 |false=>exact wpAny_nextOf_list_item hi hs hx hQ
theorem MG{tup:Bool}{it a:Addr}{i:Nat}{xs:Array Value}{Q:Value->Af->Prop}(hh:A.handled=none)(hi:VC tup s.heap it a i)(hs:RD tup s.heap a xs)(hx:xs[i]? =none)
  (hE: ∀h' e,Jr it s.heap h'->(∃o,h'.get? e=some o/\o.cls= .type "StopIteration")->E (.ref e) {s with heap:=h'}):wpAny (model prog w) A (Ca (.ref it)) Q E s:=by
 cases tup with
 |true=>exact R0 hh hi hs hx hE
 |false=>exact wpAny_nextOf_list_end hh hi hs hx hE
structure ZSt(t1 t2:Bool)(h:Heap)(z p q i1 i2 a b:Addr)(k:Nat)(f0:Value):Prop where
 zip:IsZip h z p q f0
 its:IsPair h p (.ref i1) (.ref i2)
 res: ∃u v,IsPair h q u v
 one:VC t1 h i1 a k
 two:VC t2 h i2 b k
theorem EL{t1 t2:Bool}{z p q i1 i2 a b:Addr}{k:Nat}{xs ys:Array Value}{x y:Value}{Q:Value->Af->Prop}(D:Mr z p q i1 i2 a b)(S:ZSt t1 t2 s.heap z p q i1 i2 a b k .none)
  (s1:RD t1 s.heap a xs) (s2:RD t2 s.heap b ys) (hx:xs[k]? =some x) (hy:ys[k]? =some y)
  (hQ: ∀h',ZSt t1 t2 h' z p q i1 i2 a b (k+1) (rawInt s.heap.objs.size)->IsPair h' s.heap.objs.size x y->h'.objs.size=s.heap.objs.size+1→
   (∀c o,c≠z->c≠q->c≠i1->c≠i2->s.heap.get? c=some o->h'.get? c=some o)->Q (.ref s.heap.objs.size) {s with heap:=h'}):
  wpAny (model prog w) A (Kl.«zip.__next__» ⟨[.ref z],[]⟩) (fun fin s'=> ∃v,fin= .done (.ret v)/\Q v s') E s:=by
 obtain⟨gz,gi,⟨u,v,gr⟩,g1,g2⟩:=S;show wpAny _ _ (field (Bo z) 2>>=_) _ _ _;refine Ac (Dy gz rfl (x:= .bool false) rfl ?_);show wpAny _ _ (field (Bo z) 3>>=_) _ _ _;refine Ac (Dy gz rfl (x:= .ref p) rfl (Ac (Ex gi rfl ?_)));show wpAny _ _ (Dz (Bo z)>>=_) _ _ _;refine Ac ?_
 (unfold Dz)
 refine Ac (Dy gz rfl (x:= .none) rfl (Ak ?_));simp only[if_true];refine Ac (Hj (Ac (Dy gz rfl (x:= .ref q) rfl (Ac (Fo gz (by simp) fun ha za ba=>Ac ?_)))));have za:IsZip ha z p q .ellipsis:=za;simp only[Qk,Pp,Na,Jq];refine Ac (Ac (Lj ?_));show wpAny _ _ (Ca (Bo i1)>>=_) _ _ _;refine Ac (TJ (g1.ext ba.extBut D.i1z) (s1.ext ba.extBut D.l1z) hx fun hb n1 bb=>Ak ?_);have rb:IsPair hb q u v:=bb.extBut _ _ D.TOi1 (ba.extBut _ _ D.TOz gr);refine Ac (Ex rb rfl (Ac (Jd rb fun hc rc bc=>Ac (Ql (Ak ?_)))));have rc:IsPair hc q x v:=rc;refine Ac (Ac (Lj ?_));show wpAny _ _ (Ca (Bo i2)>>=_) _ _ _;refine Ac (TJ (((g2.ext ba.extBut D.i2z).ext bb.extBut D.i12.symm).ext bc.extBut D.TOi2.symm) (((s2.ext ba.extBut D.l2z).ext bb.extBut D.l2i1).ext bc.extBut D.l2TO) hy fun hd n2 bd=>Ak ?_);have rd:IsPair hd q x v:=bd.extBut _ _ D.TOi2 rc;refine Ac (Ex rd rfl (Ac (Jd rd fun he re be=>Ac (Ql (Ak (Ak ?_))))));have re:IsPair he q x y:=re;refine Ac (Ex re rfl (Ac (wpAny_newTuple ?_)));have size:he.objs.size=s.heap.objs.size:=by rw[be.1,bd.1,bc.1,bb.1,ba.1]
 have ze:IsZip he z p q .ellipsis:=be.extBut _ _ D.TOz.symm (bd.extBut _ _ D.i2z.symm (bc.extBut _ _ D.TOz.symm (bb.extBut _ _ D.i1z.symm za)));have ke: ∀c o,c≠z->c≠q->c≠i1->c≠i2->s.heap.get? c=some o->he.get? c=some o:=fun c o c1 c2 c3 c4 g=>be.extBut _ _ c2 (bd.extBut _ _ c4 (bc.extBut _ _ c2 (bb.extBut _ _ c3 (ba.extBut _ _ c1 g))));have e1:VC t1 he i1 a (k+1):=((n1.ext bc.extBut D.TOi1.symm).ext bd.extBut D.i12).ext be.extBut D.TOi1.symm;have e2:VC t2 he i2 b (k+1):=n2.ext be.extBut D.TOi2.symm;have ie:IsPair he p (.ref i1) (.ref i2):=ke _ _ D.TIz D.TITO D.TIi1 D.TIi2 gi;have zlt:z<he.objs.size:=An ze;show wpAny _ _ (Hh (Bo z) (.ref he.objs.size)>>=_) _ _ _;refine Ac ?_
 (unfold Hh)
 have zf:IsZip (he.push {cls:= .type "tuple",data:= .seq #[x,y]}) z p q .ellipsis:=Ad _ ze;refine Ac (Fo zf (by simp) fun hg zg bg=> ?_);have zg:IsZip hg z p q (rawInt he.objs.size):=zg;refine Fo zg (by simp) fun hk zk bk=> ?_;have zk:IsZip hk z p q (rawInt he.objs.size):=zk;have up: ∀c o,c≠z->he.get? c=some o->hk.get? c=some o:=fun c o c1 g=>bk.extBut _ _ c1 (bg.extBut _ _ c1 (Ad _ g));have tk:IsPair hk he.objs.size x y:=bk.extBut _ _ (Gw zlt) (bg.extBut _ _ (Gw zlt) (As _ rfl));have szk:hk.objs.size=he.objs.size+1:=by rw[bk.1,bg.1,Cv]
 rw[size] at zk tk szk;refine Ak ⟨_,rfl,?_⟩;show Q (.ref he.objs.size) _;rw[size];exact hQ hk ⟨zk,up _ _ D.TIz ie,⟨x,y,up _ _ D.TOz re⟩,e1.at fun o g=>up _ o D.i1z g,e2.at fun o g=>up _ o D.i2z g⟩ tk szk fun c o c1 c2 c3 c4 g=>up c o c1 (ke c o c1 c2 c3 c4 g)
theorem CG{t1 t2:Bool}{z p q i1 i2 a b:Addr}{k:Nat}{xs ys:Array Value}{Q:Fin->Af->Prop}(hh:A.handled=none)(D:Mr z p q i1 i2 a b)(S:ZSt t1 t2 s.heap z p q i1 i2 a b k .none)
  (s1:RD t1 s.heap a xs) (s2:RD t2 s.heap b ys) (fu:xs[k]? =none∨ys[k]? =none)
  (hE: ∀h' e,(∀c o,c≠z->c≠q->c≠i1->c≠i2->s.heap.get? c=some o->h'.get? c=some o)->(∃o,h'.get? e=some o/\o.cls= .type "StopIteration")->E (.ref e) {s with heap:=h'}):
  wpAny (model prog w) A (Kl.«zip.__next__» ⟨[.ref z],[]⟩) Q E s:=by
 obtain⟨gz,gi,⟨u,v,gr⟩,g1,g2⟩:=S;show wpAny _ _ (field (Bo z) 2>>=_) _ _ _;refine Ac (Dy gz rfl (x:= .bool false) rfl ?_);show wpAny _ _ (field (Bo z) 3>>=_) _ _ _;refine Ac (Dy gz rfl (x:= .ref p) rfl (Ac (Ex gi rfl ?_)));show wpAny _ _ (Dz (Bo z)>>=_) _ _ _;refine Ac ?_
 (unfold Dz)
 refine Ac (Dy gz rfl (x:= .none) rfl (Ak ?_));simp only[if_true];refine Ac (Hj (Ac (Dy gz rfl (x:= .ref q) rfl (Ac (Fo gz (by simp) fun ha za ba=>Ac ?_)))));have za:IsZip ha z p q .ellipsis:=za;simp only[Qk,Pp,Na,Jq];refine Ac (Ac (Lj ?_));show wpAny _ _ (Ca (Bo i1)>>=_) _ _ _;cases hx:xs[k]? with
 |none=>
  refine Ac (MG hh (g1.ext ba.extBut D.i1z) (s1.ext ba.extBut D.l1z) hx fun hb e bb ⟨oe,ge,ce⟩=> ?_);have zb:IsZip hb z p q .ellipsis:=bb _ _ D.i1z.symm za;have ne:e≠z:=fun w=>by subst w;rw[zb] at ge;cases ge;simp at ce
  exact Fo zb (by simp) fun hc _ bc=>hE hc e (fun c o c1 _ c3 _ g=>bc.extBut _ _ c1 (bb _ _ c3 (ba.extBut _ _ c1 g))) ⟨oe,bc.extBut _ _ ne ge,ce⟩
 |some x=>
  have hy:ys[k]? =none:=fu.resolve_left fun w=>by rw[hx] at w;cases w
  refine Ac (TJ (g1.ext ba.extBut D.i1z) (s1.ext ba.extBut D.l1z) hx fun hb n1 bb=>Ak ?_);have rb:IsPair hb q u v:=bb.extBut _ _ D.TOi1 (ba.extBut _ _ D.TOz gr);refine Ac (Ex rb rfl (Ac (Jd rb fun hc rc bc=>Ac (Ql (Ak (Ac (Ac (Lj ?_))))))));show wpAny _ _ (Ca (Bo i2)>>=_) _ _ _;refine Ac (MG hh (((g2.ext ba.extBut D.i2z).ext bb.extBut D.i12.symm).ext bc.extBut D.TOi2.symm) (((s2.ext ba.extBut D.l2z).ext bb.extBut D.l2i1).ext bc.extBut D.l2TO) hy fun hd e bd ⟨oe,ge,ce⟩=> ?_);have zd:IsZip hd z p q .ellipsis:=bd _ _ D.i2z.symm (bc.extBut _ _ D.TOz.symm (bb.extBut _ _ D.i1z.symm za));have ne:e≠z:=fun w=>by subst w;rw[zd] at ge;cases ge;simp at ce
  exact Fo zd (by simp) fun hf _ bf=>hE hf e (fun c o c1 c2 c3 c4 g=>bf.extBut _ _ c1 (bd _ _ c4 (bc.extBut _ _ c2 (bb.extBut _ _ c3 (ba.extBut _ _ c1 g))))) ⟨oe,bf.extBut _ _ ne ge,ce⟩
theorem GZ{t1 t2:Bool}{z p q i1 i2 a b:Addr}{k:Nat}{xs ys:Array Value}{x y:Value}{Q:Option Value->Af->Prop}(D:Mr z p q i1 i2 a b)(S:ZSt t1 t2 s.heap z p q i1 i2 a b k .none)
  (s1:RD t1 s.heap a xs) (s2:RD t2 s.heap b ys) (hx:xs[k]? =some x) (hy:ys[k]? =some y)
  (hQ: ∀h',ZSt t1 t2 h' z p q i1 i2 a b (k+1) (rawInt s.heap.objs.size)->IsPair h' s.heap.objs.size x y->h'.objs.size=s.heap.objs.size+1→
   (∀c o,c≠z->c≠q->c≠i1->c≠i2->s.heap.get? c=some o->h'.get? c=some o)->Q (some (.ref s.heap.objs.size)) {s with heap:=h'}):wpAny (model prog w) A (pyNext (.ref z)) Q E s:=by
 have ty:s.TypeIs (.ref z) "zip":=⟨_,S.zip,rfl⟩
 (unfold pyNext)
 exact Ac (Ny (Dq (name:=At "__next__") ty Jt (Dn Jt ty Pq (EL D S s1 s2 hx hy fun h' a1 a2 a3 a4=>Ak (hQ h' a1 a2 a3 a4)) (Ow _))))
theorem DR{t1 t2:Bool}{z p q i1 i2 a b:Addr}{k:Nat}{xs ys:Array Value}{Q:Option Value->Af->Prop}(hh:A.handled=none)(D:Mr z p q i1 i2 a b)(S:ZSt t1 t2 s.heap z p q i1 i2 a b k .none)
  (s1:RD t1 s.heap a xs) (s2:RD t2 s.heap b ys) (fu:xs[k]? =none∨ys[k]? =none)
  (hQ: ∀h',(∀c o,c≠z->c≠q->c≠i1->c≠i2->s.heap.get? c=some o->h'.get? c=some o)->Q none {s with heap:=h'}):wpAny (model prog w) A (pyNext (.ref z)) Q E s:=by
 have ty:s.TypeIs (.ref z) "zip":=⟨_,S.zip,rfl⟩
 (unfold pyNext)
 refine Ac (Ny (Dq (name:=At "__next__") ty Jt (Dn Jt ty Pq (CG hh D S s1 s2 fu fun h' e kk ⟨o,ge,ce⟩=> ?_) (Ow _))));exact Ac (wpAny_isInstance (T:= "StopIteration") (b:=true) ⟨o,ge,ce⟩ isSubtype_stop (Ak (hQ _ kk)))
end
noncomputable def zJE(tup:Bool):String:=if tup=true then "tuple_iterator" else "list_iterator"
noncomputable abbrev zO(tup:Bool)(a:Addr):Obj:={cls:= .type (zJE tup),data:= .fields #[.ref a,.int 0 0]}
theorem zDW{prog:Bq}{w:World}{A:Cz}{E:Value->Af->Prop}{s:Af}{tup:Bool}{a:Addr}{xs:Array Value}{Q:Value->Af->Prop}(h:RD tup s.heap a xs)(hQ:Q (.ref s.heap.objs.size) {s with heap:=s.heap.push (zO tup a)}):
  wpAny (model prog w) A (pyIter (.ref a)) Q E s:=by
 cases tup with
 |true=>exact Hq h hQ
 |false=>exact Hc h hQ
theorem RD.push{tup:Bool}{h:Heap}{a:Addr}{xs:Array Value}(x:RD tup h a xs)(o:Obj):RD tup (h.push o) a xs:=by
 cases tup with
 |true=>obtain⟨o,e,r⟩:=x;exact⟨o,Ad _ e,r⟩
 |false=>obtain⟨o,e,r⟩:=x;exact⟨o,Ad _ e,r⟩
theorem CH(t1 t2:Bool)(a b:Addr)(xs ys:Array Value):
  Meets (Kl.«zip.__new__» ⟨[.type "zip",.ref a,.ref b],[]⟩) (fun _ R s=>RD t1 s.heap a xs/\RD t2 s.heap b ys/\ ∀h1 h2 h3 h4 h5,h1=s.heap.push (zO t1 a)->h2=h1.push (zO t2 b)->h3=h2.push {cls:= .type "tuple",data:= .seq #[.ref s.heap.objs.size,.ref h1.objs.size]}→
   h4=h3.push {cls:= .type "tuple",data:= .seq #[.none,.none]}->h5=h4.push {cls:= .type "zip",data:= .fields #[.none,.bool false,.bool false,.ref h2.objs.size,.ref h3.objs.size]}->R (.ok (.ret (.ref h4.objs.size))) {s with heap:=h5}):=by
 refine .of_wp fun prog w A R s h=> ?_;obtain⟨hp,g,d,tk,os⟩:=s;obtain⟨g1,g2,h⟩:=h;have hs:=sub_zip;have k1:RD t1 (Qj ⟨hp,g,d,tk,os⟩) a xs:=g1;have k2:RD t2 (Qj ⟨hp.push (zO t1 a),g,d,tk,os⟩) b ys:=RD.push g2 _;wp_walk using zDW k1,zDW k2
 exact⟨_,rfl,h _ _ _ _ _ rfl rfl rfl rfl rfl⟩
theorem C5{prog:Bq}{w:World}{A:Cz}{E:Value->Af->Prop}{s:Af}{t1 t2:Bool}{a b:Addr}{xs ys:Array Value}{Q:Value->Af->Prop}(g1:RD t1 s.heap a xs)(g2:RD t2 s.heap b ys)
  (h: ∀h',ZSt t1 t2 h' (s.heap.objs.size+4) (s.heap.objs.size+2) (s.heap.objs.size+3) s.heap.objs.size (s.heap.objs.size+1) a b 0 .none->(∀c o,s.heap.get? c=some o->h'.get? c=some o)->Q (.ref (s.heap.objs.size+4)) {s with heap:=h'}):
  wpAny (model prog w) A (call (.type "zip") [.ref a,.ref b]) Q E s:=by
 refine callType_new F.called_zip (by decide) (F.typeCall_zip_2 _ _) (F.newCall_zip_2 _ _) (fun obj=>F.args_object_init_3 obj _ _) F.entry_zip_new (CH t1 t2 a b xs ys) ⟨g1,g2,?_⟩;rintro h1 h2 h3 h4 h5 e1 e2 e3 e4 e5;have z1:h1.objs.size=s.heap.objs.size+1:=by rw[e1,Cv]
 have z2:h2.objs.size=s.heap.objs.size+2:=by rw[e2,Cv,z1]
 have z3:h3.objs.size=s.heap.objs.size+3:=by rw[e3,Cv,z2]
 have z4:h4.objs.size=s.heap.objs.size+4:=by rw[e4,Cv,z3]
 have u4: ∀c o,h4.get? c=some o->h5.get? c=some o:=fun c o q=>by rw[e5];exact Ad _ q
 have u3: ∀c o,h3.get? c=some o->h5.get? c=some o:=fun c o q=>u4 c o (by rw[e4];exact Ad _ q);have u2: ∀c o,h2.get? c=some o->h5.get? c=some o:=fun c o q=>u3 c o (by rw[e3];exact Ad _ q);have u1: ∀c o,h1.get? c=some o->h5.get? c=some o:=fun c o q=>u2 c o (by rw[e2];exact Ad _ q);have u0: ∀c o,s.heap.get? c=some o->h5.get? c=some o:=fun c o q=>u1 c o (by rw[e1];exact Ad _ q);have o5:h5.get? h4.objs.size=some {cls:= .type "zip",data:= .fields #[.none,.bool false,.bool false,.ref h2.objs.size,.ref h3.objs.size]}:=by rw[e5];exact As _ rfl
 have o4:h5.get? h3.objs.size=some {cls:= .type "tuple",data:= .seq #[.none,.none]}:=u4 _ _ (by rw[e4];exact As _ rfl);have o3:h5.get? h2.objs.size=some {cls:= .type "tuple",data:= .seq #[.ref s.heap.objs.size,.ref h1.objs.size]}:=u3 _ _ (by rw[e3];exact As _ rfl);have o2:h5.get? h1.objs.size=some (zO t2 b):=u2 _ _ (by rw[e2];exact As _ rfl);have o1:h5.get? s.heap.objs.size=some (zO t1 a):=u1 _ _ (by rw[e1];exact As _ rfl);show _/\_;rw[z2,z3,z4] at o5;rw[z3] at o4;rw[z1,z2] at o3;rw[z1] at o2;rw[z4];refine⟨⟨_,o5,rfl⟩,h _ ⟨o5,o3,⟨_,_,o4⟩,?_,?_⟩ u0⟩
 ·cases t1 with
  |true=>exact⟨_,o1,rfl,rfl⟩
  |false=>exact⟨_,o1,rfl,rfl⟩
 ·cases t2 with
  |true=>exact⟨_,o2,rfl,rfl⟩
  |false=>exact⟨_,o2,rfl,rfl⟩
theorem zE5(n a b:Nat)(ha:a<n)(hb:b<n):Mr (n+4) (n+2) (n+3) n (n+1) a b:=by
 have f: ∀x y:Nat,x<y∨y<x->x≠y:=fun x y h=>by lia
 exact⟨f _ _ (by lia),f _ _ (by lia),f _ _ (by lia),f _ _ (by lia),f _ _ (by lia),f _ _ (by lia),f _ _ (by lia),f _ _ (by lia),f _ _ (by lia),f _ _ (by lia),f _ _ (by lia),f _ _ (by lia),f _ _ (by lia),f _ _ (by lia),f _ _ (by lia),f _ _ (by lia),f _ _ (by lia),f _ _ (by lia)⟩
noncomputable def Itz(K:Ar)(t1 t2:Bool)(a b:Addr):It:=
  ⟨fun i H => ∃ xs ys x y,LU K t1 H a xs /\ LU K t2 H b ys /\ xs[i]? = some x /\ ys[i]? = some y,
   fun i H v H'=> ∃p x y,(∀xs,LU K t1 H a xs->xs[i]? =some x)/\(∀ys,LU K t2 H b ys->ys[i]? =some y)/\H p=none/\H'=bN H p (.tup [x,y])/\v= .ref p,
   fun i H=> ∃xs ys,LU K t1 H a xs/\LU K t2 H b ys/\(xs.length<=i∨ys.length<=i)⟩
theorem BQ{P:Bq}{w:World}{K:Ar}{es:List Expr}{k:Nat}{pos:Pos}(t1 t2:Bool)(z p q i1 i2 a b:Addr)(D:Mr z p q i1 i2 a b):
  KI P w K (.Tuple es k pos) (Itz K t1 t2 a b) [z,p,q,i1,i2] z (fun i h=>ZSt t1 t2 h z p q i1 i2 a b i .none) where
 mem:=by simp
 obj:=fun i h st c hc=>by
  simp only[Ai,Ay,or_false] at hc;rcases hc with rfl|rfl|rfl|rfl|rfl
  ·exact⟨_,st.zip,fun v e=>by cases e⟩
  ·exact⟨_,st.its,fun v e=>by cases e⟩
  ·obtain⟨u,v,g⟩:=st.res
   exact⟨_,g,fun v e=>by cases e⟩
  ·exact st.one.obj
  ·exact st.two.obj
 keep:=fun i h h' st kk=>by
  obtain⟨u,v,g⟩:=st.res;exact⟨kk z (by simp) _ st.zip,kk p (by simp) _ st.its,⟨u,v,kk q (by simp) _ g⟩,st.one.at fun o e=>kk i1 (by simp) o e,st.two.at fun o e=>kk i2 (by simp) o e⟩
 item:=by
  intro X hP hw hK hc i aa s σ H E I hf st hg;subst hP hw hK;obtain⟨xs,ys,x,y,hq1,hq2,hx,hy⟩:=hg;obtain⟨us,r1,g1,_⟩:=I.srcA hq1;obtain⟨vs,r2,g2,_⟩:=I.srcA hq2;obtain⟨u,hu,ru⟩:=r1.get hx;obtain⟨v,hv,rv⟩:=r2.get hy;refine GZ D st g1 g2 (by simpa using hu) (by simpa using hv) fun h1 st1 hp hsz hk=>⟨_,rfl,?_⟩;refine wpAny_letOwnedTupleGo_zip (s:={s with heap:=h1}) st1.zip fun h2 z2 sb=> ?_;have sb:Fk z h1 h2:=sb;have lt: ∀c∈[z,p,q,i1,i2],c<s.heap.objs.size:=fun c hc=>by
   simp only[Ai,Ay,or_false] at hc;rcases hc with rfl|rfl|rfl|rfl|rfl
   ·exact An st.zip
   ·exact An st.its
   ·obtain⟨u,v,g⟩:=st.res
    exact An g
   ·obtain⟨o,e,_⟩:=st.one.obj
    exact An e
   ·obtain⟨o,e,_⟩:=st.two.obj
    exact An e
  have up: ∀c o,c≠z->h1.get? c=some o->h2.get? c=some o:=fun c o hcz e=>(sb.2 c hcz).trans e;have st2:ZSt t1 t2 h2 z p q i1 i2 a b (i+1) .none:=by
   obtain⟨u',v',g⟩:=st1.res;exact⟨z2,up _ _ D.TIz st1.its,⟨u',v',up _ _ D.TOz g⟩,st1.one.at fun o e=>up _ o D.i1z e,st1.two.at fun o e=>up _ o D.i2z e⟩
  have dg:h2.get? s.heap.objs.size=some {cls:= .type "tuple",data:= .seq #[u,v]}:=up _ _ (Gw (lt z (by simp))) hp;have az:H s.heap.objs.size=none:=I.hok.fresh (Ah _);have I0:cT X aa σ (bN H s.heap.objs.size (.tup [x,y])) {s with heap:=s.heap.push {cls:= .type "tuple",data:= .seq #[u,v]},toks:=s.toks}:=
   I.laid (fun c o e=>Ad _ e) (Ah _) ⟨by show 2<=sizeLine;decide,[u,v],.cons ru (.cons rv .nil),Ks _ _⟩
  have I1:cT X aa σ (bN H s.heap.objs.size (.tup [x,y])) {s with heap:=h2,toks:=s.toks}:=by
   refine cT.turnedL (s:={s with heap:=s.heap.push {cls:= .type "tuple",data:= .seq #[u,v]},toks:=s.toks}) (h':=h2) (t':=s.toks) (fp:=[z,p,q,i1,i2]) I0 (fun c o hc e=> ?_) (fun c hc=> ?_) fun c hc=>⟨by rw[cH (Be (lt c hc))];exact(hf c hc).1,(hf c hc).2⟩
   ·by_cases hcn:c=s.heap.objs.size
    ·subst hcn
     have e:(s.heap.push {cls:= .type "tuple",data:= .seq #[u,v]}).get? s.heap.objs.size=some o:=e;rw[As _ rfl] at e;cases e;exact dg
    ·have e':=(Il _ _ _ hcn).symm.trans e
     exact up c o (fun w=>hc (by simp[w])) (hk c o (fun w=>hc (by simp[w])) (fun w=>hc (by simp[w])) (fun w=>hc (by simp[w])) (fun w=>hc (by simp[w])) e')
   ·simp only[Ai,Ay,or_false] at hc
    rcases hc with rfl|rfl|rfl|rfl|rfl
    ·exact⟨_,st2.zip⟩
    ·exact⟨_,st2.its⟩
    ·obtain⟨u,v,g⟩:=st2.res
     exact⟨_,g⟩
    ·obtain⟨o,e,_⟩:=st2.one.obj
     exact⟨o,e⟩
    ·obtain⟨o,e,_⟩:=st2.two.obj
     exact⟨o,e⟩
  exact⟨.ref s.heap.objs.size,_,I1,rfl,⟨_,x,y,fun zs hz=>by rw[I.sq_inj hz hq1];exact hx,fun zs hz=>by rw[I.sq_inj hz hq2];exact hy,az,rfl,rfl⟩,st2,fun c hc=>by
   rw[cH (Be (lt c hc))];exact(hf c hc).1⟩
 done:=by
  intro X hP hw hK hc i aa s σ H E I hf st hg;subst hP hw hK;obtain⟨xs,ys,hq1,hq2,fu⟩:=hg;obtain⟨us,r1,g1,_⟩:=I.srcA hq1;obtain⟨vs,r2,g2,_⟩:=I.srcA hq2;have l1:=r1.length;have l2:=r2.length;have he:us.toArray[i]? =none∨vs.toArray[i]? =none:=by
   rcases fu with z|z
   ·exact .inl (by simp;lia)
   ·exact .inr (by simp;lia)
  refine DR (I.ok.hd hc) D st g1 g2 he fun h1 hk=>⟨rfl,?_⟩;have fq: ∀c∈[z,q,i1,i2],c∈[z,p,q,i1,i2]:=fun c hc=>by
   simp only[Ai,Ay,or_false] at hc⊢;rcases hc with w|w|w|w<;>simp[w]
  have I':=cT.turnedL' (s:=s) (h':=h1) (t':=s.toks) (fp:=[z,q,i1,i2]) I (fun c o hc e=>hk c o (fun w=>hc (by simp[w])) (fun w=>hc (by simp[w])) (fun w=>hc (by simp[w])) (fun w=>hc (by simp[w])) e) fun c hc=>hf c (fq c hc);exact I'
 self:=fun _ i _ _ _ st h=>wpAny_pyIter_zip st.zip h
section
variable{X:Cx}{K:Ar}{ml:List Nat}{l m:Expr}{pa ta ia pb tb ib:Bool}{f g:VF}{p pos cw:Pos}{es:List Expr}{tk:Nat}{δ:Ev}
def iZp(K:Ar)(tl tm:TE):TI:=fun σ H R=>tl σ H fun x H1=>tm σ H1 fun y H2=> ∃a b t1 t2,x= .ref a/\y= .ref b/\(∃xs,LU K t1 H2 a xs)/\(∃ys,LU K t2 H2 b ys)/\R (Itz K t1 t2 a b) H2
theorem zFD{tl tm:TE}(hg:Gl X "zip") (hm:X.mg "zip"=none) (hl:PE X l tl) (hr:PE X m tm) (he:Aj (l::[m]) X.env=(false,eval l X.env)::Aj [m] X.env:=by rfl) (he2:Aj (m::[]) X.env=(false,eval m X.env)::Aj [] X.env:=by rfl)
  (hpl:(Gh pos (Aj [m] X.env)).any (·.1)=false:=by rfl):PI X (.Tuple es tk cw) (.Call (.Name "zip" p) [l,m] [] pos) (iZp X.K tl tm):=by
 intro aa s σ H R I h;refine Gq (V0 I hg hm zH7 ?_ (by decide) (by decide));refine Cs (ZW (cE hl (cE hr aH he2) he pos aa s σ H (fun vs H1=>match vs with
  |[x,y]=> ∃a b t1 t2,x= .ref a/\y= .ref b/\(∃xs,LU X.K t1 H1 a xs)/\(∃ys,LU X.K t2 H1 b ys)/\R (Itz X.K t1 t2 a b) H1
  |_=>False) I h) fun us s1 ⟨vs,H1,I1,r1,q1⟩=> ?_) he hpl
 match vs,r1,q1 with
 |[x,y],r1,q1=>
  obtain⟨a,b,t1,t2,rfl,rfl,⟨xs,hq1⟩,⟨ys,hq2⟩,hR⟩:=q1;obtain⟨u,v,rfl,ru,rv⟩:=F9 r1;cases ru;cases rv;obtain⟨us,w1,g1,_⟩:=I1.srcA hq1;obtain⟨vs,w2,g2,_⟩:=I1.srcA hq2;refine C5 g1 g2 fun h' st kp=> ?_;have I2:cT X aa σ H1 {s1 with heap:=h'}:=I1.kept (t':=s1.toks) kp;have ha:=g1.lt;have hb:=g2.lt;have D:Mr (s1.heap.objs.size+4) (s1.heap.objs.size+2) (s1.heap.objs.size+3) s1.heap.objs.size (s1.heap.objs.size+1) a b:=by exact zE5 _ a b ha hb
  refine wpAny_pyIter_zip st.zip ⟨s1.heap.objs.size+4,[s1.heap.objs.size+4,s1.heap.objs.size+2,s1.heap.objs.size+3,s1.heap.objs.size,s1.heap.objs.size+1],_,Itz X.K t1 t2 a b,H1,rfl,I2,BQ t1 t2 _ _ _ _ _ a b D,st,fun c hc=> ?_,hR⟩;have hc':s1.heap.objs.size<=c:=by
   simp only[Ai,Ay,or_false] at hc;rcases hc with w|w|w|w|w<;>rw[w]<;>first|exact Nat.le_add_right _ _|exact Ah _
  exact I1.fpOk hc' (I1.hok.fresh hc')
theorem zJ9(h:X.K=K){tl tm:TE}(hg:Gl X "zip") (hm:X.mg "zip"=none) (hl:PE X l tl) (hr:PE X m tm) (he:Aj (l::[m]) X.env=(false,eval l X.env)::Aj [m] X.env:=by rfl) (he2:Aj (m::[]) X.env=(false,eval m X.env)::Aj [] X.env:=by rfl)
  (hpl:(Gh pos (Aj [m] X.env)).any (·.1)=false:=by rfl):PI X (.Tuple es tk cw) (.Call (.Name "zip" p) [l,m] [] pos) (iZp K tl tm):=by subst h;exact zFD hg hm hl hr he he2 hpl
noncomputable def T3:List dF->List dF->List dF
 |d::ds,e::es=> .tup [d,e]::T3 ds es
 |_,_=>[]
noncomputable def iZip(f g:VF):VI:=fun δ=>(f δ).bind fun p=>(g p.2).bind fun q=>(X1 p.1).bind fun ds=>(X1 q.1).map fun es=>(T3 ds es,q.2)
theorem KB: ∀{ds es:List dF} {i:Nat} {d:dF},(T3 ds es)[i]? =some d-> ∃x y,ds[i]? =some x/\es[i]? =some y/\d= .tup [x,y]
 |[],_,_,_,h=>by simp[T3] at h
 |_::_,[],_,_,h=>by simp[T3] at h
 |x::ds,y::es,0,d,h=>by simp[T3] at h;exact⟨x,y,rfl,rfl,h.symm⟩
 |x::ds,y::es,i+1,d,h=>by
  obtain⟨x',y',h1,h2,h3⟩:=KB (ds:=ds) (es:=es) (i:=i) (d:=d) (by simpa[T3] using h);exact⟨x',y',by simpa using h1,by simpa using h2,h3⟩
theorem KC: ∀{ds es:List dF},ds.length<=(T3 ds es).length∨es.length<=(T3 ds es).length
 |[],_=> .inl (Di _)
 |_::_,[]=> .inr (Di _)
 |x::ds,y::es=>by
  rcases KC (ds:=ds) (es:=es) with h|h
  ·exact .inl (Pr h)
  ·exact .inr (Pr h)
noncomputable def zJF:dF->Bool
 | .tup _=>true
 |_=>false
theorem bR.sqA{N M:Addr->Prop}{H:Hp}{v:V}{d:dF}{ds:List dF}(h:bR K N H M v d)(e:X1 d=some ds): ∃a tup xs,v= .ref a/\LU K tup H a xs/\cO K N H xs ds/\tup=zJF d:=by
  cases d<;>first
    | (cases e
       obtain⟨a,xs,h1,h2,h3⟩:=h.tupE;exact⟨a,true,xs,h1,h2,h3,rfl⟩)
    | (cases e
       obtain⟨a,xs,h1,h2,h3⟩:=h.lstE;exact⟨a,false,xs,h1,h2,h3,rfl⟩)
    |cases e
theorem B0(hK:X.K=K)(hg:Gl X "zip") (hm:X.mg "zip"=none) (h:PE X l (TV K ml pa true true f)) (h':PE X m (TV K ml pb true true g)) (he:Aj (l::[m]) X.env=(false,eval l X.env)::Aj [m] X.env:=by rfl) (he2:Aj (m::[]) X.env=(false,eval m X.env)::Aj [] X.env:=by rfl)
  (hpl:(Gh pos (Aj [m] X.env)).any (·.1)=false:=by rfl):PI X (.Tuple es tk cw) (.Call (.Name "zip" p) [l,m] [] pos) (CI K ml (pa && pb) (iZip f g)):=(zJ9 (K:=K) hK hg hm h h' he he2 hpl).imp fun σ H R hq0=>by
 obtain⟨B,O,δ,ds,δ2,S,q,k⟩:=hq0;unfold iZip at q;obtain⟨⟨x,δ1⟩,h1,q⟩:=Aa.mp q;cases h2:g δ1 with
 |none=>simp[h2] at q
 |some p2=>
  obtain⟨y,δ3⟩:=p2;simp only[Av,h2] at q;obtain⟨xs,h3,q⟩:=Aa.mp q;have q:(X1 y).map (fun es=>(T3 xs es,δ3))=some (ds,δ2):=q;obtain⟨ys,h4,q⟩:=Ao.mp q;cases q;refine⟨B,O,δ,x,δ1,S,h1,fun v1 H1 R1=>⟨B,O,δ1,y,_,R1.sta,h2,fun v2 H2 R2=> ?_⟩⟩;have r1:=R1.rep.fr R2.frm (fun a z=> .inr z) fun a z=> .inr z;obtain⟨a,t1,us,e1,q1,w1,et1⟩:=r1.sqA h3;obtain⟨b,t2,vs,e2,q2,w2,et2⟩:=R2.rep.sqA h4;refine⟨a,b,t1,t2,e1,e2,⟨us,q1⟩,⟨vs,q2⟩,k _ [(v1,x),(v2,y)] H2 (R2.sta.keepV fun z hz=> ?_) (R1.frm.trans R2.frm) (fun z=> ?_) ?_⟩
  ·simp only[Ai,Ay,or_false] at hz
   rcases hz with rfl|rfl
   ·exact r1
   ·exact R2.rep
  ·obtain⟨z1,z2⟩:=(Ae _ _).mp z
   exact(R1.pur z1).trans (R2.pur z2)
  ·intro N H h
   obtain⟨a',t1',us',f1,f2,f3,f4⟩:=(h (v1,x) (by simp)).sqA h3;obtain⟨b',t2',vs',g1,g2,g3,g4⟩:=(h (v2,y) (by simp)).sqA h4;have f1:v1= .ref a':=f1;have g1:v2= .ref b':=g1;rw[e1] at f1;rw[e2] at g1;cases f1;cases g1;have:t1'=t1:=f4.trans et1.symm;subst this;have:t2'=t2:=g4.trans et2.symm;subst this;refine⟨fun i d e=> ?_,us',vs',f2,g2,?_⟩
   ·obtain⟨dx,dy,hx,hy,rfl⟩:=KB e
    obtain⟨ux,ex,rx⟩:=f3.get hx;obtain⟨uy,ey,ry⟩:=g3.get hy;refine⟨⟨us',vs',ux,uy,f2,g2,ex,ey⟩,fun z H' hz=> ?_⟩;obtain⟨pp,x',y',c1,c2,hp,rfl,rfl⟩:=hz;have d1:=c1 us' f2;have d2:=c2 vs' g2;rw[ex] at d1;rw[ey] at d2;cases d1;cases d2;exact⟨c8 hp,.tup (WS.of cS) (.cons (rx.same (c8 hp)) (.cons (ry.same (c8 hp)) .nil))⟩
   ·rcases KC (ds:=xs) (es:=ys) with w|w
    ·exact .inl (by rw[f3.length];exact w)
    ·exact .inr (by rw[g3.length];exact w)
end
end L2
namespace L2
open PySem PySem.Spec PyProof.Rows PySem.W
section
variable{prog:Bq}{w:World}{A:Cz}{E:Value->Af->Prop}{s:Af}
theorem HK{t:Addr}{items:Array Value}{Q:List Value->Af->Prop}(hh:A.handled=none)(ht:IsTup s.heap t items)(h1:1<=items.size)(hz:items.size<=16777216)
  (hQ: ∀(x:Value) (hb:Heap) (tk:Nat),items[0]? =some x->(∀b o,s.heap.get? b=some o->hb.get? b=some o)->Q [x,.ref hb.objs.size] {s with heap:=hb.push {cls:= .type "list",data:= .seq (items.toList.drop 1).toArray},toks:=tk}):
  wpAny (model prog w) A (Jm (.ref t) 2 (some 1)) Q E s:=by
 have hne:t≠s.heap.objs.size:=by obtain⟨o,e,_⟩:=ht;exact Be (An e)
 (unfold Jm)
 refine Ac ?_
 (unfold notIterableAtAll)
 refine Ac (Mj ht.typeIs slot_tuple_iter.lookup (Ak ?_));simp only[Fn,if_false];refine Ac (Ci (iter_tuple ht (Ac (Ci (draw_tuple hne 1 0 _ _ ⟨_,As _ rfl,rfl,rfl⟩ (ht.push _) (by lia) fun ha ia ba=> ?_)))));have ta:IsTup ha t items:=(ht.push _).extBut ba.extBut hne;have ia:ha.IsTupleIter s.heap.objs.size t 1:=ia;obtain⟨oi,gi,_⟩:=id ia;obtain⟨ot,gt,_⟩:=id ta;have hsz:ha.objs.size=s.heap.objs.size+1:=by rw[ba.1,Cv]
 have lz:((items.toList.drop 0).take 1).length=1:=by simp;lia
 rw[if_neg (show¬((items.toList.drop 0).take 1).length<1 by rw[lz];exact Cd _)];refine Ac (Ci (kun_collect (s:={s with heap:=ha}) (T:= "tuple_iterator") (.inr (.inr (.inr rfl))) (Walks.tuple (A:=A.in1) hh s.heap.objs.size t hne items) (fun j u st=>st.1.typeIs) (k:=1) h1 ⟨ia,ta⟩ (An gi) (An gt) (fun hb tk kb=> ?_) (by rw[Cm];exact hz)));have nh:(items.toList.drop 1).length=items.size - 1:=by simp
 show wpAny _ _ (if(items.toList.drop 1).length<2 - 1 - 1 then _ else _) _ _ _;rw[if_neg (Qm _)];show wpAny _ _ (newList ((items.toList.drop 1).take ((items.toList.drop 1).length - (2 - 1 - 1)))>>=fun d=>pure ((items.toList.drop 0).take 1++[d]++(items.toList.drop 1).drop ((items.toList.drop 1).length - (2 - 1 - 1)))) _ _ _;have e1:(items.toList.drop 1).take ((items.toList.drop 1).length - (2 - 1 - 1))=items.toList.drop 1:=Cn (Ah _);have e2:(items.toList.drop 1).drop ((items.toList.drop 1).length - (2 - 1 - 1))=[]:=Dw;rw[e1,e2];refine Ac (Cr (Ak ?_) (by show _<=sizeLine;rw[Cm];simp;lia));obtain⟨x,hx⟩: ∃x,items[0]? =some x:=⟨items[0],by simp[show 0<items.size by lia]⟩;have e3:(items.toList.drop 0).take 1=[x]:=by
  rw[Mz];have:items.toList[0]? =some x:=by simpa using hx
  cases hl:items.toList with
  |nil=>rw[hl] at this;cases this
  |cons y r=>rw[hl] at this;cases this;rfl
 rw[e3];have keep: ∀b o,s.heap.get? b=some o->hb.get? b=some o:=fun b o e=>kb b o (Be (An e)) (ba.extBut b o (Be (An e)) (Ad _ e));exact hQ x hb tk hx keep
end
section
variable{X:Cx}{K:Ar}{ml:List Nat}{e a b c:Expr}{es:List Expr}{pa ta ia pb tb ib pc tc ic pu bt bi ps bs:Bool}{fa fb fc f:VF}{B B':Bs}{O:Nat->Option Addr}{H H0 H1 H':Hp}{σ:St}{δ δ':Ev}{v:V}{d:dF}{p:Addr}{pos:Pos}
def zJN(K:Ar)(i j:Nat):TG:=fun v σ H Q=> ∃a x xs,v= .ref a/\WS K H a (x::xs)/\ ∀p,H p=none->Q ((σ.set i (some x)).set j (some (.ref p))) (bN H p (.lst xs))
theorem zC9{i j:Nat}{x y:Str}{px py ps tp:Pos}{k:Nat}(hc:X.calm=true)(hN:X.N.Nodup)(hi:X.N[i]? =some x)(hj:X.N[j]? =some y)(hx:GI X.env.scope x)(hy:GI X.env.scope y)
  (fx:X.fn x=true∨X.env.scope.names.lookup x=some .local) (fy:X.fn y=true∨X.env.scope.names.lookup y=some .local)
  (hl:(assignEach [.Name x px,.Starred (.Name y py) ps] X.env).map (·.2)=[Gv (.Name x px) X.env,Gv (.Name y py) X.env]) (hn:(assignEach [.Name x px,.Starred (.Name y py) ps] X.env).length=2) (hst:(assignEach [.Name x px,.Starred (.Name y py) ps] X.env).findIdx? (·.1)=some 1):
  PG X (.Tuple [.Name x px,.Starred (.Name y py) ps] k tp) (zJN X.K i j):=by
 intro aa s σ H v u Q I r hw;obtain⟨a,z,zs,e1,hq,q⟩:=hw;subst e1;cases r;obtain⟨its,rv,ht,hz⟩:=I.tuple hq;rw[assign_Tuple];refine Ac (Ge ?_)
 (unfold unpack)
 rw[hn,hst];have af:=rv.length;rw[Bn] at af;have hz':its.length<=16777216:=by rw[<- Cm,<- af];exact hz
 refine Ac (Ci (HK (I.ok.hd hc) ht (by rw[Aw];lia) (by rw[Aw];exact hz') fun u hb tk hu kp=> ?_));rw[hl];cases rv with
 | @cons _ w _ ws rz rzs=>
  have hu:some w=some u:=by simpa using hu
  cases hu;have I1:cT X aa σ H {s with heap:=hb,toks:=tk}:=I.kept kp;have I2:=cT.lnew (s:={s with heap:=hb,toks:=tk}) (t':=tk) I1 rzs (by rw[Cm];simp only[Bn] at hz' af;have:=rzs.length;lia);refine Ef (Ih (YV I2 hN hi hx rz (fun s3 I3=> ?_) fx));refine Ef (Ih (YV I3 hN hj hy (v:= .ref hb.objs.size) rfl (fun s4 I4=>Ii ⟨_,_,I4,q _ (I1.hok.fresh (Ah _))⟩) fy))
noncomputable def MO(i j:Nat)(f:VF):VS:=fun δ=>(f δ).bind fun p=>match p.1 with
 | .tup (d::ds)=>some (.nx ((p.2.set i (.va d)).set j (.va (.lst ds))))
 |_=>none
theorem GB{i j:Nat}{x y:Str}{px py sp tp:Pos}{k:Nat}(hK:X.K=K)(hc:X.calm=true)(hN:X.N.Nodup)(hi:X.N[i]? =some x)(hj:X.N[j]? =some y)(hij:i≠j)(hx:GI X.env.scope x)(hy:GI X.env.scope y)(he:PE X e (TV K ml pu true true f))
  (hmi:i∉ml:=by decide) (hmj:j∉ml:=by decide)
  (fx:X.fn x=true∨X.env.scope.names.lookup x=some .local:=by first|exact .inl rfl|exact .inr rfl|assumption) (fy:X.fn y=true∨X.env.scope.names.lookup y=some .local:=by first|exact .inl rfl|exact .inr rfl|assumption)
  (hl:(assignEach [.Name x px,.Starred (.Name y py) sp] X.env).map (·.2)=[Gv (.Name x px) X.env,Gv (.Name y py) X.env]:=by rfl) (hn:(assignEach [.Name x px,.Starred (.Name y py) sp] X.env).length=2:=by rfl) (hst:(assignEach [.Name x px,.Starred (.Name y py) sp] X.env).findIdx? (·.1)=some 1:=by rfl)
  (hs:Fl [.Tuple [.Name x px,.Starred (.Name y py) sp] k tp] e pos.line X.env=pure false:=by rfl) (hw:Fm [.Tuple [.Name x px,.Starred (.Name y py) sp] k tp] e X.env=pure none:=by rfl)
  (h1:(assignEach [.Tuple [.Name x px,.Starred (.Name y py) sp] k tp] X.env).map (·.2)=[Gv (.Tuple [.Name x px,.Starred (.Name y py) sp] k tp) X.env]:=by rfl):
  PS X (.Assign [.Tuple [.Name x px,.Starred (.Name y py) sp] k tp] e pos) (TZ K ml (MO i j f)):=by
 subst hK;refine(LF he (zC9 hc hN hi hj hx hy fx fy hl hn hst) hs hw h1).imp fun D σ H hq0=> ?_;obtain⟨B,O,δ,o,S,q,k⟩:=hq0;unfold MO at q;obtain⟨⟨z,δ1⟩,h1,q⟩:=Aa.mp q;refine⟨B,O,δ,z,δ1,S,h1,fun v H1 R=> ?_⟩;cases z with
 |tup ds=>
  cases ds with
  |nil=>cases q
  |cons d ds=>
   cases q;obtain⟨a,xs,rfl,sq,r⟩:=R.rep.tupE;cases r with
   | @cons v0 vs _ _ r1 r2=>
    refine⟨a,v0,vs,rfl,sq,fun p hp=> ?_⟩;have S1:=(R.sta.same (c8 (o:= .lst vs) hp)).setVa hmi (r1.same (c8 (o:= .lst vs) hp));have N1: ∀c,Nn B (fun j=>if j=i then none else O j) c->Nn B O c:=QE (o:=none);refine k _ _ _ (S1.setVa hmj (.lst cS (fun z=>R.sta.new hp (N1 _ z)) ((r2.same (c8 hp)).mono N1)))
 |_=>cases q
end
end L2
namespace L2
open PySem PySem.Spec PyProof.Rows
section
variable{X:Cx}{K:Ar}{ml:List Nat}{e a b c:Expr}{es:List Expr}{pa ta ia pb tb ib pc tc ic pu bt bi ps bs:Bool}{fa fb fc f:VF}{B B':Bs}{O:Nat->Option Addr}{H H0 H1 H':Hp}{σ:St}{δ δ':Ev}{v:V}{d:dF}{p:Addr}{pos:Pos}
def rInD(K:Ar)(neg:Bool):R2:=fun x y H Q=> ∃d e ds,Dp K H x d/\Dp K H y e/\(e= .list ds∨e= .tuple ds)/\Er d=true/\Er e=true/\Q (.bl (if neg then !ds.any (fun z=>Jj z d) else ds.any fun z=>Jj z d)) H
theorem SH{d:My}(h:Er d=true):d.canLay0=true/\d.depth<=64:=by
 unfold Er at h;simp only[Ae,decide_eq_true_eq] at h;exact h
theorem zA4(neg:Bool)(hu:X.A.units+64<cLine):XD X (Cw (if neg then .NotIn else .In)) (rInD X.K neg):=by
 intro aa s σ H x y v u Q I rx ry h;obtain⟨d,e,ds,hd,he,hk,sd,se,q⟩:=h;obtain⟨as,h1⟩:=I.reads hd rx;obtain⟨bs,h2⟩:=I.reads he ry;obtain⟨c1,d1⟩:=SH sd;obtain⟨c2,d2⟩:=SH se;have fin: ∀k,(k=if neg then !ds.any (fun z=>Jj z d) else ds.any fun z=>Jj z d)->EP X aa σ Q (.bool k) s:=fun k hk=>by subst hk;exact⟨.bl _,H,I,rfl,q⟩
 rcases hk with rfl|rfl
 ·have hc : Im ds = true := by simpa [Gj] using c2
  have mx:Fc ds<=63:=by simp only[Ix] at d2;lia
  have hm:X.A.units+1+min (Fc ds) d.depth<cLine:=by have:=Ml (Fc ds) d.depth;lia
  cases neg with
  |false=>exact SeqAt.in_list_reads h2 h1 hc c1 hm (fin _ rfl)
  |true=>exact SeqAt.notIn_list_reads h2 h1 hc c1 hm (fin _ rfl)
 ·have hc : Im ds = true := by simpa [Gj] using c2
  have mx:Fc ds<=63:=by simp only[Ix] at d2;lia
  have hm:X.A.units+1+min (Fc ds) d.depth<cLine:=by have:=Ml (Fc ds) d.depth;lia
  cases neg with
  |false=>exact SeqAt.in_tuple_reads h2 h1 hc c1 hm (fin _ rfl)
  |true=>exact SeqAt.notIn_tuple_reads h2 h1 hc c1 hm (fin _ rfl)
theorem WI(h:X.K=K)(hu:X.A.units+64<cLine):XD X (Cw .In) (rInD K false):=by subst h;exact zA4 false hu
theorem UB(h:X.K=K)(hu:X.A.units+64<cLine):XD X (Cw .NotIn) (rInD K true):=by subst h;exact zA4 true hu
noncomputable def N3(d:dF)(ds:List dF):Bool:=(CN ds).any fun z=>Jj z d.pd
noncomputable def bJ(neg:Bool)(d e:dF):Option dF:=(X1 e).bind fun ds=>if(MH d && MH e)=true then some (.bl (if neg then !N3 d ds else N3 d ds)) else none
theorem Z7{neg:Bool}:P6 K (rInD K neg) (bJ neg):=by
 intro H N N' M M' x y d e c Q hx hy h k;unfold bJ at h;obtain⟨ds,hs,h⟩:=Aa.mp h;have h:(if(MH d && MH e)=true then some (dF.bl (if neg then !N3 d ds else N3 d ds)) else none)=some c:=h;split at h
 ·rename_i hh
  cases h;simp only[MH,Ae] at hh;refine⟨d.pd,e.pd,CN ds,hx.dp hh.1.1,hy.dp hh.2.1,?_,hh.1.2,hh.2.2,k _ fun _ _ _=> .bl _⟩;cases e<;>first
   |(cases hs;exact .inr rfl)
   |(cases hs;exact .inl rfl)
   |cases hs
 ·cases h
def zHQ(K:Ar)(td ty:TE):TE:=fun σ H Q=>td σ H fun x H1=> ∃a,x= .ref a/\((IsD H1 a/\ty σ H1 fun y H2=> ∃o,VA H2 a y o/\Q (o.getD .non) H2)∨ ∃D,KTab K a D/\ty σ H1 fun y H2=> ∃k,y= .str k/\Q ((Fu k D).getD .non) H2)
theorem JK{ai ae:Pos}{td ty:TE}(hu:X.A.units+1<cLine)(ho:PE X a td)(he:PE X e ty)(m:M1 X a "get" ai e ae):PE X (.Call (.Attribute a "get" ai) [e] [] ae) (zHQ X.K td ty):=by
 intro aa s σ H Q I h;refine Ku m.base m.few m.line Hu Eb Mg (ZW (ho aa s σ H _ I h) fun u s1 ⟨x,H1,I1,rx,l,ex,q1⟩=> ?_);subst ex;obtain rfl:u=Bo l:=rx;rcases q1 with⟨hd,q1⟩|⟨D,T,q1⟩
 ·obtain⟨t1,t2,_⟩:=GW I1 hd
  refine⟨t1,t2,?_⟩;rw[m.trees];refine Ff rfl (Fv (Es (ZW (he aa s1 σ H1 _ I1 q1) fun iv s2 ⟨y,H2,I2,ry,ov,g,q2⟩=>Fz ?_)));exact zH5 hu I2 g ry fun w' s3 I3 rw'=>⟨_,H2,I3,rw',q2⟩
 ·obtain⟨m7,o,nj,ep,hk,hex,cq,_⟩:=id T
  refine⟨⟨o,I1.kIn _ _ hk,hex.1⟩,fun b q=> ?_,?_⟩
  ·cases q
   exact⟨o,I1.kIn _ _ hk,hex.2.1⟩
  rw[m.trees];refine Ff rfl (Fv (Es (ZW (he aa s1 σ H1 _ I1 q1) fun iv s2 ⟨y,H2,I2,ry,k,ey,q2⟩=>Fz ?_)));subst ey;obtain⟨t,rfl⟩:=ry;have hT:s2.TypeIs (.ref l) "dict":=⟨o,I2.kIn _ _ hk,hex.1⟩;refine Dn Eb hT Fg ?_ (Ht _ _);show wpAny _ _ (dictGet l (.str k t)>>=_) _ _ s2;refine Ac (IS I2.kIn T (fun d' v' ha hv=>Ak ⟨v',rfl,?_⟩) fun hn=> ?_)
  ·rw[ha] at q2
   exact⟨d',H2,I2.tok _,hv,q2⟩
  ·rw[hn] at q2
   show wpAny _ _ (Ng l (.str k t)>>=_) _ _ _;unfold Ng;rw[if_neg (by rw[m7];exact Dt)];exact Ac (Ak (Ak ⟨.none,rfl,.non,H2,I2.tok _,rfl,q2⟩))
noncomputable def zDQ:dF->dF->Option dF
 | .dct ks ds,.str x=>some ((cD ks ds (.inr x)).getD .non)
 |_,_=>none
theorem zBM{ai ae:Pos}(hK:X.K=K)(hu:X.A.units+1<cLine)(ha:PE X a (TV K ml pa ta ia fa))(hb:PE X b (TV K ml pb tb ib fb))(m:M1 X a "get" ai b ae) (hs:(pb || (ta && ia))=true:=by rfl):
  PE X (.Call (.Attribute a "get" ai) [b] [] ae) (TV K ml (pa && pb) ia ia (f2 zDQ fa fb)):=by
 subst hK;refine(JK hu ha hb m).imp fun σ H Q hq0=> ?_;obtain⟨B,O,δ,d,δ2,S,q,k⟩:=hq0;obtain⟨x,δ1,y,h1,h2,h3⟩:=QR q;refine⟨B,O,δ,x,δ1,S,h1,fun v1 H1 R1=> ?_⟩;have fin: ∀v2 H2 (R2:Res X.K ml B O H1 σ pb tb ib H2 δ2 v2 y) o,bR X.K (av B O ia) H2 (av B O ia) o d->Q o H2:=fun v2 H2 R2 o ho=>k o H2 ⟨R2.sta,R1.frm.trans R2.frm,fun z=>by
  obtain⟨z1,z2⟩:=(Ae _ _).mp z;exact(R1.pur z1).trans (R2.pur z2),ho.mono (fun _ z=>z) zE2⟩
 cases x with
 |dct ks ds=>
  cases y with
  |str z=>
   cases h3;generalize hx:dF.dct ks ds=dd at R1;have r1:=R1.rep;cases r1 with
   | @dct _ l kvs ds' qd n r=>
    cases hx;refine⟨l,rfl,.inl ⟨.inl ⟨_,.inl qd⟩,B,O,δ1,_,δ2,R1.sta,h2,fun v2 H2 R2=> ?_⟩⟩;have r2:=R2.rep;cases r2;have h4:H2 l=some (.dK kvs)/\cO X.K (av B O ia) H2 (kvs.map Cj) ds:=by
     cases pb with
     |true=>exact⟨R2.pur rfl _ _ qd,r.same (R2.pur rfl)⟩
     |false=>
      have hs:(ta && ia)=true:=by simpa using hs
      obtain⟨z1,z2⟩:=(Ae _ _).mp hs;subst z1 z2;exact⟨R2.frm _ _ qd fun w=>absurd (.inr w) n,r.fr R2.frm fun a z=> .inr z⟩
    refine⟨_,VA.k (k:= .inr z) h4.1,fin _ _ R2 _ ?_⟩;rcases WK (k:= .inr z) h4.2 with⟨v,d',g1,g2,g3⟩|⟨g1,g2⟩
    ·rw[g1,g2];exact g3
    ·rw[g1,g2];exact .non
   | @ktb _ l D ds' T r=>
    cases hx;refine⟨l,rfl,.inr ⟨D,T,B,O,δ1,_,δ2,R1.sta,h2,fun v2 H2 R2=> ?_⟩⟩;have r2:=R2.rep;cases r2;refine⟨z,rfl,fin _ _ R2 _ ?_⟩;have r':cO X.K (av B O ia) H2 (D.map Cj) ds:=by
     cases pb with
     |true=>exact r.same (R2.pur rfl)
     |false=>
      have hs:(ta && ia)=true:=by simpa using hs
      obtain⟨z1,z2⟩:=(Ae _ _).mp hs;subst z1 z2;exact r.fr R2.frm fun a z=> .inr z
    rcases QP (k:=z) r' with⟨v,d',g1,g2,g3⟩|⟨g1,g2⟩
    ·rw[g1,g2];exact g3
    ·rw[g1,g2];exact .non
   |_=>cases hx
  |_=>cases h3
 |_=>cases h3
end
theorem zHD:Bj "all"=some (.builtin "all"):=by decide+kernel
theorem zD3:Bj "dict"=some (.type "dict"):=by decide+kernel
section
variable{X:Cx}{K:Ar}{ml:List Nat}{e a b c:Expr}{es:List Expr}{pa ta ia pb tb ib pc tc ic pu bt bi ps bs:Bool}{fa fb fc f:VF}{B B':Bs}{O:Nat->Option Addr}{H H0 H1 H':Hp}{σ:St}{δ δ':Ev}{v:V}{d:dF}{p:Addr}{pos:Pos}
theorem zD5{ks:List Bool}{us:List Value}(r:b5 (ks.map V.bl) us){i:Nat}{u:Value}(h:us[i]? =some u): ∃k,ks[i]? =some k/\u= .bool k:=by
 have hl:=r.length;rw[Bt] at hl;have hi:i<us.length:=(Ag.mp h).1;have e:(ks.map V.bl)[i]? =some (.bl ks[i]):=by simp[hl▸hi]
 obtain⟨w,h1,h2⟩:=r.get e;rw[h] at h1;cases h1;exact⟨ks[i],by simp[hl▸hi],h2⟩
theorem D0{ks:List Bool}:(Az ks.length).all (fun i=>(ks[i]?).getD true)=ks.all id:=by
 induction ks with
 |nil=>rfl
 |cons k ks ih=>
  rw[Bn,Gk,Rp,Rx,Rp,<- ih];rfl
def FV(K:Ar)(g:List Bool->Bool):RC:=fun xs H Q=> ∃p ks,xs=[.ref p]/\X5 K H p (ks.map V.bl)/\Q (.bl (g ks)) H
theorem BN{prog:Bq}{w:World}{A:Cz}{ks:List Bool}{us:List Value}(r:b5 (ks.map V.bl) us):TruthOf prog w A (fun i v=>us.toArray[i]? =some v) fun i=>(ks[i]?).getD true:=by
 intro i v s Q E hP hQ;obtain⟨k,h1,rfl⟩:=zD5 r (by simpa using hP);have hQ:Q ((ks[i]?).getD true) s:=hQ;rw[h1] at hQ;exact Ek hQ
theorem C1(hc:X.calm=true):aX X (.builtin "all") (FV X.K fun ks=>ks.all id):=by
 intro aa s σ H xs us Q I r h;obtain⟨l,ks,rfl,hq,q⟩:=h;obtain⟨u,rfl,rx⟩:=VN r;cases rx;obtain⟨its,rv,pl,hz⟩:=I.list hq;have hl:=pl.isList;have hne:l≠s.heap.objs.size:=by obtain⟨o,g,_⟩:=hl;exact Be (An g)
 have af:=rv.length;rw[Bt] at af;refine call_all_walk (Hc hl ⟨_,_,_,_,_,_,_,rfl,Walks.list (show X.A.in1.handled=none from I.ok.hd hc) s.heap.objs.size l hne its.toArray,⟨⟨_,As _ rfl,rfl,rfl⟩,?_⟩,BN rv,fun h' tk hk=> ?_⟩)
 ·obtain⟨o,g,r⟩:=hl
  exact⟨o,Ad _ g,r⟩
 ·rw[Aw,<- af,D0]
  exact⟨.bl _,H,I.kept (t':=tk) fun b o g=>hk b o (by simp;exact Be (An g)) (Ad _ g),rfl,q⟩
theorem kAll(h:X.K=K)(hc:X.calm=true):aX X (.builtin "all") (FV K fun ks=>ks.all id):=by subst h;exact C1 hc
noncomputable def M6:List dF->Option (List Bool)
 |[]=>some []
 | .bl k::ds=>(M6 ds).map fun ks=>k::ks
 |_=>none
theorem EO{N:Addr->Prop}: ∀{xs:List V} {ds:List dF} {ks:List Bool},cO K N H xs ds->M6 ds=some ks->xs=ks.map V.bl
 |_,_,_,.nil,h=>by cases h;rfl
 | _,_,_,@cO.cons _ _ _ v vs d ds h t,e => by
  cases d with
  |bl k=>
   cases h;have e:(M6 ds).map (fun ks=>k::ks)=some _:=e;cases h2:M6 ds with
   |none=>rw[h2] at e;cases e
   |some ks'=>
    rw[h2] at e;cases e;rw[EO t h2,Aq]
  |_=>cases e
noncomputable def zA9(g:List Bool->Bool):dF->Option dF
 | .lst ds=>(M6 ds).map fun ks=> .bl (g ks)
 |_=>none
noncomputable abbrev oAll:=zA9 fun ks=>ks.all id
theorem zEV{g:List Bool->Bool}:CalS K (FV K g) (zA9 g):=by
 intro H N M x d c Q hx h k;cases d with
 |lst ds=>
  have h:(M6 ds).map (fun ks=>dF.bl (g ks))=some c:=h;obtain⟨ks,h1,h⟩:=Ao.mp h;cases h;obtain⟨a,xs,rfl,sq,r⟩:=hx.lstE;have:=EO r h1;subst this;exact⟨a,ks,rfl,sq,k _ fun _ _ _=> .bl _⟩
 |_=>cases h
theorem zI9:CalS K (FV K fun ks=>ks.all id) oAll:=zEV
noncomputable def X7:List dF->Option (List Int)
 |[]=>some []
 | .int i::ds=>(X7 ds).map fun ns=>i::ns
 |_=>none
theorem RV{N:Addr->Prop}: ∀{xs:List V} {ds:List dF} {ns:List Int},cO K N H xs ds->X7 ds=some ns->xs=ns.map V.int
 |_,_,_,.nil,h=>by cases h;rfl
 | _,_,_,@cO.cons _ _ _ v vs d ds h t,e => by
  cases d with
  |int k=>
   cases h;have e:(X7 ds).map (fun ks=>k::ks)=some _:=e;cases h2:X7 ds with
   |none=>rw[h2] at e;cases e
   |some ks'=>
    rw[h2] at e;cases e;rw[RV t h2,Aq]
  |_=>cases e
theorem SD{N:Addr->Prop}: ∀ns:List Int,cO K N H (ns.map V.int) (ns.map dF.int)
 |[]=> .nil
 |i::ns=> .cons (.int i) (SD ns)
noncomputable def U6(ns:List Int):List Int:=ns.mergeSort (fun a b=>decide (a<=b))
theorem SI{ms ns:List Int}(h1:ms.Perm ns)(h2:ms.Pairwise (· <= ·)):ms=U6 ns:=by
 have p:(U6 ns).Perm ns:=List.mergeSort_perm _ _;have s:(U6 ns).Pairwise (fun a b=>decide (a<=b)=true):=List.pairwise_mergeSort (fun a b c h1 h2=>by simp at h1 h2⊢;lia) (fun a b=>by simp;lia) ns;have s':(U6 ns).Pairwise (· <= ·):=s.imp fun h=>of_decide_eq_true h;exact Kw (fun a b _ _ h1 h2=>Int.le_antisymm h1 h2) h2 s' (h1.trans p.symm)
noncomputable def G4:dF->Option dF
 | .lst ds=>(X7 ds).bind fun ns=>if ns.length<64 then some (.lst ((U6 ns).map dF.int)) else none
 |_=>none
def AY(K:Ar):RC:=fun xs H Q=> ∃(p:Addr) (ns:List Int),xs=[.ref p]/\X5 K H p (ns.map V.int)/\ns.length<64/\ ∀(l:Addr) (ms:List Int),H l=none->ms.Perm ns->ms.Pairwise (· <= ·)->Q (.ref l) (bN H l (.lst (ms.map V.int)))
theorem zGV(h:X.K=K):aX X (.builtin "sorted") (AY K):=zCT h
theorem zCN:CP K (AY K) G4:=by
 intro H N M x d c Q hx h k;cases d with
 |lst ds=>
  have h:((X7 ds).bind fun ns=>if ns.length<64 then some (dF.lst ((U6 ns).map dF.int)) else none)=some c:=h;obtain⟨ns,h1,h⟩:=Aa.mp h;have h:(if ns.length<64 then some (dF.lst ((U6 ns).map dF.int)) else none)=some c:=h;split at h
  ·rename_i hl
   cases h;obtain⟨a,xs,rfl,sq,r⟩:=hx.lstE;have:=RV r h1;subst this;refine⟨a,ns,rfl,sq,hl,fun l ms hl' h2 h3=> ?_⟩;have:=SI h2 h3;subst this;exact k l _ _ hl' (SD _) rfl
  ·cases h
 |_=>cases h
theorem rngI{a:Int}{n:Nat}{acc:Array Value}(h:ItemsOf (fun i v=> ∃t,v= .int (a+i*1) t) acc n):b5 ((Az n).map fun i:Nat=>V.int (a+i)) acc.toList:=by
 obtain⟨h1,h2⟩:=h;have go: ∀(m:Nat) (us:List Value),us.length=m-> ∀k:Nat,(∀(i:Nat) (v:Value),us[i]? =some v-> ∃t,v= .int (a+((k+i:Nat):Int)*1) t)->b5 ((Az m).map fun i:Nat=>V.int (a+((k+i:Nat):Int))) us:=by
  intro m;induction m with
  |zero=>intro us hl k _;rw[Gg.mp hl];exact .nil
  |succ m ih=>
   intro us hl k hu;cases us with
   |nil=>cases hl
   |cons u us=>
    rw[Gk,Aq,Fp];obtain⟨t,ht⟩:=hu 0 u rfl;refine .cons ⟨t,by rw[ht];simp⟩ ?_;have:=ih us (by simpa using hl) (k+1) fun i v e=>by
     obtain⟨t,h⟩:=hu (i+1) v (by simpa using e);exact⟨t,by rw[h,show k+(i+1)=k+1+i by lia]⟩
    have e:((fun i:Nat=>V.int (a+((k+i:Nat):Int)))∘Nat.succ)=fun i:Nat=>V.int (a+((k+1+i:Nat):Int)):=by
     funext i;simp only[Lk,Nat.succ_eq_add_one];rw[show k+(i+1)=k+1+i by lia]
    rw[e];exact this
 have:=go n acc.toList (by simpa using h1) 0 fun i v e=>by
  have:=h2 i v (by simpa using e);simpa using this
 simpa using this
theorem HZ:aX X (.type "range") (fun xs H Q=> ∃j,xs=[.int j]/\ ∀p,H p=none->Q (.ref p) (bN H p (.ext (rngP p 0 j 1)))):=by
 intro aa s σ H xs us Q I r h;obtain⟨j,rfl,q⟩:=h;obtain⟨u,rfl,t,rfl⟩:=VN r;refine Pd ?_;have hn:=I.hok.fresh (Ah s.heap.objs.size);refine⟨.ref s.heap.objs.size,_,I.laid (a:=s.heap.objs.size) (o:= .ext (rngP s.heap.objs.size 0 j 1)) (t':=s.toks+1+1) (fun _ _ z=>Ad _ z) (Ah _) ?_,rfl,q _ hn⟩;exact⟨⟨_,_,_,Se ..⟩,⟨_,As _ rfl⟩,fun h1 h2 ⟨t,u,v,z⟩ k=>⟨t,u,v,k _ z⟩⟩
theorem M9(hc:X.calm=true):aX X (.type "list") (fun xs H Q=> ∃(p:Addr) (j:Int),xs=[.ref p]/\H p=some (.ext (rngP p 0 j 1))/\(0<=j/\j<=16777216)/\ ∀l,H l=none->Q (.ref l) (bN H l (.lst ((Az j.toNat).map fun i:Nat=>V.int (0+i))))):=by
 intro aa s σ H xs us Q I r h;obtain⟨p,j,rfl,hp,hj,q⟩:=h;obtain⟨u,rfl,rx⟩:=VN r;cases rx;obtain⟨⟨t,u,v,z⟩,_⟩:=I.hok p _ hp;have hn:Gf 0 j 1=(j.toNat:Int):=by
  unfold Gf;rw[if_pos (by decide)];split
  ·rw[Int.ediv_one]
   lia
  ·lia
 have p62:(2:Int) ^ 62=4611686018427387904:=by decide
 have p24:(2:Nat) ^ 24=16777216:=by decide
 have sm:Sg 0 j 1=true:=small_one (a:=0) (b:=j) (by rw[p62];decide) (by rw[p62];decide) (by rw[p62];lia) (by rw[p62];lia);refine call_list_range (I.ok.hd hc) z sm hn (by rw[p24];lia) fun h' tk acc c kp hS hI=> ?_;have rv:=rngI hI;refine⟨.ref s.heap.objs.size,_,I.laid (a:=s.heap.objs.size) (o:= .lst ((Az j.toNat).map fun i:Nat=>V.int (0+i))) (t':=tk) kp (Ah _) ⟨?_,acc.toList,c,rv,by simpa using hS⟩,rfl,q _ (I.hok.fresh (Ah _))⟩;rw[Bt,He,Cm];lia
noncomputable def W5(f:VF):VF:=fun δ=>(f δ).bind fun p=>match p.1 with
 | .int j=>if 0<=j/\j<=16777216 then some (.lst (Z8 0 j.toNat),p.2) else none
 |_=>none
theorem zBX{N:Addr->Prop}(lo:Int)(n:Nat):cO K N H ((Az n).map fun i:Nat=>V.int (lo+i)) (Z8 lo n):=by
 unfold Z8;induction (Az n) with
 |nil=>exact .nil
 |cons x xs ih=>exact .cons (.int _) ih
theorem MY{p1 p2 dw:Pos}(hc:X.calm=true)(hg:Gl X "list") (hm:X.mg "list"=none) (hv:Bj "list"=some (.type "list")) (hg2:Gl X "range") (hm2:X.mg "range"=none) (hv2:Bj "range"=some (.type "range")) (ha:PE X a (TV K ml pa ta ia fa))
  (he:Aj (a::[]) X.env=(false,eval a X.env)::Aj [] X.env:=by rfl) (he2:Aj (.Call (.Name "range" p2) [a] [] dw::[]) X.env=(false,eval (.Call (.Name "range" p2) [a] [] dw) X.env)::Aj [] X.env:=by rfl):
  PE X (.Call (.Name "list" p1) [.Call (.Name "range" p2) [a] [] dw] [] pos) (TN K ml pa (W5 fa)):=
 (WL (M9 hc) hg hm hv (cE (WL HZ hg2 hm2 hv2 (cE ha aH he) (by decide) (by decide) he) aH he2) (by decide) (by decide) he2).imp fun σ H Q hq0 => by
  obtain⟨B,O,δ,d,δ',S,q,k⟩:=hq0;unfold W5 at q;obtain⟨⟨x,δ1⟩,h1,q⟩:=Aa.mp q;cases x with
  |int j=>
   have q:(if 0<=j/\j<=16777216 then some (dF.lst (Z8 0 j.toNat),δ1) else none)=some (d,δ'):=q;split at q
   ·rename_i hj
    cases q;refine⟨B,O,δ,_,_,S,h1,fun v1 H1 R1=> ?_⟩;have r1:=R1.rep;cases r1;refine⟨j,rfl,fun p hp=>⟨p,j,rfl,cS,hj,fun l hl=> ?_⟩⟩;have sm:bI H1 (bN H1 p (.ext (rngP p 0 j 1))):=c8 hp;exact k l _ (mkN (R1.sta.same sm) (R1.frm.trans sm.fr) (fun z=>(R1.pur z).trans sm) hl (zBX 0 j.toNat))
   ·cases q
  |_=>cases q
end
section
variable{X:Cx}{K:Ar}{ml:List Nat}{e a b c:Expr}{es:List Expr}{pa ta ia pb tb ib pc tc ic pu bt bi ps bs:Bool}{fa fb fc f:VF}{B B':Bs}{O:Nat->Option Addr}{H H0 H1 H':Hp}{σ:St}{δ δ':Ev}{v:V}{d:dF}{p:Addr}{pos:Pos}
noncomputable def V5(n:Int):List Int->Option Nat
 |[]=>none
 |i::ns=>if i=n then some 0 else(V5 n ns).map (· +1)
theorem MJ{n:Int}: ∀{ns:List Int} {j:Nat},V5 n ns=some j->ns[j]? =some n/\ ∀m,m<j->ns[m]? ≠some n
 |[],_,h=>by cases h
 | i :: ns,j,h => by
  unfold V5 at h;split at h
  ·rename_i hi
   cases h;exact⟨by rw[hi];rfl,fun m hm=>absurd hm (Qm _)⟩
  ·rename_i hi
   obtain⟨k,h1,h⟩:=Ao.mp h;cases h;obtain⟨h2,h3⟩:=MJ h1;refine⟨by simpa using h2,fun m hm=> ?_⟩;cases m with
   |zero=>simpa using hi
   |succ m=>simpa using h3 m (Nat.lt_of_succ_lt_succ hm)
theorem J2{ns:List Int}{us:List Value}(r:b5 (ns.map V.int) us){m:Nat}{u:Value}(h:us[m]? =some u): ∃i t,ns[m]? =some i/\u= .int i t:=by
 have hl:=r.length;rw[Bt] at hl;have hm:m<us.length:=(Ag.mp h).1;have e:(ns.map V.int)[m]? =some (.int ns[m]):=by simp[hl▸hm]
 obtain⟨u',e1,t,e2⟩:=r.get e;rw[h] at e1;cases e1;exact⟨ns[m],t,by simp[hl▸hm],e2⟩
noncomputable def N4(n:Int):Value->Bool
 | .int i _=>i==n
 |_=>false
theorem zAZ{ns:List Int}{its:List Value}{n:Int}{j:Nat}(r:b5 (ns.map V.int) its)(h:V5 n ns=some j):
  ∃hj:j<its.toArray.size,N4 n its.toArray[j]=true/\(∀m (hm:m<its.toArray.size),m<j->N4 n its.toArray[m]=false):=by
 obtain⟨h1,h2⟩:=MJ h;have hl:=r.length;rw[Bt] at hl;have hj:j<ns.length:=(Ag.mp h1).1;have at_: ∀(m:Nat) (hm:m<its.toArray.size),∃i t,ns[m]? =some i/\its.toArray[m]= .int i t:=fun m hm=>by
  have hm':m<its.length:=by simpa using hm
  exact J2 r (u:=its.toArray[m]) (by simp[hm'])
 refine⟨by simpa[<- hl] using hj,?_,fun m hm hmj=> ?_⟩
 ·obtain ⟨i,t',e1,e2⟩ := at_ j (by simpa [<- hl] using hj)
  rw[h1] at e1;cases e1;rw[e2];simp[N4]
 ·obtain⟨i,t',e1,e2⟩:=at_ m hm
  have:=h2 m hmj;rw[e1] at this;rw[e2];exact beq_eq_false_iff_ne.mpr fun z=>this (by rw[z])
theorem zAY{ns:List Int}{its:List Value}(r:b5 (ns.map V.int) its){y:Value}(hy:y∈its.toArray): ∃i t,y= .int i t:=by
 obtain⟨m,hm,rfl⟩:=Array.mem_iff_getElem.mp hy;have hm':m<its.length:=by simpa using hm
 obtain⟨i,t,_,e⟩:=J2 r (m:=m) (u:=its.toArray[m]) (by simp[hm']);exact⟨i,t,e⟩
def AW(K:Ar):V->List V->Hp->VK->Prop:=fun x vs H Q=> ∃(l:Addr) (ns:List Int) (n:Int) (j:Nat),x= .ref l/\vs=[.int n]/\X5 K H l (ns.map V.int)/\V5 n ns=some j/\Q (.int j) H
theorem DO:MtM X "list.index" (AW X.K):=by
 intro aa s σ H x vs v us Q I rx rv h;obtain⟨l,ns,n,j,rfl,rfl,hq,hj,q⟩:=h;cases rx;obtain⟨u,rfl,t,rfl⟩:=rv.one;obtain⟨its,r,⟨o,c,e,hc,hd,cq⟩,hz⟩:=I.list hq;obtain⟨cls,dd,data,sl⟩:=o;simp only at hc hd cq;subst hc hd cq;obtain⟨hjs,h1,h2⟩:=zAZ r hj;have hl:=r.length;refine Ol F.slot_list_index ⟨_,e,rfl⟩ F.entry_list_index (F.args_list_index_2 _ _) (SeqAt.list_indexAt l its.toArray c none sl (.int n t) (N4 n) j hjs (by
  have h3:its.length<=16777216:=by rw[<- hl,<- Cm];exact hz
  have h4:j<its.length:=by simpa using hjs
  lia) h1 h2) ⟨e,?_,?_⟩
 ·intro y hy
  obtain⟨i,t',rfl⟩:=zAY r hy;exact SeqAt.EqAt.int_int i t' n t
 ·exact⟨.int j,H,I.tok _,⟨_,rfl⟩,q⟩
theorem zGX(h:X.K=K):MtM X "list.index" (AW K):=by subst h;exact DO
noncomputable def G2:dF->dF->Option dF
 | .lst ds,.int n=>(X7 ds).bind fun ns=>(V5 n ns).map fun j=> .int j
 |_,_=>none
theorem BX{ai ae:Pos}(hK:X.K=K)(ha:PE X a (TV K ml pa ta ia fa))(hb:PE X b (TV K ml pb tb ib fb))
  (cb:Hs a "index" X.env (eval a X.env)=eval a X.env:=by rfl)
  (dh : ((Gh ae (Aj (b :: []) X.env)).all (fun x => !x.1) && (Nt ae (Jo [] X.env)).all (fun x => x.1.isSome)
   && decide ((b::([]:List Expr)).length+([]:List Jp).length+(if([]:List Jp).isEmpty then 0 else 1)<30))=true:=by rfl)
  (br:(ai.endLine==ae.line)=true:=by rfl) (hs:Aj (b::[]) X.env=(false,eval b X.env)::Aj [] X.env:=by rfl) (bh:(Gh ae (Aj [] X.env)).any (·.1)=false:=by rfl) (hl:(pb || (ta && ia))=true:=by rfl):
  PE X (.Call (.Attribute a "index" ai) [b] [] ae) (TV K ml (pa && pb) true true (f2 G2 fa fb)):=
 (kBm (K := K) hK Li PySem.F.slot_list_index PySem.F.type_list_index (zGX hK) ha (cE hb aH hs) cb dh br hs bh).imp fun σ H Q hq0 => by
  obtain⟨B,O,δ,d,δ2,S,q,k⟩:=hq0;obtain⟨x,δ1,y,h1,h2,h3⟩:=QR q;refine⟨B,O,δ,x,δ1,S,h1,fun v1 H1 R1=> ?_⟩;cases x with
  |lst ds=>
   cases y with
   |int n=>
    have h3:((X7 ds).bind fun ns=>(V5 n ns).map fun j=>dF.int j)=some d:=h3;obtain⟨ns,h4,h3⟩:=Aa.mp h3;have h3:(V5 n ns).map (fun j=>dF.int j)=some d:=h3;cases h5:V5 n ns with
    |none=>rw[h5] at h3;cases h3
    |some j=>
     rw[h5] at h3;cases h3;obtain⟨l,xs,rfl,sq,_⟩:=R1.rep.lstE;refine⟨.inl ⟨rfl,xs,sq⟩,B,O,δ1,_,δ2,R1.sta,h2,fun v2 H2 R2=> ?_⟩;have r2:=R2.rep;cases r2;obtain⟨l',xs',e1,sq',r'⟩:=(R2.live hl R1.rep).lstE;cases e1;have:=RV r' h4;subst this;exact⟨l,ns,n,j,rfl,rfl,sq',h5,k _ H2 ⟨R2.sta,R1.frm.trans R2.frm,fun z=>by
      obtain⟨z1,z2⟩:=(Ae _ _).mp z;exact(R1.pur z1).trans (R2.pur z2),.int _⟩⟩
   |_=>cases h3
  |_=>cases h3
def FX:V->List V->Hp->VK->Prop:=fun x vs H Q=> ∃(l:Addr) (ns:List Int) (n:Int) (j:Nat),x= .ref l/\vs=[.int n]/\H l=some (.lst (ns.map V.int))/\V5 n ns=some j/\Q .non (bN H l (.lst ((ns.eraseIdx j).map V.int)))
theorem L7{α β:Type}(g:α->β): ∀(l:List α) (j:Nat),(l.map g).eraseIdx j=(l.eraseIdx j).map g
 |[],_=>by simp
 |_::_,0=>by simp
 |x::l,j+1=>by simp[L7 g l j]
theorem DP:MtM X "list.remove" FX:=by
 intro aa s σ H x vs v us Q I rx rv h;obtain⟨l,ns,n,j,rfl,rfl,hH,hj,q⟩:=h;cases rx;obtain⟨u,rfl,t,rfl⟩:=rv.one;obtain⟨z,its,c,r,hl,e⟩:=I.lstM hH;obtain⟨hjs,h1,h2⟩:=zAZ r hj;refine Ol F.slot_list_remove ⟨_,e,rfl⟩ F.entry_list_remove (F.args_list_remove_2 _ _) (MeetsSeq.list_remove l its.toArray c (.int n t) (N4 n) (fun y hy=> ?_) j hjs h1 h2 (by rw[Aw,<- hl];exact z)) ⟨e,?_⟩
 ·obtain⟨i,t',rfl⟩:=zAY r hy
  exact Rz i n t' t
 ·have hlj : j < its.length := by simpa using hjs
  refine⟨.non,_,I.lset (its':=its.eraseIdx j) hH e (by simp[Kx,hlj]) (ys:=(ns.eraseIdx j).map V.int) ?_ ?_,rfl,q⟩
  ·have:=b5.eraseIdx j r
   rwa[L7] at this
  ·rw[Bt]
   have h1:=List.length_eraseIdx_le ns j;rw[Bt] at z;lia
noncomputable def mRem:List dF->List dF->Option (List dF)
 |ds,[.int n]=>(X7 ds).bind fun ns=>(V5 n ns).map fun j=>(ns.eraseIdx j).map dF.int
 |_,_=>none
theorem zGJ:MuV K FX mRem:=by
 intro H N l xs vs ds es ds' Q hl hN rx re h k;cases re with
 |nil=>cases h
 | @cons v vs d es hd t=>
  cases t with
  |cons _ _=>cases d<;>cases h
  |nil=>
   cases d with
   |int n=>
    cases hd;have h:((X7 ds).bind fun ns=>(V5 n ns).map fun j=>(ns.eraseIdx j).map dF.int)=some ds':=h;obtain⟨ns,h4,h⟩:=Aa.mp h;have h:(V5 n ns).map (fun j=>(ns.eraseIdx j).map dF.int)=some ds':=h;obtain⟨j,h5,h⟩:=Ao.mp h;cases h;have:=RV rx h4;subst this;exact⟨l,ns,n,j,rfl,rfl,hl,h5,k _ _ (SD _)⟩
   |_=>cases h
end
section
variable{X:Cx}{K:Ar}{ml:List Nat}{e:Expr}{es:List Expr}{pu bt bi bs:Bool}{f:VF}{fs:NG}
theorem cX(h:PE X e (TV K ml pu bt bi f))(hb:(bt && bi)=true:=by rfl):PE X e (TV K ml pu true true f):=by
 obtain⟨h1,h2⟩:=(Ae _ _).mp hb;subst h1 h2;exact h
theorem GA(h:PE X e (TV K ml pu bt bi f))(hb:bi=true:=by rfl):PE X e (TV K ml pu bt true f):=by
 subst hb;exact h
theorem cM(h:PA X es (TAV K ml pu bs fs))(hb:bs=true:=by rfl):PA X es (TAV K ml pu true fs):=by
 subst hb;exact h
theorem B5{st:Stmt}:PS X st (TZ K ml fun _=>none):=fun _ _ _ _ _ _ ⟨_,_,_,_,_,q,_⟩=>nomatch q
variable{a b c:Expr}{pa ta ia pb tb ib pc tc ic:Bool}{fa fb fc:VF}{pos:Pos}{δ:Ev}
end
section
variable{X:Cx}{K:Ar}{ml:List Nat}{e a b c:Expr}{pa ta ia pb tb ib pu:Bool}{fa fb fc f:VF}{B:Bs}{O:Nat->Option Addr}{H H':Hp}{σ:St}{δ δ':Ev}{v:V}{d:dF}{p:Addr}{pos:Pos}{ks:List (Option Expr)}{vs:List Expr}
theorem ME: ∀{more acc:List (bV×V)},((acc++more).map Bg).Nodup->X0 acc more=acc++more
 |[],acc,_=>by simp[X0]
 | (k,v) :: more,acc,nd => by
  have hk: ∀q∈acc,q.1≠k:=fun q hq z=>by
   rw[Gc,Aq] at nd;exact(Ey.mp nd).2.2 q.1 (Ju hq) k (by simp) z
  have hn:T2 acc k=none:=by
   unfold T2;rw[List.find?_eq_none.mpr fun q hq=>by simpa using hk q hq];rfl
  show X0 (ZF acc k v) more=_;rw[AO v hn,ME (by simpa using nd)];simp
end
theorem UR: ∀(names:List (Str×NameKind)) (n:Nat) (acc:List (Str×Addr)),cellsFrom n names acc=cellsFrom n names []++acc
 |[],_,_=>rfl
 | (x,k) :: r,n,acc => by
  unfold cellsFrom;split
  ·rw[UR r (n+1) ((x,n)::acc),UR r (n+1) [(x,n)]]
   simp
  ·exact UR r n acc
theorem KS: ∀{names:List (Str×NameKind)} {n:Nat} {x:Str} {c:Addr},(x,c)∈cellsFrom n names []->(x,Bz)∈names
 |[],_,_,_,h=>nomatch h
 | (y,k) :: r,n,x,c,h => by
  unfold cellsFrom at h;split at h
  ·rename_i hk
   rw[UR] at h;rcases Bk.mp h with h|h
   ·exact Ap _ (KS h)
   ·cases Bb.mp h
    rw[show k=Bz from beq_iff_eq.mp hk];exact Au
  ·exact Ap _ (KS h)
theorem KR: ∀{names:List (Str×NameKind)} {n:Nat} {x:Str},(x,Bz)∈names-> ∃c,(x,c)∈cellsFrom n names []
 | (y,k) :: r,n,x,h => by
  unfold cellsFrom;rcases Ai.mp h with e|h
  ·cases e
   rw[if_pos (by decide),UR];exact⟨n,Bf _ (Bb.mpr rfl)⟩
  ·split
   ·rw[UR]
    obtain⟨c,hc⟩:=KR (n:=n+1) h;exact⟨c,Cg _ hc⟩
   ·exact KR h
theorem TF: ∀{l:List (Str×Addr)} {x:Str} {c:Addr},(x,c)∈l-> ∃c',l.lookup x=some c'
 | (y,d) :: r,x,c,h => by
  rw[Cp];cases hb:x==y with
  |true=>exact⟨d,rfl⟩
  |false=>
   rcases Ai.mp h with e|h
   ·cases e
    simp at hb
   ·exact TF h
theorem bE: ∀{l m:List (Str×Addr)} {x:Str} {c:Addr},(l++m).lookup x=some c->l.lookup x=some c∨(l.lookup x=none/\m.lookup x=some c)
 |[],_,_,_,h=> .inr ⟨rfl,h⟩
 |(y,d)::r,m,x,c,h=>by
  rw[Fj,Cp] at h;rw[Cp];cases hb:x==y with
  |true=>rw[hb] at h;exact .inl h
  |false=>rw[hb] at h;exact bE h
theorem XF: ∀{l m:List (Str×Addr)} {x:Str},l.lookup x=none->(l++m).lookup x=m.lookup x
 |[],_,_,_=>rfl
 |(y,d)::r,m,x,h=>by
  rw[Cp] at h;rw[Fj,Cp];cases hb:x==y with
  |true=>rw[hb] at h;cases h
  |false=>rw[hb] at h;exact XF h
theorem QD{M:Model}{A:Cz}{E:Value->Af->Prop}{s:Af}{scope:Scope}{globals:Addr}{dm:List (Str×Addr)}{qual:Str}{outer:Env}{Q:Env->Af->Prop}
  (hQ:Q (newEnv scope s.heap.objs.size globals (cellsFrom (s.heap.objs.size+1) scope.names dm) qual none .none (some outer) builtinsNs) {s with heap:=Ky (s.heap.push {cls:= .type "dict",data:= .dict #[]}) scope.names}):
  wpAny M A (Km scope globals dm [] qual none .none (some outer)) Q E s:=by
 simp only[Km,Nu,if_true];refine Ac (wpAny_alloc ?_);refine Ac (wpAny_layCells _ (fun name kind cells=>by cases hkc:kind==Bz<;>simp[hkc]) _ _ _ _ ?_);rw[show({s with heap:=s.heap.push {cls:= .type "dict",data:= .dict #[]}}:Af).heap.objs.size=s.heap.objs.size+1 from Cv ..];rw[Na];exact Ac (Ak (Ak hQ))
theorem X8: ∀{l m:List (Str×Addr)} {x:Str} {c:Addr},l.lookup x=some c->(l++m).lookup x=some c
 |(y,d)::r,m,x,c,h=>by
  rw[Cp] at h;rw[Fj,Cp];cases hb:x==y with
  |true=>rw[hb] at h;exact h
  |false=>rw[hb] at h;exact X8 h
structure T4(X:Cx)(N':List Str)(ix:List Nat)(scope:Scope):Prop where
 kind:scope.kind= .function
 cel: ∀y∈scope.names,y.2= .cell->scope.names.lookup y.1=some .cell
 names: ∀y∈scope.names,y.2= .local->scope.names.lookup y.1=some .local
 free: ∀y∈scope.names,y.2= .free->X.env.kindOf y.1=some .cell∨X.env.kindOf y.1=some .free
 nd:N'.Nodup
 cap: ∀j,j<ix.length->N'[j]? =(ix[j]?).bind fun i=>X.N[i]?
 capf: ∀x∈N'.take ix.length,scope.names.lookup x=some .free
noncomputable def b6(X:Cx)(N':List Str)(scope:Scope)(cl:List (Str×Addr))(s1:Af)(H1:Hp)(fp:List Addr):Cx:=
 {X with N:=N',s₀:=s1,H₀:=H1,env:=Py scope cl s1.heap.objs.size X.env,outer:=X.stack,stack:=X.stack,ex:=fp,fn:=fun x=>scope.names.lookup x==some Bz,pn:=[],xe:=fun _ _=>False}
theorem XV{env:Env}{x:Str}: ∀{l:List (Str×NameKind)},
  ((l.map fun(n,k)=>if(k==Bp && env.scope.kind== .function && env.kindOf n==some .cell) then(n,Bz) else(n,k)).lookup x=some .cell∨
  (l.map fun(n,k)=>if(k==Bp && env.scope.kind== .function && env.kindOf n==some .cell) then(n,Bz) else(n,k)).lookup x=some .free)->(x,Bp)∈l∨(x,Bz)∈l
 |[],h=>by rcases h with z|z<;>cases z
 | (n,k) :: r,h => by
  have h:Nd x ((if(k==Bp && env.scope.kind== .function && env.kindOf n==some .cell)=true then(n,Bz) else(n,k))::r.map fun(n,k)=>if(k==Bp && env.scope.kind== .function && env.kindOf n==some .cell) then(n,Bz) else(n,k))=some .cell∨
   Nd x ((if(k==Bp && env.scope.kind== .function && env.kindOf n==some .cell)=true then(n,Bz) else(n,k))::r.map fun(n,k)=>if(k==Bp && env.scope.kind== .function && env.kindOf n==some .cell) then(n,Bz) else(n,k))=some .free:=h
  by_cases hc:(k==Bp && env.scope.kind== .function && env.kindOf n==some .cell)=true
  ·rw[if_pos hc] at h
   by_cases hx:x=n
   ·subst hx
    have hk:k= .free:=by
     simp only[Ae] at hc;exact beq_iff_eq.mp hc.1.1
    subst hk;exact .inl Au
   ·have hb:(x==n)=false:=beq_eq_false_iff_ne.mpr hx
    simp only[Cp,hb] at h;rcases XV (env:=env) h with z|z
    ·exact .inl (Ap _ z)
    ·exact .inr (Ap _ z)
  ·rw[if_neg hc] at h
   by_cases hx:x=n
   ·subst hx
    rw[Ec] at h;rcases h with z|z
    ·cases z;exact .inr Au
    ·cases z;exact .inl Au
   ·have hb:(x==n)=false:=beq_eq_false_iff_ne.mpr hx
    simp only[Cp,hb] at h;rcases XV (env:=env) h with z|z
    ·exact .inl (Ap _ z)
    ·exact .inr (Ap _ z)
theorem NN{X:Cx}{aa:List (Addr×Obj)}{σ:St}{H2:Hp}{s2:Af}{E:Value->Af->Prop}{tg iter elt:Expr}{ifs:List Expr}{scope:Scope}{pos:Pos}{N':List Str}{ix:List Nat}{nl:Nat}{g:TG}{tt:TT}{te:TE}
  {cl:List (Str×Addr)} {J:It} {fp:List Addr} {it:Addr} {tn:Nat->Heap->Prop} {Q:V->Hp->Prop} {RR:Value->Addr->Ru->Af->Prop}
  (hc:X.calm=true) (S:T4 X N' ix scope) (hnl:N'.length=ix.length+nl)
  (bm: ∀x c,cl.lookup x=some c->X.env.cells.lookup x=some c) (g0: ∀x,(x,Bp)∈scope.names-> ∃c,cl.lookup x=some c)
  (blk: ∀(cl:List (Str×Addr)) (s1:Af) (H1:Hp) (fp:List Addr),Blk (b6 X N' scope cl s1 H1 fp) tg ifs elt g tt te)
  (I2:cT X aa σ H2 s2) (T:KI X.prog X.w X.K tg J fp it tn) (st2:tn 0 s2.heap) (f2: ∀b∈fp,PN X aa H2 b)
  (h: ∀D,H2 D=none->zE3 D ix nl J g tt te σ H2 fun H'=>Q (.ref D) H')
  (fin: ∀(D C:Addr) (s':Af) (H':Hp),cT X aa σ H' s'->(∃m,s'.heap.Ns C m)->C≠X.env.locals->(∀x c,X.env.cells.lookup x=some c->c≠C)→
   (∀(σ':St) (s'':Af) (h'':Heap),cT X aa σ' H' s''->Fk C s''.heap h''->cT X aa σ' H' {s'' with heap:=h''})->Q (.ref D) H'->RR (.ref D) C (.ok .next) s'):
  wpAny (model X.prog X.w) X.A (newList []) (fun acc s₃=>wpAny (model X.prog X.w) X.A (Km scope X.env.globals cl [] X.env.qual none .none (some X.env)) (fun g9 s₄=>
   Jn (model X.prog X.w) X.A (.compStart (.ListComp elt [⟨tg,iter,ifs,0⟩] scope pos) 0 (.ref it) acc {g9 with scope:=relabel scope X.env}) (RR acc g9.locals) s₄) E s₃) E s2:=by
 refine Cr (QD ?_);dsimp only;have I1:cT X aa σ (bN H2 s2.heap.objs.size (.lst [])) {s2 with heap:=s2.heap.push {cls:= .type "list",dict:=none,data:= .seq ([]:List Value).toArray}}:=
  I2.lnew (t':=s2.toks) (ys:=[]) (its:=[]) .nil (Di _)
 have hDn:H2 s2.heap.objs.size=none:=I2.hok.fresh (Ah _);obtain⟨W,⟨m0,w0⟩,turn⟩:=h _ hDn;generalize hs1:({s2 with heap:=s2.heap.push {cls:= .type "list",dict:=none,data:= .seq ([]:List Value).toArray}}:Af)=s1 at I1;have bu:s2.heap.push {cls:= .type "list",dict:=none,data:= .seq ([]:List Value).toArray}=s1.heap:=by rw[<- hs1]
 rw[bu];have old: ∀b o,s1.heap.get? b=some o->(Ky (s1.heap.push {cls:= .type "dict",data:= .dict #[]}) scope.names).get? b=some o:=fun b o e=>Jv _ _ _ _ (Ad _ e);have hns₁:(Ky (s1.heap.push {cls:= .type "dict",data:= .dict #[]}) scope.names).Ns s1.heap.objs.size (fun _=>none):=(Sh s1.heap (.type "dict")).keeps fun b o e=>Jv _ _ _ _ e;have okc:=cellsFrom_ok scope.names (s1.heap.push {cls:= .type "dict",data:= .dict #[]}) (s1.heap.objs.size+1) [] ⟨fun _ _ hm=>(nomatch hm),Kv⟩ (by rw[Cv];exact Ah _);rw[Cv] at okc;generalize hz1:Ky (s1.heap.push {cls:= .type "dict",data:= .dict #[]}) scope.names=h₁ at old hns₁ okc;rw[UR];generalize hnc:cellsFrom (s1.heap.objs.size+1) scope.names []=nc at okc;have ncm: ∀x c,nc.lookup x=some c->(x,Bz)∈scope.names/\h₁.IsCell c none/\s1.heap.objs.size+1<=c:=fun x c e=>by
  have hm:=Br e;exact⟨KS (n:=s1.heap.objs.size+1) (by rw[hnc];exact hm),okc.empty x c hm⟩
 have nch: ∀x,(x,Bz)∈scope.names-> ∃c,nc.lookup x=some c:=fun x h=>by
  obtain⟨c,hc⟩:=KR (n:=s1.heap.objs.size+1) h;rw[hnc] at hc;exact TF hc
 have di: ∀b∈fp,b<s2.heap.objs.size:=fun b hb=>by
  obtain⟨o,e,_⟩:=T.obj _ _ st2 b hb;exact An e
 have fm:s1.heap.objs.size=s2.heap.objs.size+1:=by rw[<- bu,Cv]
 have i7: ∀b o,s2.heap.get? b=some o->s1.heap.get? b=some o:=fun b o e=>by rw[<- bu];exact Ad _ e
 have bz: ∀x c,cl.lookup x=some c->c<s1.heap.objs.size:=fun x c e=>by
  obtain⟨v,q⟩:=I1.cell x c (bm x c e);exact q.lt
 have m8: ∀b∈DG X.stack,b<s1.heap.objs.size:=fun b hb=>by
  obtain⟨_,o,ho,_⟩:=(I1.stack).mem hb;exact An ho
 have okY:(b6 X N' scope (nc++cl) s1 (bN H2 s2.heap.objs.size (.lst [])) fp).Ok:=by
  refine⟨I1.ok.mod,S.kind,I1.ok.glob,I1.ok.blt,Ah _,fun x y c e1 e2=> ?_,fun x hx=> ?_,fun x c hf e=> ?_,I1.ok.hd,I1.ok.frames,.inl rfl,fun b hb=>⟨?_,fun x c e=> ?_⟩,fun b o e=> ?_,
   Cb I1.ok.bsz I1.sz,fun b o e hb=> ?_,fun b hb hb2=> ?_,I1.stack,I1.stkFree⟩
  ·rcases bE e1 with n1|⟨_,o1⟩
   ·rcases bE e2 with n2|⟨_,o2⟩
    ·exact Nz okc.apart (Br n1) (Br n2)
    ·exact absurd (Ax (bz y c o2) (Eo (ncm x c n1).2.2)) (Cd _)
   ·rcases bE e2 with n2|⟨_,o2⟩
    ·exact absurd (Ax (bz x c o1) (Eo (ncm y c n2).2.2)) (Cd _)
    ·exact I1.ok.inj x y c (bm x c o1) (bm y c o2)
  ·cases q:nc.lookup x with
   |some c=>exact⟨c,X8 q⟩
   |none=>
    rcases XV hx with h|h
    ·obtain⟨c,hc⟩:=g0 x h
     exact⟨c,(XF q).trans hc⟩
    ·obtain⟨c,hc⟩:=nch x h
     rw[q] at hc;cases hc
  ·have hx:(x,Bz)∈scope.names:=Br (beq_iff_eq.mp hf)
   obtain⟨c',hc'⟩:=nch x hx;have:=X8 (m:=cl) hc';have e:(nc++cl).lookup x=some c:=e;rw[this] at e;cases e;exact Eo (ncm x c hc').2.2
  ·exact Be (Ax (di b hb) (by show s2.heap.objs.size<=s1.heap.objs.size;rw[fm];exact Fa _))
  ·rcases bE e with n1|⟨_,o1⟩
   ·have h1:=di b hb
    have h2:=(ncm x c n1).2.2;rw[fm] at h2;exact fun z=>absurd (z▸h2) (Ps (Ax h1 (Cb (Fa _) (Fa _))))
   ·exact(f2 b hb).2.2.2.2.1 x c (bm x c o1)
  ·exact I1.bs b o e
  ·have:=(f2 b hb)
   obtain⟨o',e',_⟩:=T.obj _ _ st2 b hb;have hlt:=Ax (An e) I1.ok.bsz;rcases this.2.2.2.1 with z|z
   ·exact I1.ok.noex b o e z
   ·exact absurd (Ax hlt z) (Cd _)
  ·rcases Ai.mp (I1.stkSub b hb2) with z|z
   ·exact(f2 b hb).2.1 z
   ·exact(f2 b hb).2.2.1 z
 have d7:(aV ix σ++Bd nl none).length=N'.length:=by rw[Cf,Iu,hnl];simp[aV]
 have IY:cT (b6 X N' scope (nc++cl) s1 (bN H2 s2.heap.objs.size (.lst [])) fp) [] (aV ix σ++Bd nl none) (bN H2 s2.heap.objs.size (.lst [])) {s2 with heap:=h₁}:=by
  refine⟨okY,?_,I2.bare,Un.kept old,⟨_,hns₁,fun j x v e1 e2 e3=> ?_⟩,fun x c e=> ?_,I1.hok.fresh (Ah _),fun x c e=> ?_,fun p hp=>absurd (show p∈([]:List (Addr×Obj)) from hp) (by simp),I1.hok.kept old,d7⟩
  ·show s2.os=s1.os
   rw[<- hs1]
  ·have hj:j<ix.length:=by
    by_cases hj:j<ix.length
    ·exact hj
    ·exfalso
     have hl:(aV ix σ).length=ix.length:=by simp[aV]
     rw[Bw (by rw[hl];lia),Cy] at e2;split at e2<;>cases e2
   have hl:(aV ix σ).length=ix.length:=by simp[aV]
   rw[Am (by rw[hl];exact hj)] at e2;have hci:=S.cap j hj;obtain⟨i,hi⟩: ∃i,ix[j]? =some i:=⟨ix[j],by simp[hj]⟩;rw[hi] at hci;have hNi:X.N[i]? =some x:=by
    have:N'[j]? =X.N[i]? :=hci;rw[<- this];exact e1
   have hσ:σ[i]? =some (some v):=by
    unfold aV at e2;rw[Co,hi] at e2;have e2':(σ[i]?).join=some v:=by simpa using e2
    cases q:σ[i]? with
    |none=>rw[q] at e2';cases e2'
    |some o=>rw[q] at e2';rw[show o=some v from e2']
   have hfl:scope.names.lookup x=some .free:=S.capf x (by
    rw[Iy];exact⟨j,by rw[Ce hj];exact e1⟩)
   have az:(x,Bp)∈scope.names:=Br hfl;have hpk:X.env.kindOf x=some .cell∨X.env.kindOf x=some .free:=by exact S.free (x,.free) az rfl
   have ig:Vis X.env.scope x:=by
    rcases hpk with z|z
    ·exact .inr (.inl z)
    ·exact .inr (.inr z)
   obtain⟨m,hn,ij⟩:=I1.loc;obtain⟨u,ru,l⟩:=ij i x v hNi hσ ig;refine⟨u,ru,?_⟩;rcases l with⟨hk,_⟩|⟨hk,c,ec,z⟩
   ·rcases hpk with q|q<;>rw[hk] at q<;>cases q
   ·obtain⟨c',hc'⟩:=g0 x az
    have:c'=c:=by
     have:=bm x c' hc';rw[ec] at this;exact(Ck this).symm
    subst this;have ii:nc.lookup x=none:=by
     cases q:nc.lookup x with
     |none=>rfl
     |some d=>
      have:=S.cel (x,.cell) (ncm x d q).1 rfl;rw[hfl] at this;cases this
    refine .inr ⟨V6 hfl,c',(XF ii).trans hc',?_⟩
    ·obtain⟨o,ho,hd⟩:=z
     exact⟨o,old _ _ ho,hd⟩
  ·rcases bE e with n1|⟨_,o1⟩
   ·exact⟨none,(ncm x c n1).2.1⟩
   ·obtain⟨v,o,ho,hd⟩:=I1.cell x c (bm x c o1)
    exact⟨v,o,old _ _ ho,hd⟩
  ·rcases bE e with n1|⟨_,o1⟩
   ·exact I1.hok.fresh (Eo (ncm x c n1).2.2)
   ·exact I1.freeC x c (bm x c o1)
 have il: ∀{pY:List (Addr×Obj)} {σ':St} {H':Hp} {s':Af},cT (b6 X N' scope (nc++cl) s1 (bN H2 s2.heap.objs.size (.lst [])) fp) pY σ' H' s'->cT X aa σ H' s':=fun{pY σ' H' s'} J'=>
  I1.call' J'.os J'.base J'.hok J'.bare fun b hb=>⟨(f2 b hb).2.2.2.1,(f2 b hb).2.1,(f2 b hb).2.2.2.2.1,(f2 b hb).2.2.2.2.2⟩
 have stat: ∀{H':Hp} {pY:List (Addr×Obj)},(∀b∈fp,H' b=none)->pY=[]-> ∀b∈fp,PN (b6 X N' scope (nc++cl) s1 (bN H2 s2.heap.objs.size (.lst [])) fp) pY H' b:=fun{H' pY} hn hp b hb=>by
  subst hp;refine⟨hn b hb,(okY.exf b hb).1,okY.exfs b hb,.inl hb,(okY.exf b hb).2,fun p hp=>absurd (show p∈([]:List (Addr×Obj)) from hp) (by simp)⟩
 have st1:tn 0 h₁:=T.keep 0 s2.heap h₁ st2 fun b hb o e=>old b o (i7 b o e);have fr1: ∀b∈fp,(bN H2 s2.heap.objs.size (.lst [])) b=none:=fun b hb=>by
  rw[cH (Be (di b hb))];exact(f2 b hb).1
 have loop: ∀s₃:Af,s₃={s2 with heap:=h₁}→
   Jn (model X.prog X.w) X.A (.compLoop (.ListComp elt [⟨tg,iter,ifs,0⟩] scope pos) 0 (.ref it) (.ref s2.heap.objs.size) (Py scope (nc++cl) s1.heap.objs.size X.env)) (RR (.ref s2.heap.objs.size) s1.heap.objs.size) s₃:=by
  rintro s₃ rfl;refine C6 (fun n s'=> ∃i σ' H' acc,cT (b6 X N' scope (nc++cl) s1 (bN H2 s2.heap.objs.size (.lst [])) fp) [] σ' H' s'/\σ'.take ix.length=aV ix σ/\tn i s'.heap/\(∀b∈fp,H' b=none)/\W i n acc H') ?_ m0
   ⟨0,_,_,[],IY,by rw[Dd (by simp[aV])];exact Cn (by simp[aV]),st1,fr1,w0⟩
  rintro n s' ⟨i,σ',H',acc,J',hσ,st',fr',w'⟩;have Jc:cT (b6 X N' scope (nc++cl) s1 (bN H2 s2.heap.objs.size (.lst [])) fp) [] (aV ix σ++Bd nl none) H' s':=by
   refine J'.weak (by rw[d7];exact J'.len.symm) fun j v e=> ?_;have hl:(aV ix σ).length=ix.length:=by simp[aV]
   by_cases hj:j<ix.length
   ·rw [Am (by rw [hl];exact hj),<- hσ,Ce hj] at e
    exact e
   ·rw [Bw (by rw [hl];lia),Cy] at e
    split at e<;>cases e
  rcases turn i n acc H' w' with⟨stop,q⟩|⟨go,N,hN,step⟩
  ·refine Bm (T.done (b6 X N' scope (nc ++ cl) s1 (bN H2 s2.heap.objs.size (.lst [])) fp) rfl rfl rfl hc i [] s' _ H' (fun _ _ => False) Jc (stat fr' rfl) st' stop) (fun r s4 ⟨hr,I4⟩ => ?_) fun _ _ z => z
   subst hr;have IX:=il I4;obtain⟨m,hm,_⟩:=I4.loc;exact fin _ _ s4 H' IX ⟨m,hm⟩ (Gw I1.lt) (fun x c e z=>by
    obtain⟨v,q⟩:=I1.cell x c e;have:=q.lt;rw[z] at this;exact Cd _ this) (fun σ'' s'' h'' I'' sb=>cT.offNew I1 I'' I4.free fun b o hb e=>(sb.2 b hb).trans e) q
  ·refine Bm (T.item (b6 X N' scope (nc ++ cl) s1 (bN H2 s2.heap.objs.size (.lst [])) fp) rfl rfl rfl hc i [] s' _ H' (fun _ _ => False) Jc (stat fr' rfl) st' go) (fun r s4 ⟨u,hr,h4⟩ => ?_) fun _ _ z => z
   subst hr;refine Bm h4 (fun _ s5 ⟨x,H5,I5,r5,y5,st5,fr5⟩=> ?_) fun _ _ z=>z;have I5':=I5.pinned (stat fr5 rfl) (T.obj _ _ st5);obtain⟨btg,bts,bel⟩:=blk (nc++cl) s1 (bN H2 s2.heap.objs.size (.lst [])) fp;refine Bm (btg _ s5 _ H5 x u _ I5' r5 (step x H5 y5)) (fun _ s6 ⟨σ6,H6,I6,hσ6,q6⟩=> ?_) fun _ _ z=>z;have again: ∀{H7:Hp} {s7:Af} {ao:List V},cT (b6 X N' scope (nc++cl) s1 (bN H2 s2.heap.objs.size (.lst [])) fp) ([]++Q2 fp s5.heap) σ6 H7 s7->N ao H7→
     ∃m,m<n/\ ∃i σ' H' acc,cT (b6 X N' scope (nc++cl) s1 (bN H2 s2.heap.objs.size (.lst [])) fp) [] σ' H' s7/\σ'.take ix.length=aV ix σ/\tn i s7.heap/\(∀b∈fp,H' b=none)/\W i m acc H':=fun{H7 s7 ao} I7 n7=>by
    obtain⟨m',hm,w7⟩:=hN ao H7 n7;refine⟨m',hm,i+1,σ6,H7,ao,I7.unpinned,hσ6,T.keep _ _ _ st5 fun b hb o e=>(I7.pin (b,o) (Bf _ (Bf _ (YI hb e)))).1,fun b hb=> ?_,w7⟩;obtain⟨o,e,d⟩:=T.obj _ _ st5 b hb;exact(I7.pin (b,o) (Bf _ (Bf _ (YI hb e)))).2.1
   refine Bm (bts _ s6 σ6 H6 _ I6 q6) (fun okb s7 ⟨H7,I7,q7⟩=> ?_) fun _ _ z=>z;cases okb with
   |false=>exact again I7 q7
   |true=>
    refine Bm (bel _ s7 σ6 H7 _ I7 q7) (fun v s8 ⟨y,H8,I8,r8,hD8,hz8,n8⟩=> ?_) fun _ _ z=>z;refine Bm (bF (X:=b6 X N' scope (nc++cl) s1 (bN H2 s2.heap.objs.size (.lst [])) fp) _ s8 σ6 H8 (.ref s2.heap.objs.size) [y] (.ref s2.heap.objs.size) [v] (fun _ H9=>N (acc++[y]) H9) I8 rfl (.cons r8 .nil)
     ⟨s2.heap.objs.size,acc,y,rfl,rfl,hD8,hz8,n8⟩) (fun _ s9 ⟨_,H9,I9,_,n9⟩=>again I9 n9) fun _ _ z=>z
 have he:({newEnv scope s1.heap.objs.size X.env.globals (nc++cl) X.env.qual none .none (some X.env) builtinsNs with scope:=relabel scope X.env}:Env)=Py scope (nc++cl) s1.heap.objs.size X.env:=rfl;exact codeAny_compStart_list (loop _ rfl) (T.self _ 0 _ _ _ st1 (loop _ rfl))
theorem AA{X:Cx}{tg iter elt:Expr}{ifs:List Expr}{scope:Scope}{pos:Pos}{N':List Str}{ix:List Nat}{nl:Nat}{wi:TI}{g:TG}{tt:TT}{te:TE}
  (hc:X.calm=true) (S:T4 X N' ix scope) (hnl:N'.length=ix.length+nl) (hi:PI X tg iter wi)
  (blk: ∀(cl:List (Str×Addr)) (s1:Af) (H1:Hp) (fp:List Addr),Blk (b6 X N' scope cl s1 H1 fp) tg ifs elt g tt te)
  (hs: ∀x,foldedSetIterable iter X.env x=pure x:=by intro _;rfl):PE X (.ListComp elt [⟨tg,iter,ifs,0⟩] scope pos) (F6 ix nl wi g tt te):=by
 intro aa s σ H Q I h;rw[eval_ListComp];obtain⟨cl,e1,e2,e3⟩:=KW (env:=X.env) (scope:=scope) fun y hy hf=>I.ok.has y.1 (S.free y hy hf);refine Hm (use:=none) (cl:=cl) rfl hs e1 S.kind S.names (Bm (hi aa s σ H _ I h) (fun xv s₁ h₁=>Bm h₁ (fun itv s₂ h₂=> ?_) fun _ _ e=>e) fun _ _ e=>e);obtain⟨it,fp,tn,J,H2,e,I2,T,st2,f2,q⟩:=h₂;subst e;refine NN (Q:=Q) (RR:=fun acc C=>compPost (model X.prog X.w) X.A X.xe none (EP X aa σ Q) acc C) hc S hnl e2 e3 blk I2 T st2 f2 q ?_;intro D C s' H' I' hm hC1 hC2 hb hq;obtain⟨m,hm⟩:=hm;exact⟨m,hm,fun h'' sb=>⟨.ref D,H',hb σ s' h'' I' sb,rfl,hq⟩⟩
section
variable{X:Cx}{K:Ar}{ml:List Nat}{pi pt pe pu:Bool}{pos:Pos}{ix:List Nat}{nl:Nat}{f:VF}
noncomputable def QO(N N':List Str)(ix:List Nat)(names:List (Str×NameKind))(k:Str->Option NameKind):Bool:=
 names.all (fun y=>y.2 != .cell || names.lookup y.1==some .cell) && (names.all (fun y=>y.2 != .local || names.lookup y.1==some .local) && (names.all (fun y=>y.2 != .free || (k y.1==some .cell || k y.1==some .free)) &&
  (decide N'.Nodup && ((Az ix.length).all (fun j=>N'[j]? ==(ix[j]?).bind fun i=>N[i]?) && (N'.take ix.length).all fun x=>names.lookup x==some .free))))
theorem Y3{N':List Str}{scope:Scope}(hk:scope.kind= .function)(h:QO X.N N' ix scope.names X.env.kindOf=true):T4 X N' ix scope:=by
 unfold QO at h;simp only[Ae,Iz,Hv,bne_iff_ne,beq_iff_eq,decide_eq_true_eq,Dm] at h;obtain⟨h1,h2,h3,h4,h5,h6⟩:=h;exact⟨hk,fun y hy e=>(h1 y hy).resolve_left fun z=>z e,fun y hy e=>(h2 y hy).resolve_left fun z=>z e,fun y hy e=>(h3 y hy).resolve_left fun z=>z e,h4,h5,h6⟩
abbrev BlkC(X:Cx)(K:Ar)(N':List Str)(ix:List Nat)(scope:Scope)(tg:Expr)(ifs:List Expr)(elt:Expr)(gg:VG)(pt:Bool)(tb:VB)(pe:Bool)(fe:VF):Prop:=N'.Nodup-> ∀(cl:List (Str×Addr)) (s1:Af) (H1:Hp) (fp:List Addr),Blk (b6 X N' scope cl s1 H1 fp) tg ifs elt (TGV K (Az ix.length) gg) (TB K (Az ix.length) pt tb) (TV K (Az ix.length) pe true true fe)
theorem aB{tg iter elt:Expr}{ifs:List Expr}{scope:Scope}{fi:VI}{gg:VG}{tb:VB}{fe:VF}(N':List Str)(ix:List Nat)(nl:Nat)(hi:PI X tg iter (CI K ml pi fi))(blk:BlkC X K N' ix scope tg ifs elt gg pt tb pe fe)(hc:X.calm=true:=by rfl)(hk:scope.kind= .function:=by rfl)(hok:QO X.N N' ix scope.names X.env.kindOf=true:=by rfl)(hnl:N'.length=ix.length+nl:=by rfl)(hnd:ix.Nodup:=by decide)
  (hs: ∀x,foldedSetIterable iter X.env x=pure x:=by intro _;rfl):PE X (.ListComp elt [⟨tg,iter,ifs,0⟩] scope pos) (TN K ml (pi && pt && pe) (aL ix nl fi gg tb fe)):=
 (AA hc (Y3 hk hok) hnl hi (blk (Y3 hk hok).nd) hs).imp fun _ _ _ h=>F7 hnd h
theorem JM{i:Nat}{y:Str}{py cx:Pos}{tg iter elt:Expr}{ifs:List Expr}{scope:Scope}{N':List Str}{wi:TI}{g:TG}{tt:TT}{te:TE}
  (hN:X.N.Nodup) (hi':X.N[i]? =some y) (hy:X.env.scope.names.lookup y=some .local)
  (hc:X.calm=true) (S:T4 X N' ix scope) (hnl:N'.length=ix.length+nl) (hi:PI X tg iter wi)
  (blk: ∀(cl:List (Str×Addr)) (s1:Af) (H1:Hp) (fp:List Addr),Blk (b6 X N' scope cl s1 H1 fp) tg ifs elt g tt te)
  (hsw:Hn (.ListComp elt [⟨tg,iter,ifs,0⟩] scope pos) (some (.Name y py)) cx.line X.env=pure true:=by rfl)
  (hs: ∀x,foldedSetIterable iter X.env x=pure x:=by intro _;rfl):PS X (.Assign [.Name y py] (.ListComp elt [⟨tg,iter,ifs,0⟩] scope pos) cx) (tAsg (F6 ix nl wi g tt te) (EW i)):=by
 intro aa s σ H D I h;rw[exec_Assign_Name_used _ _ _ _ hsw];refine Ac (Ge (Ac ?_));show wpAny _ X.A (do let _<- comprehension (.ListComp elt [⟨tg,iter,ifs,0⟩] scope pos) scope X.env _ (newList []) false (eval iter X.env) (some (Gv (.Name y py) X.env))) _ _ s;obtain⟨cl,e1,e2,e3⟩:=KW (env:=X.env) (scope:=scope) fun y hy hf=>I.ok.has y.1 (S.free y hy hf);refine Ac (Bm (Hm (use:=some (Gv (.Name y py) X.env)) (cl:=cl) (Q:=fun _ s'=>SP X aa D .next s') rfl hs e1 S.kind S.names
  (Bm (hi aa s σ H _ I h) (fun xv s₁ h₁=>Bm h₁ (fun itv s₂ h₂=> ?_) fun _ _ e=>e) fun _ _ e=>e)) (fun _ s' hq=>Ak (Ak hq)) fun _ _ e=>e)
 obtain⟨it,fp,tn,J,H2,e,I2,T,st2,f2,q⟩:=h₂;subst e;refine NN (Q:=fun v H'=>D.nx (σ.set i (some v)) H') (RR:=fun acc C=>compPost (model X.prog X.w) X.A X.xe (some (Gv (.Name y py) X.env)) (fun _ s'=>SP X aa D .next s') acc C) hc S hnl e2 e3 blk I2 T st2 f2 q ?_;intro Dl C s' H' I' hm hC1 hC2 hb hq;obtain⟨m,hm⟩:=hm;show wpAny _ X.A (Gv (.Name y py) X.env (.ref Dl)) _ _ _;refine Ih (MR I' hN hi' (.inl hy) (v:= .ref Dl) rfl (fun s'' I'' ⟨a,hsb,ha⟩=> ?_) (.inr hy));have hCa:C≠a:=by
  rcases ha with z|z
  ·rw[z];exact hC1
  ·exact Dr (hC2 y a z)
 exact⟨m,hm.sameBut hsb hCa,fun h'' sb=>⟨_,H',hb _ s'' h'' I'' sb,hq⟩⟩
theorem J5{i:Nat}{y:Str}{py cx:Pos}{tg iter elt:Expr}{ifs:List Expr}{scope:Scope}{fi:VI}{gg:VG}{tb:VB}{fe:VF}(o:Bool)(hN:X.N.Nodup)(N':List Str)(ix:List Nat)(nl:Nat)(hi:PI X tg iter (CI K ml pi fi))(blk:BlkC X K N' ix scope tg ifs elt gg pt tb pe fe)(hi':X.N[i]? =some y:=by rfl)(hy:X.env.scope.names.lookup y=some .local:=by rfl)
  (hc:X.calm=true:=by rfl) (hk:scope.kind= .function:=by rfl) (hok:QO X.N N' ix scope.names X.env.kindOf=true:=by rfl) (hnl:N'.length=ix.length+nl:=by rfl) (hnd:ix.Nodup:=by decide) (hm:i∉ml:=by decide)
  (hsw:Hn (.ListComp elt [⟨tg,iter,ifs,0⟩] scope pos) (some (.Name y py)) cx.line X.env=pure true:=by rfl)
  (hs: ∀x,foldedSetIterable iter X.env x=pure x:=by intro _;rfl):PS X (.Assign [.Name y py] (.ListComp elt [⟨tg,iter,ifs,0⟩] scope pos) cx) (TZ K ml (Z9 i (if o then xO (aL ix nl fi gg tb fe) else xV (aL ix nl fi gg tb fe)))):=
 (JM hN hi' hy hc (Y3 hk hok) hnl hi (blk (Y3 hk hok).nd) hsw hs).imp fun D σ H h=>BO (fun σ H Q z=>F7 hnd (zDC (pu:=pi && pt && pe) z)) hm h
end
section
variable{X:Cx}{K:Ar}{ml:List Nat}{e a b c:Expr}{es:List Expr}{pi pt pe pu bt bi ps bs:Bool}{f:VF}{B B':Bs}{O:Nat->Option Addr}{H H0 H1 H':Hp}{σ:St}{δ δ':Ev}{v:V}{d:dF}{p:Addr}{pos:Pos}{ix:List Nat}{nl:Nat}
def zJY(K:Ar)(N:Addr->Prop)(J:It)(H:Hp)(ds:List dF):Prop:= ∃xs:List V,cO K N H xs ds/\ ∀H2,bI H H2->(∀(i:Nat) (x:V),xs[i]? =some x->J.go i H2/\ ∀y H3,J.yld i H2 y H3->H3=H2/\y=x)/\J.stop xs.length H2
def TIVp(K:Ar)(ml:List Nat)(f:VI):TI:=fun σ H R=> ∃B O δ ds δ',bA K ml B O H σ δ/\f δ=some (ds,δ')/\ ∀J H',bA K ml B O H' σ δ'->bI H H'->zJY K (Nn B O) J H' ds->R J H'
theorem BR{fi:VI}{gg:VG}{tb:VB}{fe:VF}(hnd:ix.Nodup){Q:VK}(h:TN K ml true (aL ix nl fi gg tb fe) σ H Q):
  F6 ix nl (TIVp K ml fi) (TGV K (Az ix.length) gg) (TB K (Az ix.length) true tb) (TV K (Az ix.length) true true true fe) σ H Q:=by
 obtain⟨B,O,δ,d,δ2,S,q,k⟩:=h;unfold aL at q;obtain⟨⟨ds,δ1⟩,h1,q⟩:=Aa.mp q;have q:((aS ix.length nl gg tb fe ds [] (bX ix δ1)).map fun q=>(dF.lst q.1,ZX ix q.2 δ1))=some (d,δ2):=q;obtain⟨⟨res,δf⟩,h2,q⟩:=Ao.mp q;cases q;refine⟨B,O,δ,ds,δ1,S,h1,fun J H0 S0 p0 wk D hD=> ?_⟩;obtain⟨els,rel,wk⟩:=wk;have hDO: ∀j,Oc ix O j≠some D:=fun j e=>by
  unfold Oc at e;obtain⟨i,hi,e⟩:=Aa.mp e;obtain⟨o,q⟩:=S0.nin (.inr ⟨i,e⟩);rw[hD] at q;cases q
 have cy: ∀kp j,ix.length<=j->(Bc ix B O H0 D kp).mu j=none:=fun kp j hj=>by
  show(ix[j]?).bind O=none;rw[Bv hj];rfl
 refine⟨fun i m acc H1=>m=ds.length - i/\i<=ds.length/\ ∃(ak:List dF) (δc:Ev),δc.length=ix.length/\acc.length=ak.length∧
   bA K (Az ix.length) (Bc ix B O H0 D (acc.zip ak)) (Oc ix O) H1 (aV ix σ++Bd nl none) (δc++OC nl)/\H1 D=some (.lst acc)/\bI H0 H1∧
   aS ix.length nl gg tb fe (ds.drop i) ak δc=some (res,δf),
  ⟨ds.length,rfl,Di _,[],bX ix δ1,by simp [bX],rfl,by
   rw[Ot];exact S0.inner hD hnd fun p hp=>(nomatch hp),cS,c8 hD,h2⟩,?_⟩
 rintro i m acc H1 ⟨rfl,hi,ak,δc,hlc,aw,S1,hD1,bp,hc⟩;have w:=wk H1 bp;have lh:cO K (Nn (Bc ix B O H0 D (acc.zip ak)) (Oc ix O)) H1 els ds:=(rel.away hD _ _ OB).same bp;by_cases hlt:i<ds.length
 ·obtain ⟨ex,ex1,ex2⟩ := lh.get (i := i) (d := ds[i]) (by simp [hlt])
  obtain⟨go,yl⟩:=w.1 i ex ex1;rw[De hlt] at hc;simp only[aS] at hc;obtain⟨δ3,g1,hc⟩:=Aa.mp hc;obtain⟨⟨kk,δ4⟩,g2,hc⟩:=Aa.mp hc;refine .inr ⟨go,fun ao H'=> ∃(ak:List dF) (δc:Ev),δc.length=ix.length/\ao.length=ak.length∧
   bA K (Az ix.length) (Bc ix B O H0 D (ao.zip ak)) (Oc ix O) H' (aV ix σ++Bd nl none) (δc++OC nl)/\H' D=some (.lst ao)/\bI H0 H'∧
   aS ix.length nl gg tb fe (ds.drop (i+1)) ak δc=some (res,δf),fun ao H' w'=>⟨ds.length - (i+1),by lia,rfl,hlt,w'⟩,fun x H2 hy=> ?_⟩
  obtain⟨rfl,rfl⟩:=yl x H2 hy;have rx:=ex2;have sm:=bI.refl H2;refine⟨_,_,_,ds[i],δ3,S1.same sm,rx,g1,fun σ3 O3 S3 m3=> ?_⟩;have ln3:=KQ m3;have hσ3:=Q8 ln3 m3;refine⟨hσ3,_,_,δ3,kk,δ4,S3,g2,fun H4 R4=> ?_⟩;have hD4:H4 D=some (.lst acc):=R4.frm _ _ (sm _ _ hD1) fun z=>by
   obtain⟨j,e⟩:=z;have:=(R4.sta.old j D e).1;exact absurd (.inl (.inr rfl)) this
  have ln4:ix.length<=δ4.length:=by rw[<- R4.sta.len];exact ln3
  cases kk with
  |false=>
   rw[if_neg Dt] at hc;refine NC ⟨ak,δ4.take ix.length,by rw[Bu];lia,aw,R4.sta.turn (cy _) (YQ ix σ) hσ3 ln4,hD4,?_,hc⟩;exact(bp.trans sm).trans (R4.pur rfl)
  |true=>
   rw[if_pos rfl] at hc;obtain⟨⟨dv,δ5⟩,g3,hc⟩:=Aa.mp hc;split at hc
   ·rename_i hz
    refine ND ⟨_,_,δ4,dv,δ5,R4.sta,g3,fun v H5 R5=> ?_⟩;have hD5:H5 D=some (.lst acc):=R5.frm _ _ hD4 fun z=>by
     obtain⟨j,e⟩:=z;have:=(R5.sta.old j D e).1;exact absurd (.inl (.inr rfl)) this
    have ln5:ix.length<=δ5.length:=by rw[<- R5.sta.len];exact ln3
    have S6:=R5.sta.turn (nl:=nl) (cy _) (YQ ix σ) hσ3 ln5;have hv:bR K (Nn (Bc ix B O H0 D (acc.zip ak)) (Oc ix O)) H5 (Nn (Bc ix B O H0 D (acc.zip ak)) (Oc ix O)) v dv:=by
     have hN: ∀a,Nn (Bc ix B O H0 D (acc.zip ak)) (Oc ix O) a->av (Bc ix B O H0 D (acc.zip ak)) O3 true a:=fun a h=>by
      rcases h with h|⟨j,h⟩
      ·exact .inl h
      ·refine .inr ⟨j,?_⟩
       have hj:j∈Az ix.length:=R5.sta.par.1 j a h;rw[R5.sta.par.2 j hj];exact h
     exact R5.rep.mono hN hN
    have S7:=S6.withKp (kp:=(acc++[v]).zip (ak++[dv])) fun p hp=>by
     rw[Qi aw] at hp;rcases Bk.mp hp with z|z
     ·exact S6.kep p z
     ·rw[Bb.mp (show p∈[(v,dv)] from z)]
      exact hv
    refine⟨hD5,by rw[aw,Cm];exact hz,ak++[dv],δ5.take ix.length,by rw[Bu];lia,by simp[aw],?_,cS,?_,hc⟩
    ·exact S7.writeZ (.inl (.inr rfl)) hD5 hD
    ·intro b o e
     have hb:b≠D:=fun z=>by rw[z,hD] at e;cases e
     rw[cH hb];exact((bp.trans sm).trans ((R4.pur rfl).trans (R5.pur rfl))) b o e
   ·cases hc
 ·have e : i = ds.length := by lia
  subst e;rw[Dw] at hc;cases hc;refine .inl ⟨by rw[<- rel.length];exact w.2,k D H1 ?_⟩;have fP:Fr (OA (Oc ix O)) H0 H1:=S1.frm;have hPO: ∀a,OA (Oc ix O) a->OA O a:=fun a q0=>by
   obtain⟨j,e⟩:=q0;unfold Oc at e;cases hi:ix[j]? with
   |none=>rw[hi] at e;cases e
   |some i=>rw[hi] at e;exact⟨i,e⟩
  have SL:=S0.laid (o:= .lst acc) hD;have fL:Fr (OA (Oc ix O)) (bN H0 D (.lst acc)) H1:=fun b o e n=>by
   by_cases hb:b=D
   ·subst hb
    rw[cS] at e;cases e;exact hD1
   ·rw[cH hb] at e
    exact fP b o e n
  refine⟨SL.call (YF) (fun i=> ?_) fL hPO,(p0.fr (P:=OA O)).trans (fP.mono hPO),fun z=> ?_,.lst hD1 (UI aw fun p hp=>(S1.kep p hp).mono TK TK),S0.new hD,S0.fresh hD⟩
  ·by_cases cz:i<δ1.length
   ·rcases XN (ix:=ix) (ss:=δf) (δ:=δ1) i cz hlc.symm with⟨j,x,e1,e2,e3⟩|⟨e1,e2⟩
    ·have e4:(δf++OC nl)[j]? =some (.ow x):=by
      rw[Am (Ag.mp e2).1];exact e2
     obtain⟨a,e5,_,w⟩:=S1.ow j x e4;refine .inr ⟨a,x,?_,e3,w.mono TK⟩;unfold Oc at e5;rw[e1] at e5;exact e5
    ·refine .inl ⟨e2,fun a ea ⟨j,ej⟩ => ?_⟩
     obtain⟨x,ex⟩:=S1.dom j a ej;unfold Oc at ej;cases hi:ix[j]? with
     |none=>rw[hi] at ej;cases ej
     |some i'=>
      rw[hi] at ej;have:i=i':=S0.inj i i' a ea ej;subst this;have hj:j<δf.length:=by rw[hlc];exact(Ag.mp hi).1
      rw[Am hj] at ex;exact e1 j x hi ex
   ·refine .inl ⟨?_,fun a ea => ?_⟩
    ·rw[Bv (by rw[YF];lia),Bv (by lia)]
    ·obtain⟨x,ex⟩:=S0.dom i a ea
     exact absurd (Ag.mp ex).1 cz
  ·exact p0.trans bp
theorem bI.sqT{a:Addr}{xs:List V}(s:bI H H')(h:WS K H a xs):WS K H' a xs:=Fr.tup (P:=fun _=>False) s.fr h
theorem BY{tg:Expr}(hK:X.K=K)(h:PE X e (TV K ml true bt bi f))(hb:bi=true:=by rfl):PI X tg e (TIVp K ml (XA f)):=by
 subst hb;refine((zAP (K:=K) hK h).or (zDV (K:=K) hK h)).imp fun σ H R hq0=> ?_;obtain⟨B,O,δ,ds,δ',S,q,k⟩:=hq0;unfold XA at q;obtain⟨⟨x,δ1⟩,h1,q⟩:=Aa.mp q;cases x with
 |lst ds'=>
  cases q;refine .inl ⟨B,O,δ,_,δ1,S,h1,fun v H1 R1=> ?_⟩;obtain⟨a,xs,rfl,sq,r⟩:=R1.rep.lstE;refine⟨a,rfl,⟨xs,sq⟩,k _ H1 R1.sta (R1.pur rfl) ⟨xs,r,fun H2 sm=>⟨fun i x ex=>⟨⟨xs,x,sm.seq sq,ex⟩,fun y H3 hy=> ?_⟩,xs,sm.seq sq,Ah _⟩⟩⟩;obtain⟨e2,e3⟩:=hy;have:=e3 xs (sm.seq sq);rw[ex] at this;cases this;exact⟨e2,rfl⟩
 |tup ds'=>
  cases q;refine .inr ⟨B,O,δ,_,δ1,S,h1,fun v H1 R1=> ?_⟩;obtain⟨a,xs,rfl,sq,r⟩:=R1.rep.tupE;refine⟨a,rfl,⟨xs,sq⟩,k _ H1 R1.sta (R1.pur rfl) ⟨xs,r,fun H2 sm=>⟨fun i x ex=>⟨⟨xs,x,sm.sqT sq,ex⟩,fun y H3 hy=> ?_⟩,xs,sm.sqT sq,Ah _⟩⟩⟩;obtain⟨e2,e3⟩:=hy;have:=e3 xs (sm.sqT sq);rw[ex] at this;cases this;exact⟨e2,rfl⟩
 |_=>cases q
theorem J6{i:Nat}{y:Str}{py cx:Pos}{tg iter elt:Expr}{ifs:List Expr}{scope:Scope}{fi:VI}{gg:VG}{tb:VB}{fe:VF}(o:Bool)(hN:X.N.Nodup)(N':List Str)(ix:List Nat)(nl:Nat)(hi:PI X tg iter (TIVp K ml fi))(blk:BlkC X K N' ix scope tg ifs elt gg pt tb pe fe)(hi':X.N[i]? =some y:=by rfl)(hy:X.env.scope.names.lookup y=some .local:=by rfl)
  (hc:X.calm=true:=by rfl) (hk:scope.kind= .function:=by rfl) (hok:QO X.N N' ix scope.names X.env.kindOf=true:=by rfl) (hnl:N'.length=ix.length+nl:=by rfl) (hnd:ix.Nodup:=by decide) (hp:(pt && pe)=true:=by rfl) (hm:i∉ml:=by decide)
  (hsw:Hn (.ListComp elt [⟨tg,iter,ifs,0⟩] scope pos) (some (.Name y py)) cx.line X.env=pure true:=by rfl)
  (hs: ∀x,foldedSetIterable iter X.env x=pure x:=by intro _;rfl):PS X (.Assign [.Name y py] (.ListComp elt [⟨tg,iter,ifs,0⟩] scope pos) cx) (TZ K ml (Z9 i (if o then xO (aL ix nl fi gg tb fe) else xV (aL ix nl fi gg tb fe)))):=by
 obtain⟨h1,h2⟩:=(Ae _ _).mp hp;subst h1 h2;exact(JM hN hi' hy hc (Y3 hk hok) hnl hi (blk (Y3 hk hok).nd) hsw hs).imp fun D σ H h=>BO (fun σ H Q z=>BR hnd (zDC (pu:=true) z)) hm h
end
section
variable{X:Cx}{K:Ar}{ml:List Nat}{e a b c:Expr}{es:List Expr}{pa ta ia pb tb ib pc tc ic pu bt bi ps bs:Bool}{fa fb fc f:VF}{pos p':Pos}{d:dF}{x:Str}
theorem vv(i:Nat)(hN:X.N[i]? =some x:=by rfl)(hv:Vis X.env.scope x:=by first|exact Mh rfl|exact Mi (Mh rfl)|exact Mi (Mi rfl))(hd:(x==("__debug__":Str))=false:=by decide)
  (hcd:(x==("__classdict__":Str))=false:=by decide):PE X (.Name x pos) (TV K ml true true true (fV i)):=zE7 (HA hN hv hd hcd)
theorem vo(i:Nat)(hN:X.N[i]? =some x:=by rfl)(hv:Vis X.env.scope x:=by first|exact Mh rfl|exact Mi (Mh rfl)|exact Mi (Mi rfl))(hd:(x==("__debug__":Str))=false:=by decide)
  (hcd:(x==("__classdict__":Str))=false:=by decide):PE X (.Name x pos) (TV K ml true false true (fO i)):=zE8 (HA hN hv hd hcd)
theorem Z6(hu:X.A.units+1<cLine)(ha:PE X a (TV K ml pa ta ia fa))(hb:PE X b (TV K ml pb tb ib fb))(hK:X.K=K:=by rfl)(hx:KG b:=by exact fun _ _=>rfl)(hs:(pb || (ta && ia))=true:=by rfl):PE X (.Subscript a b pos) (TV K ml (pa && pb) ia ia (f2 cN fa fb)):=
 zHK (kIxA hK hu) zJG ha hb hx hs
theorem veq(hu:X.A.units+64<cLine)(ha:PE X a (TV K ml pa ta ia fa))(hb:PE X b (TV K ml pb tb ib fb))(hK:X.K=K:=by rfl)(hs:(pb || (ta && ia))=true:=by rfl):PE X (.Compare a [.Eq] [b] pos) (TV K ml (pa && pb) true true (f2 W9 fa fb)):=
 YW (kEqD hK hu) s_eq ha hb (aK _) hs
theorem U8(hu:X.A.units+64<cLine)(ha:PE X a (TV K ml pa ta ia fa))(hb:PE X b (TV K ml pb tb ib fb))(hK:X.K=K:=by rfl)(hs:(pb || (ta && ia))=true:=by rfl):PT X (.Compare a [.Eq] [b] pos) (TB K ml (pa && pb) (fB (f2 W9 fa fb))):=
 bW (kEqD hK hu) s_eq ha hb (aK _) hs
theorem bP{kk j n:Nat}{qs:List Str}{mF:List Nat}{F:a0}{ff:Addr}{fs:GK}(D:Def X.prog X.w K X.mg X.base x kk qs (spV K mF n F) ff)(hr:XO j X.A)(ha:PA X (e::es) (TAG K ml ps fs))(hK:X.K=K:=by rfl)(hk:kk<=j:=by decide)(hg:Gl X x:=by rfl)(hdb:(x==("__debug__":Str))=false:=by decide)
  (he:Aj (e::es) X.env=(false,eval e X.env)::Aj es X.env:=by rfl) (hpl:(Gh pos (Aj es X.env)).any (·.1)=false:=by rfl):
  PE X (.Call (.Name x p') (e::es) [] pos) (TV K ml (ps && mF.isEmpty) true true (cU n mF F fs)):=zBN hK D hr hk hg ha hdb he hpl
theorem Y0(hm:X.mg "len"=none) (ha:PE X a (TV K ml pa ta ia fa)) (hK:X.K=K:=by rfl) (hg:Gl X "len":=by rfl) (he:Aj (a::[]) X.env=(false,eval a X.env)::Aj [] X.env:=by rfl):PE X (.Call (.Name "len" p') [a] [] pos) (TV K ml pa true true (f1 aF fa)):=
 zDB (zJC hK) zI6 hg hm zHB ha (by decide) (by decide) he
theorem vty{n:String}(hm:X.mg x=none)(hv:Bj x=some (.type n))(hg:Gl X x:=by rfl)(hn:x≠ "__name__":=by decide) (hd:(x==("__debug__":Str))=false:=by decide):PE X (.Name x pos) (TV K ml true true true (fC (.ty n))):=
 EG (zCE (v:= .ty n) hg hm hv rfl hn hd) fun _ _ _=> .ty _
theorem EI(hm:X.mg "isinstance"=none) (ha:PE X a (TV K ml pa ta ia fa)) (hb:PE X b (TV K ml pb tb ib fb)) (hK:X.K=K:=by rfl) (hg:Gl X "isinstance":=by rfl)
  (he:Aj (a::[b]) X.env=(false,eval a X.env)::Aj [b] X.env:=by rfl) (he2:Aj (b::[]) X.env=(false,eval b X.env)::Aj [] X.env:=by rfl) (hpl:(Gh pos (Aj [b] X.env)).any (·.1)=false:=by rfl) (hs:(pb || (ta && ia))=true:=by rfl):
  PE X (.Call (.Name "isinstance" p') [a,b] [] pos) (TV K ml (pa && pb) true true (f2 Q0 fa fb)):=BU (kIsi hK) zI7 hg hm M8 ha hb (by decide) (by decide) he he2 hpl hs
end
def A4(K:Ar)(x:Str)(st:Stmt)(f:Addr):Prop:= ∃(oc:Value) (od:Option Addr) (kV doc pm:Value) (an:Option Addr) (cdv ct:Value) (osl:Array (Option Value)),Pg K mainGlobals x=some (some (.ref f))∧
 K.lookup f=some ⟨oc,od,.func (Mx x x (X9 st) (ZL st) (cY st) .none kV doc pm an cdv ct),osl⟩/\Nq K cdv x=true/\Mq K (.ref f)=true
theorem a4{K:Ar}{x:Str}{st:Stmt}{f:Addr}{oc:Value}{od:Option Addr}{kV doc pm:Value}{an:Option Addr}{cdv ct:Value}{osl:Array (Option Value)}(a:Pg K mainGlobals x=some (some (.ref f)))
  (b:K.lookup f=some ⟨oc,od,.func (Mx x x (X9 st) (ZL st) (cY st) .none kV doc pm an cdv ct),osl⟩) (c:Nq K cdv x=true) (d:Mq K (.ref f)=true):A4 K x st f:=⟨oc,od,kV,doc,pm,an,cdv,ct,osl,a,b,c,d⟩
theorem YZ{P:Bq}{w:World}{K:Ar}{mg:Str->Option Value}{base h:Heap}{x:Str}{st:Stmt}{f:Addr}{ps:List Str}{sp:Sp}{k:Nat}(X:K.In h)(G:h.Ns mainGlobals mg)(p:A4 K x st f)(ok: ∀{fd:Gp},WE K x x st f fd->aG P w K mg base CX0 k f fd ps sp)
  (hb: ∀{kV doc pm:Value} {an:Option Addr} {cdv ct:Value} (us:List Value),us.length=ps.length->bindArgs (Mx x x (X9 st) (ZL st) (cY st) .none kV doc pm an cdv ct) ⟨us,[]⟩=pure (ps.zip us)):Def P w K mg base x k ps sp f:=by
 obtain⟨oc,od,kV,doc,pm,an,cdv,ct,osl,a,b,c,d⟩:=p;have U:=zB2 (st:=st) b c d;exact⟨Jw X G a,⟨_,ok U,U.binds fun _ _ _ _ _ _=>hb⟩,d⟩
theorem TL(P:Bq)(w:World)(K:Ar)(mg:Str->Option Value)(base:Heap){x qual:Str}{st:Stmt}{f:Addr}{fd:Gp}(N ps:List Str)(k:Nat)(g:VS)(ml:List Nat)(F:WE K x qual st f fd)(S:cJ N ps (cY st))
  (ca: ∀(cdv:Value) (A:Cz) (outer:List Env) (s:Af) (H:Hp) (E:XK) (hr:XO k (A.deeper (Lp qual (cY st) s.heap.objs.size f cdv))) (_:(A.deeper (Lp qual (cY st) s.heap.objs.size f cdv)).units+64<cLine) (_:(A.deeper (Lp qual (cY st) s.heap.objs.size f cdv)).units+1<cLine),
   PR (IE CX0 P w K mg base N qual (cY st) f cdv A outer s H E).nox (ZL st) (TZ K ml g)) (hps:ps.length<=N.length:=by decide):aG P w K mg base CX0 (k+1) f fd ps (spV K ml ps.length (Z0 N.length ml g)):=
 WE.okV F S hps fun cdv A outer s H E hr=>ca cdv A outer s H E hr hr.units (zJL hr)
theorem Y7{N P:List Str}{sc:Scope}(a:sc.kind= .function:=by rfl)(b:sc.isCoroutine=false:=by rfl)(c:sc.isGenerator=false:=by rfl)(d:N.Nodup:=by decide+kernel)(e:N.take P.length=P:=by rfl)
  (f: ∀x∈P,sc.names.lookup x=some .local∨sc.names.lookup x=some .cell:=by decide+kernel) (g: ∀y∈sc.names,y.2≠Bp:=by decide+kernel):cJ N P sc:=⟨a,b,c,d,e,f,g⟩
end L2
namespace TS
open PySem PySem.W PyProof.Rows
structure En where
 prog:Bq
 w:World
 A:Cz
 s:Af
 κ:Pz
 it:Array Keyed
def En.Ok(n:Nat)(ck:Nat->Nat->Bool)(e:En):Prop:= ∀i j,i<n->j<n-> ∀C:Bool->Af->Prop,C (ck i j) e.s->kas_cmp e.prog e.w e.A e.κ e.it i j C e.s
abbrev En.at(e:En)(i:Nat):Keyed:=Ji e.it i
abbrev En.of(e:En)(p:Array Nat):Array Keyed:=p.map (Ji e.it)
structure Pu where
 p:Array Nat
 pd:Array (Nat×Nat×Nat)
 g:Nat
noncomputable def D7(e:En)(x:Pu):Ej:=Io e.κ (e.of x.p) x.pd x.g none
section
variable{n:Nat}{ck:Nat->Nat->Bool}
def D(n:Nat)(ck:Nat->Nat->Bool){α:Type}(f:En->StateT Ej Sem α)(x:Pu)(a:En->α)(y:Pu):Prop:=
 ∀e:En,e.Ok n ck-> ∀(E:Value->Af->Prop) (Q:α->Ej->Af->Prop),Q (a e) (D7 e y) e.s->kasC (model e.prog e.w) e.A E (f e) Q (D7 e x) e.s
def X(n:Nat)(ck:Nat->Nat->Bool){α τ:Type}(f:En->StateT Ej Sem α)(x:Pu)(v:τ->En->α)(R:τ->Pu->Prop):Prop:= ∃t y,R t y/\D n ck f x (v t) y
theorem D.pure{α:Type}{a:En->α}{x:Pu}:D n ck (fun e=>Gz (a e)) x a x:=fun e _ E Q h=>kasC_pure h
theorem D.bind{α β:Type}{f:En->StateT Ej Sem α}{k:En->α->StateT Ej Sem β}{x y z:Pu}{a:En->α}{b:En->β}(h1:D n ck f x a y)(h2:D n ck (fun e=>k e (a e)) y b z):D n ck (fun e=>f e>>=k e) x b z:=
 fun e o E Q h=>Qn (h1 e o E _ (h2 e o E Q h))
theorem D.get{x:Pu}:D n ck (fun _=>MonadState.get) x (fun e=>D7 e x) x:=fun e _ E Q h=>kasC_get h
theorem D.modify{F:En->Ej->Ej}{x y:Pu}(h: ∀e,F e (D7 e x)=D7 e y):D n ck (fun e=>modify (F e)) x (fun _=>⟨⟩) y:=fun e _ E Q q=>Qo (by rw[h e];exact q)
theorem D.rule{r:String}{x:Pu}:D n ck (fun _=>(liftM (PySem.rule r):StateT Ej Sem Unit)) x (fun _=>()) x:=fun e _ E Q q=>kasC_lift (Hj q)
theorem D.elem{q:Array Nat}{i:Nat}{x:Pu}(hi:i<q.size):D n ck (fun e=>elem' (e.of q) i) x (fun e=>e.at (q.getD i 0)) x:=fun e _ E Q h=>by
 have e1:(e.of q)[i]? =some (e.at (q.getD i 0)):=by
  have e2:q.getD i 0=q[i]:=by simp[Gd,hi]
  rw[e2];simp[En.of,En.at,hi]
 show kasC _ _ _ (elem' (e.of q) i) Q _ _;rw[elem'_eq,e1];exact kasC_pure h
theorem D.lt{i j:Nat}{x:Pu}(hi:i<n)(hj:j<n):D n ck (fun e=>lt' (e.at i) (e.at j)) x (fun _=>some (ck i j)) x:=fun e o E Q h=>by
 show kasC _ _ _ (lt' (e.at i) (e.at j)) Q _ _;rw[lt'_eq];refine Qn (kasC_get ?_);refine Qn (kasC_lift (Ny (Bm (o i j hi hj (fun c s'=>c=ck i j/\s'=e.s) ⟨rfl,rfl⟩) (fun c s' hc=> ?_) fun _ _ hF=>hF.elim)));obtain⟨rfl,rfl⟩:=hc;exact kasC_pure h
theorem D.ltAt{i j:Nat}{x:Pu}(hi:i<x.p.size)(hj:j<x.p.size)(bi:x.p.getD i 0<n)(bj:x.p.getD j 0<n):D n ck (fun _=>ltAt' i j) x (fun _=>some (ck (x.p.getD i 0) (x.p.getD j 0))) x:=fun e o E Q h=>by
 show kasC _ _ _ (ltAt' i j) Q _ _;rw[ltAt'_eq];refine Qn (kasC_get ?_);exact(D.bind (D.elem hi) (D.bind (D.elem hj) (D.lt bi bj)):D n ck (fun e=>elem' (e.of x.p) i>>=fun u=>elem' (e.of x.p) j>>=fun v=>lt' u v) x _ x) e o E Q h
theorem D.rev{i j:Nat}{x:Pu}:D n ck (fun _=>reverseSlice' i j) x (fun _=>()) {x with p:=Ox x.p i j}:=fun e o E Q h=>by
 show kasC _ _ _ (reverseSlice' i j) Q _ _;rw[reverseSlice'_eq];refine Qo ?_;have e1:mirror (e.of x.p) i j ((j - i)/2)=e.of (mirror x.p i j ((j - i)/2)):=kas_swaps_map (Ji e.it) (fun k=>i+k) (fun k=>j - 1 - k) _ x.p;show Q () (Io e.κ (mirror (e.of x.p) i j ((j - i)/2)) x.pd x.g none) e.s;rw[e1];exact h
theorem D.move{k l:Nat}{x:Pu}:D n ck (fun _=>moveDown' k l) x (fun _=>()) {x with p:=bubble x.p k (k - l)}:=fun e o E Q h=>by
 show kasC _ _ _ (moveDown' k l) Q _ _;rw[moveDown'_eq];refine Qo ?_;have e1:bubble (e.of x.p) k (k - l)=e.of (bubble x.p k (k - l)):=kas_swaps_map (Ji e.it) (fun i=>k - i) (fun i=>k - i - 1) _ x.p;show Q () (Io e.κ (bubble (e.of x.p) k (k - l)) x.pd x.g none) e.s;rw[e1];exact h
theorem X.ret{α τ:Type}{a:En->α}{x:Pu}{v:τ->En->α}{R:τ->Pu->Prop}(t:τ)(h:R t x)(ha: ∀e,a e=v t e:=by intro e;rfl):X n ck (fun e=>Gz (a e)) x v R:=
 ⟨t,x,h,by rw[show a=v t from funext ha];exact D.pure⟩
theorem X.go{α β τ:Type}{f:En->StateT Ej Sem α}{k:En->α->StateT Ej Sem β}{x y:Pu}{a:En->α}{v:τ->En->β}{R:τ->Pu->Prop}(h1:D n ck f x a y)(h2:X n ck (fun e=>k e (a e)) y v R):X n ck (fun e=>f e>>=k e) x v R:=by
 obtain⟨t,z,h,d⟩:=h2;exact⟨t,z,h,D.bind h1 d⟩
theorem X.bind{α β τ υ:Type}{f:En->StateT Ej Sem α}{k:En->α->StateT Ej Sem β}{x:Pu}{u:υ->En->α}{S:υ->Pu->Prop}{v:τ->En->β}{R:τ->Pu->Prop}(h1:X n ck f x u S)(h2: ∀t y,S t y->X n ck (fun e=>k e (u t e)) y v R):X n ck (fun e=>f e>>=k e) x v R:=by
 obtain⟨t,y,h,d⟩:=h1;exact X.go d (h2 t y h)
noncomputable def sv{β τ:Type}(v:τ->En->β):τ ⊕ τ->En->ForInStep β
 | .inl t,e=> .yield (v t e)
 | .inr t,e=> .done (v t e)
def sR{τ:Type}(I J:τ->Pu->Prop):τ ⊕ τ->Pu->Prop
 | .inl t,x=>I t x
 | .inr t,x=>J t x
theorem X.loop{β τ:Type}{v:τ->En->β}{I:Nat->τ->Pu->Prop}{J:τ->Pu->Prop}{f:En->Nat->β->StateT Ej Sem (ForInStep β)}
  (he: ∀t x,I 0 t x->J t x): ∀(l:List Nat) (t:τ) (x:Pu),(∀i∈l,∀(k:Nat) (t:τ) (x:Pu),I (k+1) t x->X n ck (fun e=>f e i (v t e)) x (sv v) (sR (I k) J))->I l.length t x->X n ck (fun e=>forIn l (v t e) (f e)) x v J
 |[],t,x,_,h=>⟨t,x,he t x h,fun e o E Q q=>kasC_nil q⟩
 | i :: l,t,x,hs,h => by
  obtain⟨r,y,hr,d⟩:=hs i Au l.length t x h;cases r with
  |inr t'=>exact⟨t',y,hr,fun e o E Q q=>Qp (d e o E _ q)⟩
  |inl t'=>
   obtain⟨u,z,hu,d2⟩:=X.loop he l t' y (fun i hi=>hs i (Ap _ hi)) hr;exact⟨u,z,hu,fun e o E Q q=>Qp (d e o E _ (d2 e o E Q q))⟩
theorem X.range{β τ:Type}{v:τ->En->β}{I:Nat->τ->Pu->Prop}{J:τ->Pu->Prop}{f:En->Nat->β->StateT Ej Sem (ForInStep β)}{a b:Nat}{t:τ}{x:Pu}{c:En->β}
  (he: ∀t x,I 0 t x->J t x) (h0:I (b - a) t x) (hs: ∀i,a<=i->i<b-> ∀(k:Nat) (t:τ) (x:Pu),I (k+1) t x->X n ck (fun e=>f e i (v t e)) x (sv v) (sR (I k) J)) (hc: ∀e,c e=v t e:=by intro e;rfl):X n ck (fun e=>forIn [a:b] (c e) (f e)) x v J:=by
 rw[show c=v t from funext hc];obtain⟨u,z,hu,d⟩:=X.loop he (List.range' a (b - a)) t x (fun i hi=>by
  have:=List.mem_range'_1.mp hi;exact hs i this.1 (by omega)) (by rw[List.length_range'];exact h0)
 exact⟨u,z,hu,fun e o E Q q=>kasC_range (d e o E Q q)⟩
theorem X.yield{β τ:Type}{v:τ->En->β}{I J:τ->Pu->Prop}{a:En->β}{x:Pu}(t:τ)(h:I t x)(ha: ∀e,a e=v t e:=by intro e;rfl):X n ck (fun e=>Gz (Dc (a e))) x (sv v) (sR I J):=
 X.ret (.inl t) h fun e=>by rw[ha e];rfl
theorem X.done{β τ:Type}{v:τ->En->β}{I J:τ->Pu->Prop}{a:En->β}{x:Pu}(t:τ)(h:J t x)(ha: ∀e,a e=v t e:=by intro e;rfl):X n ck (fun e=>Gz (ForInStep.done (a e))) x (sv v) (sR I J):=
 X.ret (.inr t) h fun e=>by rw[ha e];rfl
end
section
variable{n:Nat}{ck:Nat->Nat->Bool}
theorem X.ite{α τ:Type}{c:Prop}{dc:En->Decidable c}{a b:En->StateT Ej Sem α}{x:Pu}{v:τ->En->α}{R:τ->Pu->Prop}(h1:c->X n ck a x v R)(h2: ¬c->X n ck b x v R):X n ck (fun e=> @_root_.ite _ c (dc e) (a e) (b e)) x v R:=by
 by_cases h:c
 ·simpa only[if_pos h] using h1 h
 ·simpa only[if_neg h] using h2 h
theorem X.loopI{β τ:Type}{v:τ->En->β}{I:Nat->τ->Pu->Prop}{J:τ->Pu->Prop}{f:En->Nat->β->StateT Ej Sem (ForInStep β)}: ∀(c a:Nat) (t:τ) (x:Pu),(∀t x,I (a+c) t x->J t x)->(∀i,a<=i->i<a+c-> ∀(t:τ) (x:Pu),I i t x->X n ck (fun e=>f e i (v t e)) x (sv v) (sR (I (i+1)) J))->I a t x->X n ck (fun e=>forIn (List.range' a c) (v t e) (f e)) x v J
 |0,a,t,x,he,_,h=>⟨t,x,he t x h,fun e o E Q q=>kasC_nil q⟩
 | c + 1,a,t,x,he,hs,h => by
  obtain⟨r,y,hr,d⟩:=hs a (Ah _) (by lia) t x h;cases r with
  |inr t'=>exact⟨t',y,hr,fun e o E Q q=>Qp (d e o E _ q)⟩
  |inl t'=>
   obtain⟨u,z,hu,d2⟩:=X.loopI c (a+1) t' y (fun t x h=>he t x (by rwa[Nat.add_right_comm] at h)) (fun i h1 h2=>hs i (by lia) (by lia)) hr;exact⟨u,z,hu,fun e o E Q q=>Qp (d e o E _ (d2 e o E Q q))⟩
theorem X.rangeI{β τ:Type}{v:τ->En->β}{I:Nat->τ->Pu->Prop}{J:τ->Pu->Prop}{f:En->Nat->β->StateT Ej Sem (ForInStep β)}{a b:Nat}{t:τ}{x:Pu}{c:En->β}(hab:a<=b)
  (he: ∀t x,I b t x->J t x) (h0:I a t x) (hs: ∀i,a<=i->i<b-> ∀(t:τ) (x:Pu),I i t x->X n ck (fun e=>f e i (v t e)) x (sv v) (sR (I (i+1)) J)) (hc: ∀e,c e=v t e:=by intro e;rfl):X n ck (fun e=>forIn [a:b] (c e) (f e)) x v J:=by
 rw[show c=v t from funext hc];have hb:a+(b - a)=b:=by lia
 obtain⟨u,z,hu,d⟩:=X.loopI (I:=I) (b - a) a t x (by rw[hb];exact he) (by rw[hb];exact hs) h0;exact⟨u,z,hu,fun e o E Q q=>kasC_range (d e o E Q q)⟩
def Pm(n:Nat)(p:Array Nat):Prop:=p.toList.Perm (Az n)
theorem Pm.sz{p:Array Nat}(h:Pm n p):p.size=n:=by
 have:=h.length_eq;simpa using this
theorem Pm.lt{p:Array Nat}(h:Pm n p){i:Nat}(hi:i<n):p.getD i 0<n:=by
 have hs:=h.sz;have hi':i<p.size:=by lia
 have e:p.getD i 0=p[i]:=by simp[Gd,hi']
 rw[e];exact Dm.mp (h.mem_iff.mp (by simp))
theorem Pm.rev{p:Array Nat}(h:Pm n p)(i j:Nat):Pm n (Ox p i j):=Jx (Kf.mp (mirror_perm p i j _)) h
theorem Pm.move{p:Array Nat}(h:Pm n p)(i j:Nat):Pm n (bubble p i j):=Jx (Kf.mp (bubble_perm p i j)) h
theorem Pm.cmp{x:Pu}(h:Pm n x.p){i j:Nat}(hi:i<n)(hj:j<n):D n ck (fun _=>ltAt' i j) x (fun _=>some (ck (x.p.getD i 0) (x.p.getD j 0))) x:=
 D.ltAt (by rw[h.sz];exact hi) (by rw[h.sz];exact hj) (h.lt hi) (h.lt hj)
theorem X.st{α τ:Type}{f:En->StateT Ej Sem α}{x z:Pu}{v:τ->En->α}{R:τ->Pu->Prop}{P:Pu->Pu->Prop}(h: ∀z,P x z->X n ck f z v R)(hz:P x z):X n ck f z v R:=h z hz
end
noncomputable abbrev lk(ky:Nat->Nat)(i j:Nat):Bool:=decide (ky i<ky j)
section
variable{n:Nat}{ky:Nat->Nat}
noncomputable abbrev kt(ky:Nat->Nat)(p:Array Nat)(i:Nat):Nat:=ky (p.getD i 0)
def So(ky:Nat->Nat)(p:Array Nat)(i j:Nat):Prop:= ∀a b,i<=a->a<b->b<j->kt ky p a<=kt ky p b
def Ni(ky:Nat->Nat)(p:Array Nat)(i j:Nat):Prop:= ∀a b,i<=a->a<b->b<j->kt ky p b<=kt ky p a
def Eqs(ky:Nat->Nat)(p:Array Nat)(i j:Nat):Prop:= ∀a,i<=a->a<j->kt ky p a=kt ky p (j - 1)
theorem So.more{p:Array Nat}{i j:Nat}(h:So ky p i j)(hj:i<j->kt ky p (j - 1)<=kt ky p j):So ky p i (j+1):=fun a b h1 h2 h3=>by
 by_cases e:b=j
 ·subst e
  have h4:=hj (by lia);by_cases e2:a=b - 1
  ·rw[e2];exact h4
  ·exact Cb (h a (b - 1) h1 (by lia) (by lia)) h4
 ·exact h a b h1 h2 (by lia)
theorem Ni.more{p:Array Nat}{i j:Nat}(h:Ni ky p i j)(hj:i<j->kt ky p j<=kt ky p (j - 1)):Ni ky p i (j+1):=fun a b h1 h2 h3=>by
 by_cases e:b=j
 ·subst e
  have h4:=hj (by lia);by_cases e2:a=b - 1
  ·rw[e2];exact h4
  ·exact Cb h4 (h a (b - 1) h1 (by lia) (by lia))
 ·exact h a b h1 h2 (by lia)
theorem So.one{p:Array Nat}{i:Nat}:So ky p i (i+1):=fun a b h1 h2 h3=>by lia
theorem LH{p:Array Nat}{i j:Nat}(hj:j<=p.size)(t:Nat):(Ox p i j).getD t 0=if i<=t/\t<j then p.getD (i+j - 1 - t) 0 else p.getD t 0:=by
 have e:=getElem?_mirror_all (i:=i) hj t;simp only[Ha];show((mirror p i j ((j - i)/2))[t]?).getD 0=_;rw[e];split<;>rfl
theorem zCQ{p:Array Nat}{s d:Nat}(hs:s<p.size)(hd:d<=s)(t:Nat):(bubble p s d).getD t 0=if t=s - d then p.getD s 0 else if s - d<t/\t<=s then p.getD (t - 1) 0 else p.getD t 0:=by
 have e:=getElem?_bubble hs d hd t;simp only[Ha];rw[e];split
 ·rfl
 ·split<;>rfl
theorem Eqs.rev{p:Array Nat}{i j:Nat}(h:Eqs ky p i j)(hj:j<=p.size)(t:Nat):kt ky (Ox p i j) t=kt ky p t:=by
 unfold kt;rw[LH hj];split
 ·exact(h _ (by lia) (by lia)).trans (h t (by lia) (by lia)).symm
 ·rfl
theorem Ni.rev{p:Array Nat}{i j:Nat}(h:Ni ky p i j)(hj:j<=p.size):So ky (Ox p i j) i j:=fun a b h1 h2 h3=>by
 unfold kt;rw[LH hj,LH hj,if_pos (by lia),if_pos (by lia)];exact h _ _ (by lia) (by lia) (by lia)
theorem Ni.same{p q:Array Nat}{i j:Nat}(h:Ni ky p i j)(e: ∀t,kt ky q t=kt ky p t):Ni ky q i j:=fun a b h1 h2 h3=>by rw[e,e];exact h a b h1 h2 h3
def Kq(n lo:Nat)(x y:Pu):Prop:=Pm n y.p/\y.pd=x.pd/\ ∀i,i<lo->y.p.getD i 0=x.p.getD i 0
theorem Kq.rev{lo i j:Nat}{x y:Pu}(h:Kq n lo x y)(hi:lo<=i)(hj:j<=n):Kq n lo x {y with p:=Ox y.p i j}:=
 ⟨h.1.rev _ _,h.2.1,fun t ht => by
  show(Ox y.p i j).getD t 0=_;rw[LH (by rw[h.1.sz];exact hj),if_neg (by lia)];exact h.2.2 t ht⟩
theorem zJS{lo m:Nat}{x:Pu}(hp:Pm n x.p)(h1:1<=m)(hm:lo+m<=n):X n (lk ky) (fun _=>countRun' lo m) x (fun t _=>some t) (fun t y=>1<=t/\t<=m/\Kq n lo x y/\So ky y.p lo (lo+t)):=by
 refine X.bind (u:=fun(t:Nat) _=>(none,t)) (S:=fun t y=>1<=t/\t<=m/\y=x/\So ky x.p lo (lo+t)/\(t=m∨kt ky x.p (lo+t)<kt ky x.p (lo+t - 1))) ?_ ?_
 ·refine X.range (I := fun k t y => 1 <= t /\ t + k = m /\ y = x /\ So ky x.p lo (lo + t)) (t := 1) (fun t y h => ⟨h.1,by lia,h.2.2.1,h.2.2.2,.inl h.2.1⟩) ⟨by lia,by lia,rfl,So.one⟩ fun i _ _ k t y ⟨g1,g2,g3,g4⟩ => ?_
  subst g3;refine X.go (hp.cmp (by lia) (by lia)) ?_;refine X.ite (fun q=>X.done t ⟨g1,by lia,rfl,g4,.inr (of_decide_eq_true q)⟩) fun q=>X.yield (t+1) ⟨by lia,by lia,rfl,g4.more fun _=>Dv fun z=>q (decide_eq_true z)⟩
 ·rintro t y ⟨g1,g2,rfl,g3,g4⟩
  have k0:Kq n lo y y:=⟨hp,rfl,fun _ _=>rfl⟩;have hsz:=hp.sz;refine X.ite (fun _=>X.ret t ⟨g1,g2,k0,g3⟩) fun q0=> ?_;have q1:t≠m:=fun z=>q0 (by rw[z];exact beq_self_eq_true _);have g4:kt ky y.p (lo+t)<kt ky y.p (lo+t - 1):=g4.resolve_left q1;refine X.ite (fun q2=>X.go (hp.cmp (by lia) (by lia)) (X.ite (fun _=>X.ret t ⟨g1,g2,k0,g3⟩) fun q3=>X.go D.rev (X.st (P:=fun y z=>Kq n lo y z/\Ni ky z.p lo (lo+t+1)) (x:=y) ?_ ?_))) fun q2=>X.st (P:=fun y z=>Kq n lo y z/\Ni ky z.p lo (lo+t+1)) (x:=y) ?_ ⟨k0,fun a b h1 h2 h3=> ?_⟩;rotate_left
  ·have q3 : kt ky y.p (lo + t - 1) <= kt ky y.p lo := Dv fun z => q3 (decide_eq_true z)
   have ee: ∀a,lo<=a->a<lo+t->kt ky y.p a=kt ky y.p (lo+t - 1):=fun a a1 a2=>by
    have u1:kt ky y.p lo<=kt ky y.p a:=by
     by_cases e:a=lo
     ·rw[e];exact Ah _
     ·exact g3 lo a (Ah _) (by lia) a2
    have u2:kt ky y.p a<=kt ky y.p (lo+t - 1):=by
     by_cases e:a=lo+t - 1
     ·rw[e];exact Ah _
     ·exact g3 a _ a1 (by lia) (by lia)
    exact Jy u2 (Cb q3 u1)
   refine⟨k0.rev (Ah _) (by lia),Ni.same (p:=y.p) (Ni.more (fun a b h1 h2 h3=> ?_) fun _=>Df g4) (Eqs.rev ee (by lia))⟩;rw[ee a h1 (by lia),ee b (by lia) h3];exact Ah _
  rotate_left
  ·obtain rfl : t = 1 := by dsimp only at q2;lia
   obtain rfl:a=lo:=by lia
   obtain rfl:b=a+1:=by lia
   exact Df g4
  all_goals
   rintro z ⟨hz,hn⟩;refine X.go D.rule ?_;refine X.bind (u:=fun(t:Nat×Nat) _=>(none,t)) (S:=fun t z=>1<=t.1/\t.1<=m/\Kq n lo y z/\Ni ky z.p lo (lo+t.1)/\t.2<t.1/\Eqs ky z.p (lo+t.1 - (t.2+1)) (lo+t.1)) ?_ ?_
   ·refine X.range (I := fun k t z => 1 <= t.1 /\ t.1 + k = m /\ Kq n lo y z /\ Ni ky z.p lo (lo + t.1) /\ t.2 < t.1 /\ Eqs ky z.p (lo + t.1 - (t.2 + 1)) (lo + t.1)) (t := (t + 1,0)) (fun t y h => ⟨h.1,by lia,h.2.2⟩) ⟨by lia,by dsimp only;lia,hz,hn,by dsimp only;lia,fun a h1 h2 => by congr 1;dsimp only at h1 h2 ⊢;congr 1;lia⟩ fun i _ _ k t z ⟨g1,g2,g3,g4,g5,g6⟩ => ?_
    obtain⟨t,q⟩:=t;dsimp only at g1 g2 g4 g5 g6;have hs3:=g3.1.sz;refine X.go (g3.1.cmp (by dsimp only;lia) (by dsimp only;lia)) ?_;refine X.ite (fun qs=> ?_) fun qs=> ?_
    ·have qs:kt ky z.p (lo+t)<kt ky z.p (lo+t - 1):=of_decide_eq_true qs
     have ez: ∀(p:Array Nat),Eqs ky p (lo+(t+1) - (0+1)) (lo+(t+1)):=fun p a h1 h2=>by congr 2;lia
     have en:=g4.more fun _=>Df qs;refine X.ite (fun _=>X.go D.rev (X.yield (t+1,0) ⟨by dsimp only;lia,by dsimp only;lia,g3.rev (by lia) (by lia),en.same (g6.rev (by lia)),by dsimp only;lia,ez _⟩)) fun _=>X.yield (t+1,0) ⟨by dsimp only;lia,by dsimp only;lia,g3,en,by dsimp only;lia,ez _⟩
    ·have qs : kt ky z.p (lo + t - 1) <= kt ky z.p (lo + t) := Dv fun z => qs (decide_eq_true z)
     refine X.go (g3.1.cmp (by dsimp only;lia) (by dsimp only;lia)) ?_;refine X.ite (fun _=>X.done (t,q) ⟨g1,by dsimp only;lia,g3,g4,g5,g6⟩) fun ql=>X.yield (t+1,q+1) ⟨by dsimp only;lia,by dsimp only;lia,g3,?_,by dsimp only;lia,fun a h1 h2=> ?_⟩;all_goals have ql:kt ky z.p (lo+t)<=kt ky z.p (lo+t - 1):=Dv fun z=>ql (decide_eq_true z)
     ·exact g4.more fun _=>ql
     ·dsimp only at h1 h2⊢
      rw[show lo+(t+1) - 1=lo+t by lia];by_cases e:a=lo+t
      ·rw[e]
      ·rw [g6 a (by lia) (by lia)]
       exact Jy qs ql
   ·rintro ⟨t,q⟩ z ⟨g1,g2,g3,g4,g5,g6⟩
    dsimp only at g1 g2 g4 g5 g6;have hs3:=g3.1.sz;refine X.ite (fun _=>X.go D.rev (X.st (P:=fun y z=>Kq n lo y z/\Ni ky z.p lo (lo+t)) (x:=y) ?_ ⟨g3.rev (by lia) (by lia),g4.same (g6.rev (by lia))⟩)) fun _=>X.st (P:=fun y z=>Kq n lo y z/\Ni ky z.p lo (lo+t)) (x:=y) ?_ ⟨g3,g4⟩
    all_goals
     rintro z ⟨hz,hn⟩;have hs3:=hz.1.sz;refine X.go D.rev ?_;refine X.bind (u:=fun(t:Nat) _=>(none,t)) (S:=fun t z=>1<=t/\t<=m/\Kq n lo y z/\So ky z.p lo (lo+t)) ?_ fun t z h=>X.ret t h;refine X.range (I:=fun k t z=>1<=t/\t+k=m/\Kq n lo y z/\So ky z.p lo (lo+t)) (t:=t) (fun t y h=>⟨h.1,by lia,h.2.2⟩) ⟨by lia,by dsimp only;lia,hz.rev (Ah _) (by lia),hn.rev (by lia)⟩ fun i _ _ k t y ⟨g1,g2,g3,g4⟩=> ?_;refine X.go (g3.1.cmp (by lia) (by lia)) ?_;exact X.ite (fun _=>X.done t ⟨g1,by lia,g3,g4⟩) fun q=>X.yield (t+1) ⟨by lia,by lia,g3,g4.more fun _=>Dv fun z=>q (decide_eq_true z)⟩
theorem bin{lo m ok:Nat}{x:Pu}(hp:Pm n x.p)(hm:lo+m<=n)(o1:1<=ok)(o2:ok<=m)(hs:So ky x.p lo (lo+ok)):X n (lk ky) (fun _=>binarySort' lo m ok) x (fun(_:Unit) _=>true) (fun _ y=>Kq n lo x y/\So ky y.p lo (lo+m)):=by
 refine X.bind (u:=fun(_:Unit) _=>(none,())) (S:=fun _ y=>Kq n lo x y/\So ky y.p lo (lo+m)) ?_ fun t z h=>X.ret () h;refine X.rangeI (I:=fun i _ z=>Kq n lo x z/\So ky z.p lo (lo+i)) (t:=()) (by lia) (fun t y h=>h) ⟨⟨hp,rfl,fun _ _=>rfl⟩,by rw[Nat.max_eq_left o1];exact hs⟩ fun j j1 j2 t y ⟨g3,g4⟩=> ?_;have hsz:=g3.1.sz;refine X.bind (u:=fun(t:Nat×Nat) _=>(none,t)) (S:=fun t z=>t.1=t.2/\t.2<=j/\z=y/\(∀a,lo<=a->a<lo+t.1->kt ky y.p a<=kt ky y.p (lo+j))/\ ∀a,lo+t.2<=a->a<lo+j->kt ky y.p (lo+j)<=kt ky y.p a) ?_ ?_
 ·refine X.range (I := fun c t z => t.1 <= t.2 /\ t.2 <= j /\ t.2 <= t.1 + c /\ z = y /\ (∀ a,lo <= a -> a < lo + t.1 -> kt ky y.p a <= kt ky y.p (lo + j)) /\ ∀ a,lo + t.2 <= a -> a < lo + j -> kt ky y.p (lo + j) <= kt ky y.p a) (t := (0,j)) (fun t y h => ⟨by lia,h.2.1,h.2.2.2⟩) ⟨by dsimp only;lia,Ah _,by dsimp only;lia,rfl,fun a h1 h2 => by dsimp only at h2;lia,fun a h1 h2 => by dsimp only at h1;lia⟩ fun i _ _ k t z ⟨f1,f2,f3,f4,f5,f6⟩ => ?_
  obtain⟨l,r⟩:=t;dsimp only at f1 f2 f3 f5 f6;subst f4;refine X.ite (fun q=>X.done (l,r) ⟨by dsimp only at q⊢;lia,f2,rfl,f5,f6⟩) fun q=> ?_;dsimp only at q;refine X.go (g3.1.cmp (by lia) (by dsimp only;lia)) ?_;refine X.ite (fun q2=>X.yield (l,(l+r)/2) ⟨by dsimp only;lia,by dsimp only;lia,by dsimp only;lia,rfl,f5,fun a h1 h2=> ?_⟩) fun q2=>X.yield ((l+r)/2+1,r) ⟨by dsimp only;lia,f2,by dsimp only;lia,rfl,fun a h1 h2=> ?_,f6⟩
  ·have q2:kt ky z.p (lo+j)<kt ky z.p (lo+(l+r)/2):=of_decide_eq_true q2
   dsimp only at h1;by_cases e:a=lo+(l+r)/2
   ·rw[e];exact Df q2
   ·exact Cb (Df q2) (g4 _ a (by lia) (by lia) (by lia))
  ·have q2 : kt ky z.p (lo + (l + r) / 2) <= kt ky z.p (lo + j) := Dv fun z => q2 (decide_eq_true z)
   dsimp only at h2;by_cases e:a=lo+(l+r)/2
   ·rw[e];exact q2
   ·exact Cb (g4 a _ h1 (by lia) (by lia)) q2
 ·rintro ⟨l,r⟩ z ⟨f1,f2,rfl,f5,f6⟩
  dsimp only at f1 f2 f5 f6;subst f1;have mv: ∀t,(bubble z.p (lo+j) (lo+j - (lo+l))).getD t 0=if t=lo+l then z.p.getD (lo+j) 0 else if lo+l<t/\t<=lo+j then z.p.getD (t - 1) 0 else z.p.getD t 0:=fun t=>by rw[zCQ (by lia) (by lia),show lo+j - (lo+j - (lo+l))=lo+l by lia]
  refine X.go D.move (X.yield () ⟨⟨g3.1.move _ _,g3.2.1,fun i hi=> ?_⟩,fun a b h1 h2 h3=> ?_⟩)
  ·show(bubble z.p (lo+j) (lo+j - (lo+l))).getD i 0=_
   rw[mv,if_neg (by lia),if_neg (by lia)];exact g3.2.2 i hi
  ·show ky ((bubble z.p (lo+j) (lo+j - (lo+l))).getD a 0)<=ky ((bubble z.p (lo+j) (lo+j - (lo+l))).getD b 0)
   rw[mv,mv];by_cases a1:a<lo+l
   ·rw [if_neg (by lia),if_neg (by lia)]
    by_cases b1:b=lo+l
    ·rw[if_pos b1];exact f5 a h1 a1
    ·rw[if_neg b1]
     split
     ·exact Cb (f5 a h1 a1) (f6 _ (by lia) (by lia))
     ·exact g4 a b h1 h2 (by lia)
   ·rw [if_neg (show ¬ b = lo + l by lia),if_pos (show lo + l < b /\ b <= lo + j by lia)]
    by_cases a2:a=lo+l
    ·rw[if_pos a2];exact f6 _ (by lia) (by lia)
    ·rw [if_neg a2,if_pos (by lia)]
     exact g4 _ _ (by lia) (by lia) (by lia)
end
def EX:Bool->Keyed->Array Keyed->Nat->Nat->Nat->StateT Ej Sem (Option Nat):=sortPriv% PySem.Builtin.gallop
def IZ:Array Keyed->Array Keyed->StateT Ej Sem (Array Keyed):=sortPriv% PySem.Builtin.mergeLo
def IW:Array Keyed->Array Keyed->StateT Ej Sem (Array Keyed):=sortPriv% PySem.Builtin.mergeHi
section
variable{n:Nat}{ky:Nat->Nat}
noncomputable def bey(left:Bool)(key:Nat)(q:Array Nat)(i:Nat)(e:En):StateT Ej Sem (Option Bool):=
 elem' (e.of q) i>>=fun z=>if left=true then lt' z (e.at key) else lt' (e.at key) z>>=fun r=>pure (r.map (fun b=> !b))
noncomputable def kl(left:Bool)(v:Nat):Nat:=if left=true then v else v+1
theorem zHE{left:Bool}{key:Nat}{q:Array Nat}{x:Pu}(hk:key<n){i:Nat}(hi:i<q.size)(hq:q.getD i 0<n):D n (lk ky) (bey left key q i) x (fun _=>some (decide (kt ky q i<kl left (ky key)))) x:=by
 cases left with
 |true=>exact D.bind (D.elem hi) (D.lt hq hk)
 |false=>
  have e:decide (kt ky q i<kl false (ky key))= !(lk ky key (q.getD i 0)):=by
   show decide (kt ky q i<ky key+1)= !(decide (ky key<ky (q.getD i 0)));rw[<- decide_not];exact decide_eq_decide.mpr (by unfold kt;lia)
  rw[e];exact D.bind (D.elem hi) (D.bind (D.lt hk hq) D.pure)
def Cut(ky:Nat->Nat)(q:Array Nat)(b m v l h:Nat):Prop:=l<=h/\h<=m/\(∀i,i<l->kt ky q (b+i)<v)/\ ∀i,h<=i->i<m->v<=kt ky q (b+i)
theorem gal{left:Bool}{key:Nat}{q:Array Nat}{b m h:Nat}{x:Pu}(hk:key<n)(hh:h<m)(hb:b+m<=q.size)(hq: ∀i,i<q.size->q.getD i 0<n)(hs:So ky q b (b+m)):
  X n (lk ky) (fun e=>EX left (e.at key) (e.of q) b m h) x (fun t _=>some t) (fun t y=>Cut ky q b m (kl left (ky key)) t t/\y=x):=by
 have ask: ∀i,i<m->D n (lk ky) (bey left key q (b+i)) x (fun _=>some (decide (kt ky q (b+i)<kl left (ky key)))) x:=fun i hi=>zHE hk (by lia) (hq _ (by lia));generalize kl left (ky key)=v at ask;have dn: ∀i j,i<=j->j<m->kt ky q (b+j)<v->kt ky q (b+i)<v:=fun i j h1 h2 h3=>by
  by_cases e:i=j
  ·rw[e];exact h3
  ·exact Nv (hs (b+i) (b+j) (by lia) (by lia) (by lia)) h3
 have up: ∀i j,i<=j->j<m-> ¬kt ky q (b+i)<v->v<=kt ky q (b+j):=fun i j h1 h2 h3=>Dv fun z=>h3 (dn i j h1 h2 z);refine X.go (ask h hh) ?_;refine X.ite (fun c=> ?_) fun c=> ?_
 ·have c:kt ky q (b+h)<v:=of_decide_eq_true c
  refine X.bind (u:=fun(t:Nat×Nat) _=>(none,t)) (S:=fun t z=>z=x/\t.1<t.2/\h+t.1<m/\kt ky q (b+(h+t.1))<v/\(m<=h+t.2∨ ¬kt ky q (b+(h+t.2))<v)) ?_ ?_
  ·refine X.range (I := fun c t z => z = x /\ t.1 < t.2 /\ h + t.1 < m /\ kt ky q (b + (h + t.1)) < v /\ m <= h + t.2 + c) (t := (0,1)) (fun t y h => ⟨h.1,h.2.1,h.2.2.1,h.2.2.2.1,.inl h.2.2.2.2⟩) ⟨rfl,Nat.one_pos,hh,c,by dsimp only;lia⟩ fun i _ _ k t z ⟨g1,g2,g3,g4,g5⟩ => ?_
   obtain⟨l,o⟩:=t;dsimp only at g2 g3 g4 g5;subst g1;refine X.ite (fun q=>X.done (l,o) ⟨rfl,g2,g3,g4,.inl (by dsimp only at q⊢;lia)⟩) fun q=> ?_;dsimp only at q;refine X.go (ask (h+o) (by lia)) (X.ite (fun q2=>X.done (l,o) ⟨rfl,g2,g3,g4,.inr fun z=> ?_⟩) fun q2=>X.yield (o,2*o+1) ⟨rfl,by dsimp only;lia,by dsimp only;lia,?_,by dsimp only;lia⟩)
   ·have z:kt ky _ (b+(h+o))<v:=z
    rw[decide_eq_true z] at q2;exact absurd q2 (by simp)
   ·exact Kn fun z=>q2 (by rw[decide_eq_false z];rfl)
  ·rintro ⟨l,o⟩ z ⟨rfl,g2,g3,g4,g5⟩
   dsimp only at g2 g3 g4 g5;refine X.bind (u:=fun(t:Nat×Nat) _=>(none,t)) (S:=fun t y=>Cut ky q b m v t.2 t.2/\y=z) ?_ fun t y h=>X.ret t.2 h;refine X.range (I:=fun c t y=>Cut ky q b m v t.1 t.2/\t.2<=t.1+c/\y=z) (t:=(h+l+1,h+min o (m - h))) (fun t y h=>⟨by rw[show t.1=t.2 from Jy h.1.1 h.2.1] at h;exact h.1,h.2.2⟩) ⟨⟨by lia,by lia,fun i hi=>dn i (h+l) (by lia) g3 g4,fun i h1 h2=> ?_⟩,by dsimp only;lia,rfl⟩ fun i _ _ k t y ⟨⟨f1,f2,f3,f4⟩,f5,f6⟩=> ?_
   ·rcases g5 with g5|g5
    ·dsimp only at h1;lia
    ·by_cases e:m<=h+o
     ·dsimp only at h1;lia
     ·exact up (h+o) i (by dsimp only at h1;lia) h2 g5
   ·obtain⟨lo,hi⟩:=t
    subst f6;dsimp only at f1 f2 f3 f4 f5;refine X.ite (fun q=>X.done (lo,hi) ⟨by dsimp only at q⊢;rw[show lo=hi by lia] at f3;exact⟨Ah _,f2,f3,f4⟩,rfl⟩) fun q=> ?_;dsimp only at q;refine X.go (ask (lo+(hi - lo)/2) (by lia)) (X.ite (fun q2=>X.yield (lo+(hi - lo)/2+1,hi) ⟨⟨by dsimp only;lia,f2,fun i hi=>dn i _ (by dsimp only at hi;lia) (by lia) (of_decide_eq_true q2),f4⟩,by dsimp only;lia,rfl⟩) fun q2=>X.yield (lo,lo+(hi - lo)/2) ⟨⟨by dsimp only;lia,by dsimp only;lia,f3,fun i h1 h2=>up _ i h1 h2 fun z=>q2 (decide_eq_true z)⟩,by dsimp only;lia,rfl⟩)
 ·have c : ¬ kt ky q (b + h) < v := fun z => c (decide_eq_true z)
  refine X.bind (u:=fun(t:Nat×Nat) _=>(none,t)) (S:=fun t z=>z=x/\t.1<t.2/\t.1<=h/\¬kt ky q (b+(h - t.1))<v/\(h<t.2∨kt ky q (b+(h - t.2))<v)) ?_ ?_
  ·refine X.range (I := fun c t z => z = x /\ t.1 < t.2 /\ t.1 <= h /\ ¬ kt ky q (b + (h - t.1)) < v /\ h < t.2 + c) (t := (0,1)) (fun t y h => ⟨h.1,h.2.1,h.2.2.1,h.2.2.2.1,.inl h.2.2.2.2⟩) ⟨rfl,Nat.one_pos,Di _,c,by dsimp only;lia⟩ fun i _ _ k t z ⟨g1,g2,g3,g4,g5⟩ => ?_
   obtain⟨l,o⟩:=t;dsimp only at g2 g3 g4 g5;subst g1;refine X.ite (fun q=>X.done (l,o) ⟨rfl,g2,g3,g4,.inl (by dsimp only at q⊢;lia)⟩) fun q=> ?_;dsimp only at q;exact X.go (ask (h - o) (by lia)) (X.ite (fun q2=>X.done (l,o) ⟨rfl,g2,g3,g4,.inr (of_decide_eq_true q2)⟩) fun q2=>X.yield (o,2*o+1) ⟨rfl,by dsimp only;lia,by dsimp only;lia,fun z=>q2 (decide_eq_true z),by dsimp only;lia⟩)
  ·rintro ⟨l,o⟩ z ⟨rfl,g2,g3,g4,g5⟩
   dsimp only at g2 g3 g4 g5;refine X.bind (u:=fun(t:Nat×Nat) _=>(none,t)) (S:=fun t y=>Cut ky q b m v t.2 t.2/\y=z) ?_ fun t y h=>X.ret t.2 h;refine X.range (I:=fun c t y=>Cut ky q b m v t.1 t.2/\t.2<=t.1+c/\y=z) (t:=(h+1 - min o (h+1),h - l)) (fun t y h=>⟨by rw[show t.1=t.2 from Jy h.1.1 h.2.1] at h;exact h.1,h.2.2⟩) ⟨⟨by lia,by dsimp only;lia,fun i hi=> ?_,fun i h1 h2=>up (h - l) i h1 h2 g4⟩,by dsimp only;lia,rfl⟩ fun i _ _ k t y ⟨⟨f1,f2,f3,f4⟩,f5,f6⟩=> ?_
   ·rcases g5 with g5|g5
    ·dsimp only at hi;lia
    ·exact dn i (h - o) (by dsimp only at hi;lia) (by lia) g5
   ·obtain⟨lo,hi⟩:=t
    subst f6;dsimp only at f1 f2 f3 f4 f5;refine X.ite (fun q=>X.done (lo,hi) ⟨by dsimp only at q⊢;rw[show lo=hi by lia] at f3;exact⟨Ah _,f2,f3,f4⟩,rfl⟩) fun q=> ?_;dsimp only at q;refine X.go (ask (lo+(hi - lo)/2) (by lia)) (X.ite (fun q2=>X.yield (lo+(hi - lo)/2+1,hi) ⟨⟨by dsimp only;lia,f2,fun i hi=>dn i _ (by dsimp only at hi;lia) (by lia) (of_decide_eq_true q2),f4⟩,by dsimp only;lia,rfl⟩) fun q2=>X.yield (lo,lo+(hi - lo)/2) ⟨⟨by dsimp only;lia,by dsimp only;lia,f3,fun i h1 h2=>up _ i h1 h2 fun z=>q2 (decide_eq_true z)⟩,by dsimp only;lia,rfl⟩)
end
section
variable{n:Nat}{ck:Nat->Nat->Bool}
theorem X.eqSize{α τ:Type}{m:Nat}{q:Array Nat}{a b:En->StateT Ej Sem α}{x:Pu}{v:τ->En->α}{R:τ->Pu->Prop}(h1:m=q.size->X n ck a x v R)(h2:m≠q.size->X n ck b x v R):X n ck (fun e=>if(m==(e.of q).size)=true then a e else b e) x v R:=by
 simp only[En.of,Array.size_map];exact X.ite (fun h=>h1 (by simpa using h)) fun h=>h2 (by simpa using h)
theorem X.rangeE{β τ:Type}{v:τ->En->β}{I:Nat->τ->Pu->Prop}{J:τ->Pu->Prop}{f:En->Nat->β->StateT Ej Sem (ForInStep β)}{b:En->Nat}{t:τ}{x:Pu}{c:En->β}(b0:Nat)(hb: ∀e,b e=b0)
  (he: ∀t x,I 0 t x->J t x) (h0:I b0 t x) (hs: ∀(k:Nat) (t:τ) (x:Pu),k<b0->I (k+1) t x-> ∀i,X n ck (fun e=>f e i (v t e)) x (sv v) (sR (I k) J)) (hc: ∀e,c e=v t e:=by intro e;rfl):X n ck (fun e=>forIn [0:b e] (c e) (f e)) x v J:=by
 rw[show b=fun _=>b0 from funext hb];refine X.range (I:=fun k t x=>k<=b0/\I k t x) (fun t x h=>he t x h.2) ⟨by lia,h0⟩ (fun i _ _ k t x h=> ?_) hc;obtain⟨r,y,hr,d⟩:=hs k t x (by lia) h.2 i;refine⟨r,y,?_,d⟩;cases r with
 |inl t=>exact⟨by lia,hr⟩
 |inr t=>exact hr
def zBS:Nat->StateT Ej Sem Unit:=sortPriv% PySem.Builtin.setMinGallop
theorem D.setMin{g:Nat}{x:Pu}:D n ck (fun _=>zBS g) x (fun _=>()) {x with g:=g}:=D.modify (F:=fun _ s=>_) fun e=>rfl
end
section
variable{n:Nat}{ky:Nat->Nat}
theorem galE{left:Bool}{key:Nat}{q:Array Nat}{b h:Nat}{m:En->Nat}{x:Pu}(m0:Nat)(hm: ∀e,m e=m0)(hk:key<n)(hh:h<m0)(hb:b+m0<=q.size)(hq: ∀i,i<q.size->q.getD i 0<n)(hs:So ky q 0 q.size):
  X n (lk ky) (fun e=>EX left (e.at key) (e.of q) b (m e) h) x (fun t _=>some t) (fun t y=>Cut ky q b m0 (kl left (ky key)) t t/\y=x):=by
 rw[show m=fun _=>m0 from funext hm];exact gal hk hh hb hq fun a b h1 h2 h3=>hs a b (by lia) h2 (by lia)
def Ss(ky:Nat->Nat)(l:List Nat):Prop:=l.Pairwise fun i j=>ky i<=ky j
theorem So.ss{a:Array Nat}(h:So ky a 0 a.size):Ss ky a.toList:=by
 refine Hi.mpr fun i j hi hj hij=> ?_;have e: ∀i,(h:i<a.toList.length)->a.toList[i]=a.getD i 0:=fun i h=>by simp[Gd,show i<a.size from h]
 rw[e,e];exact h i j (Di _) hij hj
theorem HJ{x:Nat}{o l:List Nat}(h:Ss ky (o++l))(h1: ∀y∈o,ky y<=ky x)(h2: ∀y∈l,ky x<=ky y):Ss ky (o++([x]++l)):=by
 obtain⟨g1,g2,g3⟩:=Ei.mp h;refine Ei.mpr ⟨g1,Gs.mpr ⟨h2,g2⟩,fun a ha b hb=> ?_⟩;rcases Ai.mp hb with rfl|hb
 ·exact h1 a ha
 ·exact g3 a ha b hb
theorem OS{x:Nat}{o l:List Nat}(h:Ss ky (o++x::l)):(∀y∈o,ky y<=ky x)/\ ∀y∈l,ky x<=ky y:=by
 obtain⟨g1,g2,g3⟩:=Ei.mp h;exact⟨fun y hy=>g3 y hy x Au,(Gs.mp g2).1⟩
def Iv(ky:Nat->Nat)(a b o:Array Nat)(ia ib:Nat):Prop:=o.toList.Perm (a.toList.take ia++b.toList.take ib)/\Ss ky (o.toList++a.toList.drop ia)/\Ss ky (o.toList++b.toList.drop ib)
theorem T8{a:Array Nat}{i:Nat}(h:i<a.size):a.toList.drop i=a.getD i 0::a.toList.drop (i+1):=by
 have e:a.getD i 0=a[i]:=by simp[Gd,h]
 rw[e,De (by simpa using h)];simp
theorem SK{a:Array Nat}{i:Nat}(h:i<a.size):a.toList.take (i+1)=a.toList.take i++[a.getD i 0]:=by
 have e:a.getD i 0=a[i]:=by simp[Gd,h]
 rw[e,Qv];simp[h]
theorem X6(a:Array Nat)(i j:Nat):(a.extract i j).toList=(a.toList.take j).drop i:=by simp[Qw]
theorem zD0{a:Array Nat}{i j:Nat}(h:i<=j)(hj:j<a.size):a.extract i (j+1)=(a.extract i j).push (a.getD j 0):=by
 apply Ja.mp;rw[Ez,X6,X6,SK hj,List.drop_append_of_le_length (by rw[Bu];show i<=min j a.size;lia)]
theorem IH(a:Array Nat)(i:Nat):a.extract i i= #[]:=by simp;exact Ml _ _
theorem Iv.swap{a b o:Array Nat}{ia ib:Nat}(h:Iv ky a b o ia ib):Iv ky b a o ib ia:=⟨h.1.trans Ed,h.2.2,h.2.1⟩
theorem Iv.pushB{a b o:Array Nat}{ia ib:Nat}(h:Iv ky a b o ia ib)(hb:ib<b.size)(hl:ia<a.size->kt ky b ib<=kt ky a ia):Iv ky a b (o.push (b.getD ib 0)) ia (ib+1):=by
 obtain⟨h1,h2,h3⟩:=h;have e:=T8 hb;rw[e] at h3;refine⟨?_,?_,by rw[Ez,Ba];exact h3⟩
 ·rw[SK hb,Ez,<- Ba]
  exact h1.append_right _
 ·rw[Ez,Ba]
  refine HJ h2 (OS h3).1 fun y hy=> ?_;by_cases ha:ia<a.size
  ·rw[T8 ha] at h2 hy
   rcases Ai.mp hy with rfl|hy
   ·exact hl ha
   ·exact Cb (hl ha) ((OS h2).2 y hy)
  ·rw [List.drop_eq_nil_of_le (by show a.size <= ia;lia)] at hy
   cases hy
theorem Iv.pushA{a b o:Array Nat}{ia ib:Nat}(h:Iv ky a b o ia ib)(ha:ia<a.size)(hl:ib<b.size->kt ky a ia<=kt ky b ib):Iv ky a b (o.push (a.getD ia 0)) (ia+1) ib:=(h.swap.pushB ha hl).swap
theorem Iv.extB{a b o:Array Nat}{ia ib:Nat}(h:Iv ky a b o ia ib): ∀d,ib+d<=b.size->(∀i,i<d->ia<a.size->kt ky b (ib+i)<=kt ky a ia)->Iv ky a b (o++b.extract ib (ib+d)) ia (ib+d)
 |0,_,_=>by rw[Ph,IH,Oa];exact h
 |d+1,h1,h2=>by
  have ih:=(Iv.extB h d (by lia) fun i hi=>h2 i (by lia)).pushB (by lia) (h2 d (by lia));rw[<- Ll,zD0 (by lia) (by lia),Oy];exact ih
theorem Iv.extA{a b o:Array Nat}{ia ib:Nat}(h:Iv ky a b o ia ib)(d:Nat)(h1:ia+d<=a.size)(h2: ∀i,i<d->ib<b.size->kt ky a (ia+i)<=kt ky b ib):Iv ky a b (o++a.extract ia (ia+d)) (ia+d) ib:=(h.swap.extB d h1 h2).swap
theorem PB(a:Array Nat)(i:Nat):(a.extract i a.size).toList=a.toList.drop i:=by rw[X6,show a.size=a.toList.length from rfl,Ls]
def Ms(ky:Nat->Nat)(a b t:Array Nat):Prop:=t.toList.Perm (a.toList++b.toList)/\Ss ky t.toList
theorem Iv.all{a b o:Array Nat}{ia ib:Nat}(h:Iv ky a b o ia ib):(o.toList++(a.toList.drop ia++b.toList.drop ib)).Perm (a.toList++b.toList):=by
 refine(h.1.append_right _).trans ?_;have e1:=Ee ia a.toList;have e2:=Ee ib b.toList;generalize a.toList.take ia=a1 at*;generalize a.toList.drop ia=a2 at*;generalize b.toList.take ib=b1 at*;generalize b.toList.drop ib=b2 at*;rw[<- e1,<- e2,Ba,Ba];refine Fq _ ?_;rw[<- Ba,<- Ba];exact Gm _ Ed
theorem Iv.done{a b o:Array Nat}{ia ib:Nat}(h:Iv ky a b o ia ib)(hx:ib=b.size∨ia=a.size):Ms ky a b (o++a.extract ia a.size++b.extract ib b.size):=by
 unfold Ms;rw[Ea,Ea,PB,PB,Ba];refine⟨h.all,?_⟩;rcases hx with rfl|rfl
 ·rw[show b.toList.drop b.size=[] from Dw,Db];exact h.2.1
 ·rw[show a.toList.drop a.size=[] from Dw];exact h.2.2
theorem Iv.lastA{a b o:Array Nat}{ia ib:Nat}(h:Iv ky a b o ia ib)(hi:ia+1=a.size)(hL: ∀y∈b.toList,ky y<=kt ky a (a.size - 1)):Ms ky a b (o++b.extract ib b.size++a.extract ia a.size):=by
 unfold Ms;rw[Ea,Ea,PB,PB,Ba];refine⟨(Fq _ Ed).trans h.all,?_⟩;have h2:=h.2.1;rw[T8 (show ia<a.size by lia),show a.toList.drop (ia+1)=[] by rw[hi];exact Dw] at h2⊢;rw[<- Ba];refine Ei.mpr ⟨h.2.2,List.pairwise_singleton _ _,fun y hy z hz=> ?_⟩;rw[Bb.mp hz];rcases Bk.mp hy with hy|hy
 ·exact(OS h2).1 y hy
 ·have:=hL y (Mu hy)
  rw[<- hi] at this;exact this
def Sd(x y:Pu):Prop:=y.p=x.p/\y.pd=x.pd
def Al(n:Nat)(a:Array Nat):Prop:= ∀i,i<a.size->a.getD i 0<n
def Lf(ky:Nat->Nat)(a b:Array Nat)(x:Pu)(m:Nat)(r:Option (Array Nat))(o:Array Nat)(ia ib:Nat)(y:Pu):Prop:=r=none/\Iv ky a b o ia ib/\ia+1<a.size/\ib<b.size/\m<=ia+ib/\Sd x y
def Td(ky:Nat->Nat)(a b:Array Nat)(x:Pu)(r:Option (Array Nat))(y:Pu):Prop:= ∃t,r=some t/\Ms ky a b t/\Sd x y
noncomputable def vG{β:Type}(t:Option (Array Nat)×Array Nat×β)(e:En):Option (Array Keyed)×Array Keyed×β:=(t.1.map e.of,e.of t.2.1,t.2.2)
theorem ZM(e:En)(o:Array Nat)(i:Nat):(e.of o).push (e.at i)=e.of (o.push i):=by simp[En.of,En.at]
theorem Y8(e:En)(o:Array Nat)(q:Array Nat):e.of o++e.of q=e.of (o++q):=by simp[En.of]
theorem ZQ(e:En)(o:Array Nat)(i j:Nat):(e.of o).extract i j=e.of (o.extract i j):=by simp[En.of]
theorem U1(e:En)(o:Array Nat):(e.of o).size=o.size:=by simp[En.of]
theorem OF(e:En)(o:Array Nat):(e.of o).reverse=e.of o.reverse:=by simp[En.of]
theorem Q1(e:En)(i:Nat): #[e.at i]=e.of #[i]:=by simp[En.of,En.at]
theorem QF{O:En->Array Keyed}{o:Array Nat}{i:Nat}(h: ∀e:En,O e=e.of o)(e:En):(O e).push (e.at i)=e.of (o.push i):=by rw[h e];exact ZM e o i
theorem X.yieldG{ck:Nat->Nat->Bool}{β:Type}{tail:β}{o:Array Nat}{O:En->Array Keyed}{I J:Option (Array Nat)×Array Nat×β->Pu->Prop}{y:Pu}(h:I (none,o,tail) y)(hO: ∀e,O e=e.of o):X n ck (fun e=>Gz (Dc (none,O e,tail))) y (sv vG) (sR I J):=
 X.yield (none,o,tail) h fun e=>by rw[hO];rfl
theorem X.doneG{ck:Nat->Nat->Bool}{β:Type}{tail:β}{o:Array Nat}{O:En->Array Keyed}{I J:Option (Array Nat)×Array Nat×β->Pu->Prop}{y:Pu}(h:J (none,o,tail) y)(hO: ∀e,O e=e.of o):X n ck (fun e=>Gz (ForInStep.done (none,O e,tail))) y (sv vG) (sR I J):=
 X.done (none,o,tail) h fun e=>by rw[hO];rfl
theorem X.tellD{ck:Nat->Nat->Bool}{β:Type}{tail:β}{a b o:Array Nat}{ia ib:Nat}{O:En->Array Keyed}{I J:Option (Array Nat)×Array Nat×β->Pu->Prop}{x y:Pu}(q:Iv ky a b o ia ib)(hx:ib=b.size∨ia=a.size)(hs:Sd x y)(hO: ∀e,O e=e.of o)(hJ: ∀t,Td ky a b x t.1 y->J t y):
  X n ck (fun e=>Gz (ForInStep.done (some (O e++(e.of a).extract ia (e.of a).size++(e.of b).extract ib (e.of b).size),O e,tail))) y (sv vG) (sR I J):=
 X.done (some (o++a.extract ia a.size++b.extract ib b.size),o,tail) (hJ _ ⟨_,rfl,q.done hx,hs⟩) fun e=>by rw[hO,U1,U1,ZQ,ZQ,Y8,Y8];rfl
theorem X.tellL{ck:Nat->Nat->Bool}{β:Type}{tail:β}{a b o:Array Nat}{ia ib:Nat}{O:En->Array Keyed}{I J:Option (Array Nat)×Array Nat×β->Pu->Prop}{x y:Pu}(q:Iv ky a b o ia ib)(hL: ∀y∈b.toList,ky y<=kt ky a (a.size - 1))(hi:ia+1=a.size)(hs:Sd x y)(hO: ∀e,O e=e.of o)(hJ: ∀t,Td ky a b x t.1 y->J t y):
  X n ck (fun e=>Gz (ForInStep.done (some (O e++(e.of b).extract ib (e.of b).size++(e.of a).extract ia (e.of a).size),O e,tail))) y (sv vG) (sR I J):=
 X.done (some (o++b.extract ib b.size++a.extract ia a.size),o,tail) (hJ _ ⟨_,rfl,q.lastA hi hL,hs⟩) fun e=>by rw[hO,U1,U1,ZQ,ZQ,Y8,Y8];rfl
abbrev GT(A γ:Type):=Option A×A×Nat×Nat×γ
theorem X.rangeL{ck:Nat->Nat->Bool}{γ:Type}{mm:Nat->Nat}{a b:Array Nat}{x0:Pu}{J:GT (Array Nat) γ->Pu->Prop}{f:En->Nat->GT (Array Keyed) γ->StateT Ej Sem (ForInStep (GT (Array Keyed) γ))}{bd:En->Nat}{o0:Array Nat}{ia0 ib0:Nat}{s0:γ}{x:Pu}{c:En->GT (Array Keyed) γ}(b0:Nat)(hb: ∀e,bd e=b0)
  (he: ∀t y,Lf ky a b x0 (mm 0) t.1 t.2.1 t.2.2.1 t.2.2.2.1 y->J t y) (h0:Lf ky a b x0 (mm b0) none o0 ia0 ib0 x)
  (hs: ∀k o ia ib s y,k<b0->Iv ky a b o ia ib->ia+1<a.size->ib<b.size->mm (k+1)<=ia+ib->Sd x0 y-> ∀i,X n ck (fun e=>f e i (none,e.of o,ia,ib,s)) y (sv vG) (sR (fun t y=>Lf ky a b x0 (mm k) t.1 t.2.1 t.2.2.1 t.2.2.2.1 y) J)) (hc: ∀e,c e=(none,e.of o0,ia0,ib0,s0):=by intro e;rfl):X n ck (fun e=>forIn [0:bd e] (c e) (f e)) x vG J:=by
 refine X.rangeE (v:=vG) (I:=fun k t y=>Lf ky a b x0 (mm k) t.1 t.2.1 t.2.2.1 t.2.2.2.1 y) (t:=(none,o0,ia0,ib0,s0)) b0 hb he h0 (fun k t y hk h i=> ?_) hc;obtain⟨r,o,ia,ib,s⟩:=t;obtain⟨rfl,h2,h3,h4,h5,h6⟩:=h;exact hs k o ia ib s y hk h2 h3 h4 h5 h6 i
theorem X.bindL{ck:Nat->Nat->Bool}{γ α τ:Type}{f:En->StateT Ej Sem (GT (Array Keyed) γ)}{k:En->GT (Array Keyed) γ->StateT Ej Sem α}{x:Pu}{v:τ->En->α}{R:τ->Pu->Prop}{m:Nat}{a b:Array Nat}{x0:Pu}(h1:X n ck f x vG (fun t z=>Td ky a b x0 t.1 z∨Lf ky a b x0 m t.1 t.2.1 t.2.2.1 t.2.2.2.1 z))
  (hT: ∀s o ia ib u z,Ms ky a b s->Sd x0 z->X n ck (fun e=>k e (some (e.of s),e.of o,ia,ib,u)) z v R) (hL: ∀o ia ib u z,Iv ky a b o ia ib->ia+1<a.size->ib<b.size->m<=ia+ib->Sd x0 z->X n ck (fun e=>k e (none,e.of o,ia,ib,u)) z v R):X n ck (fun e=>f e>>=k e) x v R:=by
 refine X.bind h1 ?_;rintro ⟨r,o,ia,ib,u⟩ z (⟨s,e1,hs,hd⟩|⟨e1,h2,h3,h4,h5,h6⟩)
 ·dsimp only at e1
  subst e1;exact hT s o ia ib u z hs hd
 ·dsimp only at e1
  subst e1;exact hL o ia ib u z h2 h3 h4 h5 h6
theorem zJ6{a b:Array Nat}{x:Pu}(ha:Al n a)(hb:Al n b)(a1:1<=a.size)(b1:1<=b.size)(sa:So ky a 0 a.size)(sb:So ky b 0 b.size)(hF: ∀y∈a.toList,kt ky b 0<=ky y)(hL: ∀y∈b.toList,ky y<=kt ky a (a.size - 1)):X n (lk ky) (fun e=>IZ (e.of a) (e.of b)) x (fun t e=>e.of t) (fun t y=>Ms ky a b t/\Sd x y):=by
 have i1:Iv ky a b #[b.getD 0 0] 0 1:=by
  have e:Iv ky a b #[] 0 0:=⟨by simp,sa.ss,sb.ss⟩;exact e.pushB (by lia) fun h=>hF _ (by simp[Gd,h])
 refine X.go D.rule ?_;refine X.go (D.elem (q:=b) (i:=0) (by lia)) ?_;refine X.eqSize (fun h=>X.ret (#[b.getD 0 0]++a.extract 0 a.size++b.extract 1 b.size) ⟨i1.done (.inl h),rfl,rfl⟩ fun e=> ?_) fun h=> ?_
 ·simp only[<- Y8,<- ZQ,U1,Q1]
 refine X.eqSize (fun h=>X.ret (#[b.getD 0 0]++b.extract 1 b.size++a.extract 0 a.size) ⟨i1.lastA h hL,rfl,rfl⟩ fun e=> ?_) fun h2=> ?_
 ·simp only[<- Y8,<- ZQ,U1,Q1]
 refine X.go D.get ?_;have tot: ∀e:En,(e.of a).size+(e.of b).size=a.size+b.size:=fun e=>by simp only[U1]
 refine X.bind (u:=vG) (S:=fun t y=>Td ky a b x t.1 y) ?_ ?_
 ·refine X.rangeL (mm := fun k => a.size + b.size - k) (o0 := #[b.getD 0 0]) (ia0 := 0) (ib0 := 1) (s0 := x.g) (a.size + b.size) tot ?_ ⟨rfl,i1,by lia,by lia,by lia,rfl,rfl⟩ ?_ fun e => ?_
  ·rintro t y ⟨_,_,h3,h4,h5,_⟩
   exact absurd h5 (by lia)
  ·intro k o ia ib g y hk h2 h3 h4 h5 h6 i
   dsimp only;refine X.bindL (m:=ia+ib+1) ?_ (fun s o ja jb u z hs hd=>X.done (some s,o,ja,jb,g) ⟨s,rfl,hs,hd⟩) ?_
   ·refine X.rangeL (mm := fun k => ia + ib + if k < a.size + b.size then 1 else 0) (o0 := o) (ia0 := ia) (ib0 := ib) (s0 := (0,0)) (a.size + b.size) tot ?_ ⟨rfl,h2,h3,h4,by rw [if_neg (by lia)];exact Ah _,h6⟩ ?_
    ·intro t y h
     rw[if_pos (by lia)] at h;exact .inr h
    ·intro k o ja jb s y hk g2 g3 g4 g5 g6 i
     dsimp only at g5⊢;have g5':ia+ib<=ja+jb:=by split at g5<;>lia
     refine X.go (D.elem (q:=b) (i:=jb) g4) (X.go (D.elem (q:=a) (i:=ja) (by lia)) (X.go (D.lt (hb _ g4) (ha _ (by lia))) ?_));refine X.ite (fun c=> ?_) fun c=> ?_
     ·refine X.go (D.elem (q:=b) (i:=jb) g4) ?_
      have q:=g2.pushB g4 fun _=>Df (of_decide_eq_true c);refine X.eqSize (fun z=>X.tellD q (.inl z) g6 (fun e=>ZM e _ _) fun t h=> .inl h) fun z=> ?_;exact X.ite (fun _=>X.doneG (.inr ⟨rfl,q,g3,by dsimp only;lia,by dsimp only;lia,g6⟩) fun e=>ZM e _ _) fun _=>X.yieldG ⟨rfl,q,g3,by dsimp only;lia,by dsimp only;rw[if_pos hk];lia,g6⟩ fun e=>ZM e _ _
     ·refine X.go (D.elem (q := a) (i := ja) (by lia)) ?_
      have q:=g2.pushA (show ja<a.size by lia) fun _=>Dv fun z=>c (decide_eq_true z);refine X.eqSize (fun z=>X.tellL q hL z g6 (fun e=>ZM e _ _) fun t h=> .inl h) fun z=> ?_;exact X.ite (fun _=>X.doneG (.inr ⟨rfl,q,by dsimp only;lia,g4,by dsimp only;lia,g6⟩) fun e=>ZM e _ _) fun _=>X.yieldG ⟨rfl,q,by dsimp only;lia,g4,by dsimp only;rw[if_pos hk];lia,g6⟩ fun e=>ZM e _ _
   ·intro o ja jb u z g2 g3 g4 g5 g6
    ·dsimp only
     refine X.go D.rule ?_;refine X.bindL (m:=ia+ib+1) ?_ (fun s o ja jb u z hs hd=>X.done (some s,o,ja,jb,u.1) ⟨s,rfl,hs,hd⟩) ?_
     ·refine X.rangeL (mm := fun _ => ia + ib + 1) (o0 := o) (ia0 := ja) (ib0 := jb) (s0 := (g + 1,u)) (a.size + b.size) tot (fun t y h => .inr h) ⟨rfl,g2,g3,g4,g5,g6⟩ ?_
      intro k o ja jb s y hk g2 g3 g4 g5 g6 i;dsimp only at g5⊢;refine X.ite (fun _=> ?_) fun _=> ?_
      all_goals
       refine X.go D.setMin (X.go (D.elem (q:=b) (i:=jb) g4) (X.bind (galE (a.size - ja) (fun e=>by simp only[U1]) (hb _ g4) (by lia) (by lia) ha sa) ?_));rintro d z ⟨⟨_,hd,c1,c2⟩,rfl⟩;have c1: ∀i,i<d->kt ky a (ja+i)<=kt ky b jb:=fun i hi=>Kz (c1 i hi);have c2:ja+d<a.size->kt ky b jb<=kt ky a (ja+d):=fun h=>Df (c2 d (Ah _) (by lia));refine X.ite (fun _=> ?_) fun h0=> ?_;have q:=g2.extA d (by lia) fun i hi _=>c1 i hi;have qO: ∀e:En,e.of o++(e.of a).extract ja (ja+d)=e.of (o++a.extract ja (ja+d)):=fun e=>by rw[ZQ,Y8]
       refine X.eqSize (fun z=>X.tellL q hL z g6 qO fun t h=> .inl h) fun z1=>X.eqSize (fun z=>X.tellD q (.inr z) g6 qO fun t h=> .inl h) fun z2=> ?_;have g7:ja+d+1<a.size:=by lia
       have g8:ia+ib+1<=ja+d+jb:=by lia
       rotate_left;obtain rfl:d=0:=by lia
       have q:=g2;have qO: ∀e:En,e.of o=e.of o:=fun e=>rfl;have g7:=g3;have g8:=g5
       all_goals
        refine X.go (D.elem (q:=b) (i:=jb) g4) ?_;have r:=q.pushB g4 c2;have rO:=QF (i:=b.getD jb 0) qO;refine X.eqSize (fun z=>X.tellD r (.inl z) g6 rO fun t h=> .inl h) fun z3=> ?_;refine X.go (D.elem (q:=a) (Ip g7)) (X.bind (galE (b.size - (jb+1)) (fun e=>by simp only[U1]) (ha _ (Ip g7)) (by lia) (by lia) hb sb) ?_);rintro d2 z ⟨⟨_,hd2,c3,c4⟩,rfl⟩;refine X.ite (fun _=> ?_) fun h0=> ?_;have u:=r.extB d2 (by lia) fun i hi _=>Df (c3 i hi);have uO: ∀e:En,_=e.of _:=fun e=>((congrArg (fun O=>O++(e.of b).extract (jb+1) (jb+1+d2)) (rO e)).trans (by rw[ZQ])).trans (Y8 e _ _);refine X.eqSize (fun z=>X.tellD u (.inl z) g6 uO fun t h=> .inl h) fun z4=> ?_;rotate_left;obtain rfl:d2=0:=by lia
        have u:=r;have uO:=rO;have z4:=z3
        all_goals
         refine X.go (D.elem (q:=a) (Ip g7)) ?_;have w:=u.pushA (Ip g7) fun h=>c4 _ (Ah _) (by lia);refine X.eqSize (fun z=>X.tellL w hL z g6 (QF uO) fun t h=> .inl h) fun z5=> ?_;have L:Lf ky a b x (ia+ib+1) none _ _ _ _:=⟨rfl,w,by lia,by lia,by lia,g6⟩;exact X.ite (fun _=>X.doneG (.inr L) (QF uO)) fun _=>X.yieldG L (QF uO)
     ·intro o ja jb u z g2 g3 g4 g5 g6
      dsimp only;refine X.go D.setMin ?_;exact X.yieldG ⟨rfl,g2,g3,g4,by dsimp only;lia,g6⟩ fun e=>rfl
  ·simp only[Q1]
   rfl
 ·rintro ⟨r,o,ia,ib,g⟩ y ⟨t,e1,h⟩
  dsimp only at e1;subst e1;exact X.ret t h
end
section
variable{n:Nat}{ky:Nat->Nat}
def Iw(ky:Nat->Nat)(a b o:Array Nat)(na nb:Nat):Prop:=o.toList.Perm (a.toList.drop na++b.toList.drop nb)/\Ss ky (a.toList.take na++o.toList.reverse)/\Ss ky (b.toList.take nb++o.toList.reverse)
theorem zBC{a:Array Nat}{i:Nat}(h:i<a.size):a.getD i 0∈a.toList:=by
 rw[show a.getD i 0=a[i] by simp[Gd,h]];simp
theorem Iw.swap{a b o:Array Nat}{na nb:Nat}(h:Iw ky a b o na nb):Iw ky b a o nb na:=⟨h.1.trans Ed,h.2.2,h.2.1⟩
theorem MT{a:Array Nat}{i:Nat}(h0:0<i)(h:i<=a.size):a.toList.take i=a.toList.take (i - 1)++[a.getD (i - 1) 0]:=by
 have e:=SK (a:=a) (i:=i - 1) (by lia);rw[show i - 1+1=i by lia] at e;exact e
theorem zHU{x:Nat}{o l r:List Nat}(h:Ss ky (o++[x]++r)): ∀y∈o++[x],ky y<=ky x:=fun y hy=>by
 have h:=(Ei.mp h).1;rcases Bk.mp hy with hy|hy
 ·exact(Ei.mp h).2.2 y hy x Au
 ·rw[Bb.mp hy];exact Ah _
theorem Iw.pushA{a b o:Array Nat}{na nb:Nat}(h:Iw ky a b o na nb)(h0:0<na)(h1:na<=a.size)(h2:nb<=b.size)(hl:0<nb->kt ky b (nb - 1)<=kt ky a (na - 1)):Iw ky a b (o.push (a.getD (na - 1) 0)) (na - 1) nb:=by
 obtain⟨g1,g2,g3⟩:=h;rw[MT h0 h1,Ba] at g2;unfold Iw;rw[Ez,List.reverse_append];refine⟨?_,g2,HJ g3 (fun y hy=> ?_) (OS g2).2⟩
 ·rw [T8 (show na - 1 < a.size by lia),show na - 1 + 1 = na by lia,Fj]
  exact Ed.trans (List.Perm.cons _ g1)
 ·by_cases hb:0<nb
  ·rw[MT hb h2] at g3 hy
   exact Cb (zHU (l:=[]) g3 y hy) (hl hb)
  ·rw [show nb = 0 by lia] at hy
   cases hy
theorem Iw.pushB{a b o:Array Nat}{na nb:Nat}(h:Iw ky a b o na nb)(h0:0<nb)(h1:nb<=b.size)(h2:na<=a.size)(hl:0<na->kt ky a (na - 1)<=kt ky b (nb - 1)):Iw ky a b (o.push (b.getD (nb - 1) 0)) na (nb - 1):=(h.swap.pushA h0 h1 h2 hl).swap
theorem zB3{a:Array Nat}{t m:Nat}(h0:0<t)(h1:t<=m)(h2:m<=a.size):(a.extract (t - 1) m).reverse=(a.extract t m).reverse.push (a.getD (t - 1) 0):=by
 apply Ja.mp;have e:a.getD (t - 1) 0=a[t - 1]'(by lia):=by simp[Gd,show t - 1<a.size by lia]
 rw[Ez,Hf,Hf,X6,X6,De (i:=t - 1) (by rw[Bu];show t - 1<min m a.size;lia),show t - 1+1=t by lia,List.reverse_cons,List.getElem_take,e];simp
theorem Iw.extA'{a b o:Array Nat}{na nb:Nat}(h:Iw ky a b o na nb)(h1:na<=a.size)(h2:nb<=b.size): ∀d,d<=na->(∀i,na - d<=i->i<na->0<nb->kt ky b (nb - 1)<=kt ky a i)->Iw ky a b (o++(a.extract (na - d) na).reverse) (na - d) nb
 |0,_,_=>by rw[Nat.sub_zero,IH,Array.reverse_empty,Oa];exact h
 |d+1,h3,h4=>by
  have ih:=(Iw.extA' h h1 h2 d (by lia) fun i hi=>h4 i (by lia)).pushA (by lia) (by lia) h2 (h4 _ (by lia) (by lia));rw[show na - (d+1)=na - d - 1 by lia,zB3 (by lia) (by lia) h1,Oy];exact ih
theorem Iw.extA{a b o:Array Nat}{na nb:Nat}(h:Iw ky a b o na nb)(h1:na<=a.size)(h2:nb<=b.size){t:Nat}(ht:t<=na)(h4: ∀i,t<=i->i<na->kt ky b (nb - 1)<=kt ky a i):Iw ky a b (o++(a.extract t na).reverse) t nb:=by
 have e:na - (na - t)=t:=by lia
 have:=h.extA' h1 h2 (na - t) (by lia) fun i h5 h6 _=>h4 i (by lia) h6;rw[e] at this;exact this
theorem Iw.extB{a b o:Array Nat}{na nb:Nat}(h:Iw ky a b o na nb)(h1:nb<=b.size)(h2:na<=a.size){t:Nat}(ht:t<=nb)(h4: ∀i,t<=i->i<nb->kt ky a (na - 1)<=kt ky b i):Iw ky a b (o++(b.extract t nb).reverse) na t:=(h.swap.extA h1 h2 ht h4).swap
theorem Iw.all{a b o:Array Nat}{na nb:Nat}(h:Iw ky a b o na nb):((a.toList.take na++b.toList.take nb)++o.toList.reverse).Perm (a.toList++b.toList):=by
 refine(Fq _ ((Oz _).trans h.1)).trans ?_;have e1:=Ee na a.toList;have e2:=Ee nb b.toList;generalize a.toList.take na=a1 at*;generalize a.toList.drop na=a2 at*;generalize b.toList.take nb=b1 at*;generalize b.toList.drop nb=b2 at*;rw[<- e1,<- e2,Ba,Ba];refine Fq _ ?_;rw[<- Ba,<- Ba];exact Gm _ Ed
theorem K1(a:Array Nat)(i:Nat):(a.extract 0 i).toList=a.toList.take i:=by rw[X6];rfl
theorem Iw.done{a b o:Array Nat}{na nb:Nat}(h:Iw ky a b o na nb)(hx:na=0∨nb=0):Ms ky a b (a.extract 0 na++b.extract 0 nb++o.reverse):=by
 unfold Ms;rw[Ea,Ea,K1,K1,Hf];refine⟨h.all,?_⟩;rcases hx with rfl|rfl
 ·exact h.2.2
 ·rw[List.take_zero,Db];exact h.2.1
theorem Iw.first{a b o:Array Nat}{na nb:Nat}(h:Iw ky a b o na nb)(hn:nb=1)(hb:1<=b.size)(hF: ∀y∈a.toList,kt ky b 0<=ky y):Ms ky a b (b.extract 0 nb++a.extract 0 na++o.reverse):=by
 unfold Ms;rw[Ea,Ea,K1,K1,Hf];refine⟨(Gm _ Ed).trans h.all,?_⟩;subst hn;have h3:=h.2.2;rw[SK (i:=0) (by lia)] at h3⊢;rw[Ba];refine HJ (o:=[]) h.2.1 (fun _ h=>by cases h) fun y hy=> ?_;rcases Bk.mp hy with hy|hy
 ·exact hF y (Mv hy)
 ·exact(OS (o:=[]) h3).2 y hy
def Lh(ky:Nat->Nat)(a b:Array Nat)(x:Pu)(m:Nat)(r:Option (Array Nat))(o:Array Nat)(na nb:Nat)(y:Pu):Prop:=r=none/\Iw ky a b o na nb/\0<na/\na<=a.size/\1<nb/\nb<=b.size/\na+nb<=m/\Sd x y
abbrev HT(β:Type):=Option (Array Nat)×Nat×Nat×Array Nat×β
noncomputable def vH{β:Type}(t:HT β)(e:En):Option (Array Keyed)×Nat×Nat×Array Keyed×β:=(t.1.map e.of,t.2.1,t.2.2.1,e.of t.2.2.2.1,t.2.2.2.2)
theorem X.yieldH{ck:Nat->Nat->Bool}{β:Type}{tail:β}{o:Array Nat}{na nb:Nat}{O:En->Array Keyed}{I J:HT β->Pu->Prop}{y:Pu}(h:I (none,na,nb,o,tail) y)(hO: ∀e,O e=e.of o):X n ck (fun e=>Gz (Dc (none,na,nb,O e,tail))) y (sv vH) (sR I J):=
 X.yield (none,na,nb,o,tail) h fun e=>by rw[hO];rfl
theorem X.doneH{ck:Nat->Nat->Bool}{β:Type}{tail:β}{o:Array Nat}{na nb:Nat}{O:En->Array Keyed}{I J:HT β->Pu->Prop}{y:Pu}(h:J (none,na,nb,o,tail) y)(hO: ∀e,O e=e.of o):X n ck (fun e=>Gz (ForInStep.done (none,na,nb,O e,tail))) y (sv vH) (sR I J):=
 X.done (none,na,nb,o,tail) h fun e=>by rw[hO];rfl
theorem X.tellE{ck:Nat->Nat->Bool}{β:Type}{tail:β}{a b o:Array Nat}{na nb:Nat}{O:En->Array Keyed}{I J:HT β->Pu->Prop}{x y:Pu}(q:Iw ky a b o na nb)(hx:na=0∨nb=0)(hs:Sd x y)(hO: ∀e,O e=e.of o)(hJ: ∀t,Td ky a b x t.1 y->J t y):
  X n ck (fun e=>Gz (ForInStep.done (some ((e.of a).extract 0 na++(e.of b).extract 0 nb++(O e).reverse),na,nb,O e,tail))) y (sv vH) (sR I J):=
 X.done (some (a.extract 0 na++b.extract 0 nb++o.reverse),na,nb,o,tail) (hJ _ ⟨_,rfl,q.done hx,hs⟩) fun e=>by rw[hO,ZQ,ZQ,OF,Y8,Y8];rfl
theorem X.tellF{ck:Nat->Nat->Bool}{β:Type}{tail:β}{a b o:Array Nat}{na nb:Nat}{O:En->Array Keyed}{I J:HT β->Pu->Prop}{x y:Pu}(q:Iw ky a b o na nb)(hb:1<=b.size)(hF: ∀y∈a.toList,kt ky b 0<=ky y)(hn:nb=1)(hs:Sd x y)(hO: ∀e,O e=e.of o)(hJ: ∀t,Td ky a b x t.1 y->J t y):
  X n ck (fun e=>Gz (ForInStep.done (some ((e.of b).extract 0 nb++(e.of a).extract 0 na++(O e).reverse),na,nb,O e,tail))) y (sv vH) (sR I J):=
 X.done (some (b.extract 0 nb++a.extract 0 na++o.reverse),na,nb,o,tail) (hJ _ ⟨_,rfl,q.first hn hb hF,hs⟩) fun e=>by rw[hO,ZQ,ZQ,OF,Y8,Y8];rfl
theorem X.is{ck:Nat->Nat->Bool}{α τ:Type}{m k:Nat}{dc:En->Decidable ((m==k)=true)}{a b:En->StateT Ej Sem α}{x:Pu}{v:τ->En->α}{R:τ->Pu->Prop}(h1:m=k->X n ck a x v R)(h2:m≠k->X n ck b x v R):X n ck (fun e=> @_root_.ite _ ((m==k)=true) (dc e) (a e) (b e)) x v R:=
 X.ite (fun h=>h1 (by simpa using h)) fun h=>h2 (by simpa using h)
theorem X.iteE{ck:Nat->Nat->Bool}{α τ:Type}{c:En->Prop}{dc:(e:En)->Decidable (c e)}{a b:En->StateT Ej Sem α}{x:Pu}{v:τ->En->α}{R:τ->Pu->Prop}{c0:Prop}(hc: ∀e,c e=c0)(h1:c0->X n ck a x v R)(h2: ¬c0->X n ck b x v R):X n ck (fun e=> @_root_.ite _ (c e) (dc e) (a e) (b e)) x v R:=by
 obtain rfl:c=fun _=>c0:=funext hc;exact X.ite h1 h2
theorem revO{O:En->Array Keyed}{o a:Array Nat}{i j:Nat}(h: ∀e:En,O e=e.of o)(e:En):O e++((e.of a).extract i j).reverse=e.of (o++(a.extract i j).reverse):=by rw[h e,ZQ,OF,Y8]
theorem X.rangeH{ck:Nat->Nat->Bool}{γ:Type}{mm:Nat->Nat}{a b:Array Nat}{x0:Pu}{J:HT γ->Pu->Prop}{f:En->Nat->Option (Array Keyed)×Nat×Nat×Array Keyed×γ->StateT Ej Sem (ForInStep (Option (Array Keyed)×Nat×Nat×Array Keyed×γ))}{o0:Array Nat}{ia0 ib0:Nat}{s0:γ}{x:Pu}{c:En->Option (Array Keyed)×Nat×Nat×Array Keyed×γ}(b0:Nat)
  (he: ∀t y,Lh ky a b x0 (mm 0) t.1 t.2.2.2.1 t.2.1 t.2.2.1 y->J t y) (h0:Lh ky a b x0 (mm b0) none o0 ia0 ib0 x)
  (hs: ∀k o na nb s y,k<b0->Iw ky a b o na nb->0<na->na<=a.size->1<nb->nb<=b.size->na+nb<=mm (k+1)->Sd x0 y-> ∀i,X n ck (fun e=>f e i (none,na,nb,e.of o,s)) y (sv vH) (sR (fun t y=>Lh ky a b x0 (mm k) t.1 t.2.2.2.1 t.2.1 t.2.2.1 y) J)) (hc: ∀e,c e=(none,ia0,ib0,e.of o0,s0):=by intro e;rfl):X n ck (fun e=>forIn [0:b0] (c e) (f e)) x vH J:=by
 refine X.rangeE (v:=vH) (I:=fun k t y=>Lh ky a b x0 (mm k) t.1 t.2.2.2.1 t.2.1 t.2.2.1 y) (t:=(none,ia0,ib0,o0,s0)) b0 (fun _=>rfl) he h0 (fun k t y hk h i=> ?_) hc;obtain⟨r,na,nb,o,s⟩:=t;obtain⟨rfl,h2,h3,h4,h5,h6,h7,h8⟩:=h;exact hs k o na nb s y hk h2 h3 h4 h5 h6 h7 h8 i
theorem X.bindH{ck:Nat->Nat->Bool}{γ α τ:Type}{f:En->StateT Ej Sem (Option (Array Keyed)×Nat×Nat×Array Keyed×γ)}{k:En->Option (Array Keyed)×Nat×Nat×Array Keyed×γ->StateT Ej Sem α}{x:Pu}{v:τ->En->α}{R:τ->Pu->Prop}{m:Nat}{a b:Array Nat}{x0:Pu}(h1:X n ck f x vH (fun t z=>Td ky a b x0 t.1 z∨Lh ky a b x0 m t.1 t.2.2.2.1 t.2.1 t.2.2.1 z))
  (hT: ∀s o na nb u z,Ms ky a b s->Sd x0 z->X n ck (fun e=>k e (some (e.of s),na,nb,e.of o,u)) z v R) (hL: ∀o na nb u z,Iw ky a b o na nb->0<na->na<=a.size->1<nb->nb<=b.size->na+nb<=m->Sd x0 z->X n ck (fun e=>k e (none,na,nb,e.of o,u)) z v R):X n ck (fun e=>f e>>=k e) x v R:=by
 refine X.bind h1 ?_;rintro ⟨r,na,nb,o,u⟩ z (⟨s,e1,hs,hd⟩|⟨e1,h2,h3,h4,h5,h6,h7,h8⟩)
 ·dsimp only at e1
  subst e1;exact hT s o na nb u z hs hd
 ·dsimp only at e1
  subst e1;exact hL o na nb u z h2 h3 h4 h5 h6 h7 h8
theorem zJ7{a b:Array Nat}{x:Pu}(ha:Al n a)(hb:Al n b)(a1:1<=a.size)(b1:1<=b.size)(sa:So ky a 0 a.size)(sb:So ky b 0 b.size)(hF: ∀y∈a.toList,kt ky b 0<=ky y)(hL: ∀y∈b.toList,ky y<=kt ky a (a.size - 1)):X n (lk ky) (fun e=>IW (e.of a) (e.of b)) x (fun t e=>e.of t) (fun t y=>Ms ky a b t/\Sd x y):=by
 have i1:Iw ky a b #[a.getD (a.size - 1) 0] (a.size - 1) b.size:=by
  have e:Iw ky a b #[] a.size b.size:=by
   unfold Iw;rw[show a.size=a.toList.length from rfl,show b.size=b.toList.length from rfl,Dw,Dw,Ls,Ls];exact⟨.refl _,by rw[Lu,Db];exact sa.ss,by rw[Lu,Db];exact sb.ss⟩
  exact e.pushA (by lia) (Ah _) (Ah _) fun h=>hL _ (zBC (by lia))
 refine X.go D.rule ?_;simp only[U1];refine X.go (D.elem (q:=a) (i:=a.size - 1) (by lia)) ?_;refine X.is (fun h=>X.ret (a.extract 0 (a.size - 1)++b.extract 0 b.size++ #[a.getD (a.size - 1) 0].reverse) ⟨i1.done (.inl h),rfl,rfl⟩ fun e=> ?_) fun h=> ?_
 ·simp only[<- Y8,<- ZQ,<- OF,Q1]
 refine X.is (fun h=>X.ret (b.extract 0 b.size++a.extract 0 (a.size - 1)++ #[a.getD (a.size - 1) 0].reverse) ⟨i1.first h b1 hF,rfl,rfl⟩ fun e=> ?_) fun h2=> ?_
 ·simp only[<- Y8,<- ZQ,<- OF,Q1]
 refine X.go D.get ?_;refine X.bind (u:=vH) (S:=fun t y=>Td ky a b x t.1 y) ?_ ?_
 ·refine X.rangeH (mm := fun k => k) (o0 := #[a.getD (a.size - 1) 0]) (ia0 := a.size - 1) (ib0 := b.size) (s0 := x.g) (a.size + b.size) ?_ ⟨rfl,i1,by lia,by lia,by lia,Ah _,by lia,rfl,rfl⟩ ?_ fun e => ?_
  ·rintro t y ⟨_,_,h3,h4,h5,h6,h7,_⟩
   exact absurd h7 (by lia)
  ·intro k o na nb g y hk h2 h3 h3' h4 h4' h5 h6 i
   dsimp only;refine X.bindH (m:=k) ?_ (fun s o ja jb u z hs hd=>X.done (some s,ja,jb,o,g) ⟨s,rfl,hs,hd⟩) ?_
   ·refine X.rangeH (mm := fun j => if j < a.size + b.size then k else k + 1) (o0 := o) (ia0 := na) (ib0 := nb) (s0 := (0,0)) (a.size + b.size) ?_ ⟨rfl,h2,h3,h3',h4,h4',by rw [if_neg (by lia)];exact h5,h6⟩ ?_
    ·intro t y h
     rw[if_pos (by lia)] at h;exact .inr h
    ·intro j o ka kb s y hk g2 g3 g3' g4 g4' g5 g6 i
     dsimp only at g5⊢;have g5':ka+kb<=k+1:=by split at g5<;>lia
     refine X.go (D.elem (q:=b) (i:=kb - 1) (by lia)) (X.go (D.elem (q:=a) (i:=ka - 1) (by lia)) (X.go (D.lt (hb _ (by lia)) (ha _ (by lia))) ?_));refine X.ite (fun c=> ?_) fun c=> ?_
     ·refine X.go (D.elem (q := a) (i := ka - 1) (by lia)) ?_
      have q:=g2.pushA g3 g3' g4' fun _=>Df (of_decide_eq_true c);refine X.is (fun z=>X.tellE q (.inl z) g6 (fun e=>ZM e _ _) fun t h=> .inl h) fun z=> ?_;exact X.ite (fun _=>X.doneH (.inr ⟨rfl,q,by dsimp only;lia,by dsimp only;lia,g4,g4',by dsimp only;lia,g6⟩) fun e=>ZM e _ _) fun _=>X.yieldH ⟨rfl,q,by dsimp only;lia,by dsimp only;lia,g4,g4',by dsimp only;rw[if_pos hk];lia,g6⟩ fun e=>ZM e _ _
     ·refine X.go (D.elem (q := b) (i := kb - 1) (by lia)) ?_
      have q:=g2.pushB (by lia) g4' g3' fun _=>Dv fun z=>c (decide_eq_true z);refine X.is (fun z=>X.tellF q b1 hF z g6 (fun e=>ZM e _ _) fun t h=> .inl h) fun z=> ?_;exact X.ite (fun _=>X.doneH (.inr ⟨rfl,q,g3,g3',by dsimp only;lia,by dsimp only;lia,by dsimp only;lia,g6⟩) fun e=>ZM e _ _) fun _=>X.yieldH ⟨rfl,q,g3,g3',by dsimp only;lia,by dsimp only;lia,by dsimp only;rw[if_pos hk];lia,g6⟩ fun e=>ZM e _ _
   ·intro o ka kb u z g2 g3 g3' g4 g4' g5 g6
    ·dsimp only
     refine X.go D.rule ?_;refine X.bindH (m:=k) ?_ (fun s o ja jb u z hs hd=>X.done (some s,ja,jb,o,u.1) ⟨s,rfl,hs,hd⟩) ?_
     ·refine X.rangeH (mm := fun _ => k) (o0 := o) (ia0 := ka) (ib0 := kb) (s0 := (g + 1,u)) (a.size + b.size) (fun t y h => .inr h) ⟨rfl,g2,g3,g3',g4,g4',g5,g6⟩ ?_
      intro j o ka kb s y hk g2 g3 g3' g4 g4' g5 g6 i;dsimp only at g5⊢;refine X.ite (fun _=> ?_) fun _=> ?_
      all_goals
       refine X.go D.setMin (X.go (D.elem (q:=b) (i:=kb - 1) (by lia)) (X.bind (galE ka (fun _=>rfl) (hb _ (by lia)) (by lia) (by lia) ha sa) ?_));rintro d z ⟨⟨_,hd,c1,c2⟩,rfl⟩;have c1: ∀i,i<d->kt ky a i<=kt ky b (kb - 1):=fun i hi=>by have:=c1 i hi;rw[Ew] at this;exact Kz this
       have c2: ∀i,d<=i->i<ka->kt ky b (kb - 1)<=kt ky a i:=fun i h1 h2=>by have:=c2 i h1 h2;rw[Ew] at this;exact Df this
       refine X.ite (fun _=> ?_) fun h0=> ?_;have q:=g2.extA g3' g4' hd c2;have qO:=revO (o:=o) (a:=a) (i:=d) (j:=ka) fun e=>rfl;refine X.is (fun z=>X.tellE q (.inl z) g6 qO fun t h=> .inl h) fun z1=> ?_;rotate_left;obtain rfl:d=ka:=by lia
       have q:=g2;have qO: ∀e:En,e.of o=e.of o:=fun e=>rfl;have z1:d≠0:=by lia
       all_goals
        have d1:d - 1<a.size:=by lia
        refine X.go (D.elem (q:=b) (i:=kb - 1) (by lia)) ?_;have r:=q.pushB (show 0<kb by lia) g4' (by lia) fun h=>c1 (d - 1) (by lia);have rO:=QF (i:=b.getD (kb - 1) 0) qO;refine X.is (fun z=>X.tellF r b1 hF z g6 rO fun t h=> .inl h) fun z3=> ?_;refine X.go (D.elem (q:=a) (i:=d - 1) d1) (X.bind (galE (kb - 1) (fun _=>rfl) (ha _ d1) (by lia) (by lia) hb sb) ?_);rintro d2 z ⟨⟨_,hd2,c3,c4⟩,rfl⟩;have c3: ∀i,i<d2->kt ky b i<=kt ky a (d - 1):=fun i hi=>by have:=c3 i hi;rw[Ew] at this;exact Df this
        have c4: ∀i,d2<=i->i<kb - 1->kt ky a (d - 1)<=kt ky b i:=fun i h1 h2=>by have:=c4 i h1 h2;rw[Ew] at this;exact this
        refine X.ite (fun _=> ?_) fun h0=> ?_;have u:=r.extB (by lia) (by lia) hd2 c4;have uO:=revO (a:=b) (i:=d2) (j:=kb - 1) rO;refine X.is (fun z=>X.tellF u b1 hF z g6 uO fun t h=> .inl h) fun z4=>X.is (fun z=>X.tellE u (.inr z) g6 uO fun t h=> .inl h) fun z4'=> ?_;rotate_left;obtain rfl:d2=kb - 1:=by lia
        have u:=r;have uO:=rO;have z4:=z3;have z4':kb - 1≠0:=by lia
        all_goals
         refine X.go (D.elem (q:=a) (i:=d - 1) d1) ?_;have w:=u.pushA (show 0<d by lia) (by lia) (by lia) fun h=>c3 _ (by lia);refine X.is (fun z=>X.tellE w (.inl z) g6 (QF uO) fun t h=> .inl h) fun z5=> ?_;have L:Lh ky a b x k none _ _ _ _:=⟨rfl,w,by lia,by lia,by lia,by lia,by lia,g6⟩;exact X.iteE (c0:=(decide (_<7) && decide (_<7))=true) (fun e=>rfl) (fun _=>X.doneH (.inr L) (QF uO)) fun _=>X.yieldH L (QF uO)
     ·intro o ka kb u z g2 g3 g3' g4 g4' g5 g6
      dsimp only;refine X.go D.setMin ?_;exact X.yieldH ⟨rfl,g2,g3,g3',g4,g4',g5,g6⟩ fun e=>rfl
  ·simp only[Q1]
   rfl
 ·rintro ⟨r,na,nb,o,g⟩ y ⟨t,e1,h⟩
  dsimp only at e1;subst e1;exact X.ret t h
end
section
variable{n:Nat}{ky:Nat->Nat}
theorem So.keep{p q:Array Nat}{i j:Nat}(h:So ky p i j)(e: ∀t,i<=t->t<j->q.getD t 0=p.getD t 0):So ky q i j:=fun a b h1 h2 h3=>by
 unfold kt;rw[e a h1 (by lia),e b (by lia) h3];exact h a b h1 h2 h3
theorem So.sub{p:Array Nat}{i j i' j':Nat}(h:So ky p i j)(h1:i<=i')(h2:j'<=j):So ky p i' j':=fun a b g1 g2 g3=>h a b (by lia) g2 (by lia)
theorem So.le{p:Array Nat}{i j a b:Nat}(h:So ky p i j)(h1:i<=a)(h2:a<=b)(h3:b<j):kt ky p a<=kt ky p b:=by
 by_cases e:a=b
 ·rw[e];exact Ah _
 ·exact h a b h1 (by lia) h3
theorem So.cat{p:Array Nat}{i m j:Nat}(h1:So ky p i m)(h2:So ky p m j)(h: ∀a b,i<=a->a<m->m<=b->b<j->kt ky p a<=kt ky p b):So ky p i j:=fun a b g1 g2 g3=>by
 by_cases e:b<m
 ·exact h1 a b g1 g2 e
 ·by_cases e2:a<m
  ·exact h a b g1 e2 (by lia) g3
  ·exact h2 a b (by lia) g2 g3
def Ch(ky:Nat->Nat)(p:Array Nat):List (Nat×Nat×Nat)->Nat->Nat->Prop
 |[],s,e=>s=e
 |u::l,s,e=>u.1=s/\1<=u.2.1/\So ky p s (s+u.2.1)/\Ch ky p l (s+u.2.1) e
theorem Ch.len{p:Array Nat}: ∀{l:List (Nat×Nat×Nat)} {s e:Nat},Ch ky p l s e->s+l.length<=e
 |[],s,e,h=>Nat.le_of_eq h
 |u::l,s,e,h=>by
  have:=Ch.len h.2.2.2;have:=h.2.1;rw[Bn];lia
theorem Ch.keep{p q:Array Nat}: ∀{l:List (Nat×Nat×Nat)} {s e:Nat},Ch ky p l s e->(∀t,s<=t->t<e->q.getD t 0=p.getD t 0)->Ch ky q l s e
 |[],s,e,h,_=>h
 |u::l,s,e,h,k=>by
  have:=Ch.len h.2.2.2;exact⟨h.1,h.2.1,h.2.2.1.keep fun t h1 h2=>k t h1 (by lia),Ch.keep h.2.2.2 fun t h1 h2=>k t (by lia) h2⟩
theorem Ch.two{p:Array Nat}: ∀{l:List (Nat×Nat×Nat)} {s e i:Nat} {u v:Nat×Nat×Nat},Ch ky p l s e->l[i]? =some u->l[i+1]? =some v->v.1=u.1+u.2.1/\1<=u.2.1/\1<=v.2.1/\v.1+v.2.1<=e/\s<=u.1/\So ky p u.1 v.1/\So ky p v.1 (v.1+v.2.1)
 |[],s,e,i,u,v,h,h1,h2=>by simp at h1
 |[w],s,e,i,u,v,h,h1,h2=>by simp at h2
 |w::w'::l,s,e,0,u,v,h,h1,h2=>by
  simp at h1 h2;subst h1 h2;obtain⟨a1,a2,a3,a4,a5,a6,a7⟩:=h;have:=a7.len;rw[a1,a4];exact⟨rfl,a2,a5,by lia,Ah _,a3,a6⟩
 |w::w'::l,s,e,i+1,u,v,h,h1,h2=>by
  have ih:=Ch.two (l:=w'::l) h.2.2.2 (by simpa using h1) (by simpa using h2);exact⟨ih.1,ih.2.1,ih.2.2.1,ih.2.2.2.1,by lia,ih.2.2.2.2.2⟩
theorem Ch.join{p q:Array Nat}: ∀{l:List (Nat×Nat×Nat)} {s e i:Nat} {u v:Nat×Nat×Nat},Ch ky p l s e->l[i]? =some u->l[i+1]? =some v->(∀t,t<u.1∨v.1+v.2.1<=t->q.getD t 0=p.getD t 0)->So ky q u.1 (v.1+v.2.1)->Ch ky q ((l.set i (u.1,u.2.1+v.2.1,u.2.2)).eraseIdx (i+1)) s e
 |[],s,e,i,u,v,h,h1,h2,_,_=>by simp at h1
 |[w],s,e,i,u,v,h,h1,h2,_,_=>by simp at h2
 |w::w'::l,s,e,0,u,v,h,h1,h2,k,hs=>by
  simp at h1 h2;subst h1 h2;obtain⟨a1,a2,a3,a4,a5,a6,a7⟩:=h;rw[a1,a4,Ll] at hs;rw[Ll] at a7;exact⟨a1,by dsimp only;lia,hs,a7.keep fun t h1 h2=>k t (by lia)⟩
 |w::w'::l,s,e,i+1,u,v,h,h1,h2,k,hs=>by
  have h1:(w'::l)[i]? =some u:=by simpa using h1
  have h2:(w'::l)[i+1]? =some v:=by simpa using h2
  have le:=(Ch.two h.2.2.2 h1 h2).2.2.2.2.1;exact⟨h.1,h.2.1,h.2.2.1.keep fun t h1 h2=>k t (by lia),Ch.join h.2.2.2 h1 h2 k hs⟩
theorem Ch.more{p:Array Nat}: ∀{l:List (Nat×Nat×Nat)} {s e m:Nat},Ch ky p l s e->1<=m->So ky p e (e+m)->Ch ky p (l++[(e,m,0)]) s (e+m)
 |[],s,e,m,h,h1,hs=>⟨h.symm,h1,by rw[h];exact hs,by rw[h];rfl⟩
 |u::l,s,e,m,h,h1,hs=>⟨h.1,h.2.1,h.2.2.1,Ch.more h.2.2.2 h1 hs⟩
theorem Ch.mod{p:Array Nat}{f:Nat×Nat×Nat->Nat×Nat×Nat}(hf: ∀u,(f u).1=u.1/\(f u).2.1=u.2.1): ∀{l:List (Nat×Nat×Nat)} {s e:Nat} (i:Nat),Ch ky p l s e->Ch ky p (l.modify i f) s e
 |[],s,e,i,h=>by simpa using h
 |u::l,s,e,0,h=>by
  rw[List.modify_zero_cons];exact⟨(hf u).1.trans h.1,by rw[(hf u).2];exact h.2.1,by rw[(hf u).2];exact h.2.2⟩
 |u::l,s,e,i+1,h=>by
  rw[List.modify_succ_cons];exact⟨h.1,h.2.1,h.2.2.1,Ch.mod hf i h.2.2.2⟩
noncomputable def put{α:Type}(p:Array α)(s:Nat)(l:List α)(k:Nat):Array α:=(l.zipIdx k).foldl (fun a x=>a.setIfInBounds (s+x.2) x.1) p
theorem FT{α β:Type}(f:α->β)(s:Nat): ∀(l:List α) (k:Nat) (p:Array α),put (p.map f) s (l.map f) k=(put p s l k).map f
 |[],k,p=>rfl
 |q::l,k,p=>by
  have e:(p.map f).setIfInBounds (s+k) (f q)=(p.setIfInBounds (s+k) q).map f:=by simp
  show put ((p.map f).setIfInBounds (s+k) (f q)) s (l.map f) (k+1)=_;rw[e];exact FT f s l (k+1) _
theorem OJ{α:Type}(s:Nat): ∀(l:List α) (k:Nat) (p:Array α),s+k+l.length<=p.size->(put p s l k).toList=p.toList.take (s+k)++l++p.toList.drop (s+k+l.length)
 |[],k,p,h=>by simp[put]
 | q :: l,k,p,h => by
  simp only[Bn] at h;have ih:=OJ s l (k+1) (p.setIfInBounds (s+k) q) (by simp;lia);show(put (p.setIfInBounds (s+k) q) s l (k+1)).toList=_;have hk:s+k<p.toList.length:=by simp;lia
  rw[ih,Array.toList_setIfInBounds,show s+(k+1)=s+k+1 by lia,List.drop_set_of_lt (by lia),List.take_set,Qv,Ct hk];simp only[Bn,Option.toList_some];rw[show s+k+(l.length+1)=s+k+1+l.length by lia];have e2:(p.toList.take (s+k)++[p.toList[s+k]]).set (s+k) q=p.toList.take (s+k)++[q]:=by
   have af:(p.toList.take (s+k)).length=s+k:=by rw[Bu];lia
   rw[Fs _ _ (by lia),af,Nat.sub_self];rfl
  rw[e2];simp
theorem zF6{p t:Array Nat}{s:Nat}(h:s+t.size<=p.size)(i:Nat):(put p s t.toList 0).getD i 0=if s<=i/\i<s+t.size then t.getD (i - s) 0 else p.getD i 0:=by
 have e:=OJ s t.toList 0 p (by simpa using h);simp only[Ha,<- Mm];rw[e,Ph,Ba];have l1:(p.toList.take s).length=s:=by rw[Bu];show min s p.size=s;lia
 by_cases h1:i<s
 ·rw[if_neg (by lia),Am (by lia),Ce h1]
 ·rw [Bw (by lia),l1]
  by_cases h2:i<s+t.size
  ·rw[if_pos (by lia),Am (by show i - s<t.size;lia)]
  ·rw [if_neg (by lia),Bw (by show t.size <= i - s;lia),List.getElem?_drop]
   congr 2;show s+t.size+(i - s - t.size)=i;lia
def Wf(ky:Nat->Nat)(n:Nat)(lo:Nat)(x:Pu):Prop:=Pm n x.p/\Ch ky x.p x.pd.toList 0 lo/\lo<=n
theorem DB(l:List Nat)(i j:Nat)(h:i<=j):l.drop i=(l.take j).drop i++l.drop j:=by
 have e:=Ee (j - i) (l.drop i);rw[Qx,show i+(j - i)=j by lia,<- Qw] at e;exact e.symm
theorem Pm.put{p:Array Nat}(hp:Pm n p){s m e:Nat}{t:Array Nat}(h1:s<=m)(h2:m<=e)(h3:e<=n)(ht:t.toList.Perm ((p.extract s m).toList++(p.extract m e).toList)):t.size=e - s/\Pm n (TS.put p s t.toList 0):=by
 have hs:=hp.sz;have hl:t.toList.length=e - s:=by
  rw[ht.length_eq];simp;lia
 refine⟨hl,?_⟩;unfold Pm;rw[OJ s t.toList 0 p (by lia)];refine Jx ?_ hp;rw[hl,show s+0+(e - s)=e by lia,Ph];have e0:=Ee e p.toList;have e1:=Ee s (p.toList.take e);have e2:=DB (p.toList.take e) s m h1;rw[Qy,Jz h2] at e2;rw[Qy,Jz (by lia)] at e1;rw[X6,X6,<- e2] at ht;have e3:p.toList=p.toList.take s++(p.toList.take e).drop s++p.toList.drop e:=by rw[e1,e0]
 refine Jx (Gm _ (Fq _ ht)) ?_;rw[<- e3]
theorem D.set{ck:Nat->Nat->Bool}{F:En->Ej}{x y:Pu}(h: ∀e,F e=D7 e y):D n ck (fun e=>(MonadStateOf.set (F e):StateT Ej Sem PUnit)) x (fun _=>⟨⟩) y:=fun e _ E Q q=>by
 show kasC _ _ _ (MonadStateOf.set (F e):StateT Ej Sem PUnit) Q _ _;rw[h e];unfold kasC;exact Ak q
theorem Pm.al{p:Array Nat}(h:Pm n p):Al n p:=fun i hi=>h.lt (by rw[<- h.sz];exact hi)
theorem QQ{p:Array Nat}{i j k:Nat}(hj:j<=p.size)(hk:i+k<j):(p.extract i j).getD k 0=p.getD (i+k) 0:=by
 have h1:i+k<p.size:=by lia
 have hk':k<min j p.size - i:=by lia
 have e1:p.getD (i+k) 0=p[i+k]:=by simp[Gd,h1]
 have e2:(p.extract i j).getD k 0=(p.extract i j)[k]'(by simpa using hk'):=by simp[Gd,hk']
 rw[e1,e2,Array.getElem_extract]
theorem WH{p:Array Nat}{i j:Nat}(hj:j<=p.size):(p.extract i j).size=j - i:=by simp;lia
theorem Al.ext{p:Array Nat}(h:Al n p){i j:Nat}(hj:j<=p.size):Al n (p.extract i j):=fun k hk=>by
 rw[WH hj] at hk;rw[QQ hj (by lia)];exact h _ (by lia)
theorem So.ext{p:Array Nat}{i j:Nat}(h:So ky p i j)(hj:j<=p.size):So ky (p.extract i j) 0 (p.extract i j).size:=fun a b h1 h2 h3=>by
 rw[WH hj] at h3;unfold kt;rw[QQ hj (by lia),QQ hj (by lia)];exact h _ _ (by lia) (by lia) (by lia)
theorem zGL{p:Array Nat}{y:Nat}(h:y∈p.toList): ∃c,c<p.size/\y=p.getD c 0:=by
 obtain⟨c,hc,e⟩:=Nh h;have hc:c<p.size:=hc;refine⟨c,hc,?_⟩;rw[<- e];simp[Gd,hc]
theorem PF{p:Array Nat}{i j y:Nat}(hj:j<=p.size)(h:y∈(p.extract i j).toList): ∃c,i<=c/\c<j/\y=p.getD c 0:=by
 obtain⟨c,hc,e⟩:=zGL h;rw[WH hj] at hc;rw[QQ hj (by lia)] at e;exact⟨i+c,by lia,by lia,e⟩
theorem merE{a b:Array Nat}{x:Pu}{A B:En->Array Keyed}{c:Prop}{dc:En->Decidable c}(hA: ∀e,A e=e.of a)(hB: ∀e,B e=e.of b)(ha:Al n a)(hb:Al n b)(a1:1<=a.size)(b1:1<=b.size)(sa:So ky a 0 a.size)(sb:So ky b 0 b.size)(hF: ∀y∈a.toList,kt ky b 0<=ky y)(hL: ∀y∈b.toList,ky y<=kt ky a (a.size - 1)){τ α:Type}{k:En->Array Keyed->StateT Ej Sem α}{v:τ->En->α}{R:τ->Pu->Prop}(h: ∀t y,Ms ky a b t->Sd x y->X n (lk ky) (fun e=>k e (e.of t)) y v R):X n (lk ky) (fun e=> @_root_.ite _ c (dc e) (IZ (A e) (B e)>>=k e) (IW (A e) (B e)>>=k e)) x v R:=by
 rw[show A=fun e=>e.of a from funext hA,show B=fun e=>e.of b from funext hB];exact X.ite (fun _=>X.bind (zJ6 ha hb a1 b1 sa sb hF hL) fun t y q=>h t y q.1 q.2) fun _=>X.bind (zJ7 ha hb a1 b1 sa sb hF hL) fun t y q=>h t y q.1 q.2
theorem zDT{i lo:Nat}{x:Pu}(h:Wf ky n lo x)(hi:i+1<x.pd.size):X n (lk ky) (fun _=>mergeAt' i) x (fun(_:Unit) _=>true) (fun _ y=>Wf ky n lo y/\y.pd.size+1=x.pd.size/\ ∀t,lo<=t->y.p.getD t 0=x.p.getD t 0):=by
 obtain⟨hp,hc,hl⟩:=h;have hsz:=hp.sz;obtain⟨sa,na,pw,hu⟩: ∃sa na pw,x.pd[i]'(by lia)=(sa,na,pw):=⟨_,_,_,rfl⟩;obtain⟨sb,nb,qw,hv⟩: ∃sb nb qw,x.pd[i+1]'hi=(sb,nb,qw):=⟨_,_,_,rfl⟩;have eu:x.pd[i]? =some (sa,na,pw):=by rw[<- hu];simp
 have ev:x.pd[i+1]? =some (sb,nb,qw):=by rw[<- hv];simp
 have eu':x.pd.toList[i]? =some (sa,na,pw):=by rw[<- eu];simp
 have ev':x.pd.toList[i+1]? =some (sb,nb,qw):=by rw[<- ev];simp
 obtain⟨c1,c2,c3,c4,c5,s1,s2⟩:=hc.two eu' ev';dsimp only at c1 c2 c3 c4 c5 s1 s2;have hj:=fun q=>hc.join (q:=q) eu' ev';dsimp only at hj;have hy1:((x.pd.setIfInBounds i (sa,na+nb,pw)).eraseIdxIfInBounds (i+1)).toList=(x.pd.toList.set i (sa,na+nb,pw)).eraseIdx (i+1):=by simp[Kx,hi]
 have hy2:((x.pd.setIfInBounds i (sa,na+nb,pw)).eraseIdxIfInBounds (i+1)).size+1=x.pd.size:=by
  rw[<- Dx,hy1,List.length_eraseIdx_of_lt (by simpa using hi),Cc,Dx];lia
 rw[<- hy1] at hj;generalize hpd:(x.pd.setIfInBounds i (sa,na+nb,pw)).eraseIdxIfInBounds (i+1)=pd at hj hy2;have hW:So ky x.p sa (sb+nb)->Wf ky n lo {x with pd:=pd}/\pd.size+1=x.pd.size/\ ∀t,lo<=t->x.p.getD t 0=x.p.getD t 0:=fun q=>⟨⟨hp,hj x.p (fun _ _=>rfl) q,hl⟩,hy2,fun _ _=>rfl⟩;refine X.go D.get ?_;have epd: ∀e:En,pendingOf (D7 e x)=x.pd:=fun e=>rfl;simp only[epd,eu,ev];refine X.go (D.set (y:={x with pd:=pd}) fun e=>by rw[<- hpd];rfl) ?_;refine X.go (D.elem (q:=x.p) (i:=sb) (by lia)) (X.bind (gal (hp.lt (by lia)) (by lia) (by lia) hp.al (by rw[<- c1];exact s1)) ?_);rintro k z ⟨⟨_,hk,f1,f2⟩,rfl⟩;have f1: ∀c,sa<=c->c<sa+k->kt ky x.p c<=kt ky x.p sb:=fun c h1 h2=>by
  have:=f1 (c - sa) (by lia);rw[show sa+(c - sa)=c by lia] at this;exact Kz this
 have f2: ∀c,sa+k<=c->c<sb->kt ky x.p sb<=kt ky x.p c:=fun c h1 h2=>by
  have:=f2 (c - sa) (by lia) (by lia);rw[show sa+(c - sa)=c by lia] at this;exact Df this
 refine X.is (fun e=>X.ret () (hW (s1.cat s2 fun a b g1 g2 g3 g4=>Cb (f1 a g1 (by lia)) (s2.le (Ah _) g3 g4)))) fun hk2=> ?_;rw[show sa+k+(na - k) - 1=sb - 1 by lia];refine X.go (D.elem (q:=x.p) (i:=sb - 1) (by lia)) (X.bind (gal (hp.lt (by lia)) (by lia) (by lia) hp.al s2) ?_);rintro m z ⟨⟨_,hm,f3,f4⟩,rfl⟩;have f3: ∀c,sb<=c->c<sb+m->kt ky x.p c<=kt ky x.p (sb - 1):=fun c h1 h2=>by
  have:=f3 (c - sb) (by lia);rw[show sb+(c - sb)=c by lia] at this;exact Df this
 have f4: ∀c,sb+m<=c->c<sb+nb->kt ky x.p (sb - 1)<=kt ky x.p c:=fun c h1 h2=>by
  have:=f4 (c - sb) (by lia) (by lia);rw[show sb+(c - sb)=c by lia] at this;exact this
 refine X.is (fun e=>X.ret () (hW (s1.cat s2 fun a b g1 g2 g3 g4=>Cb (s1.le g1 (by lia) (by lia)) (f4 b (by lia) g4)))) fun hm2=> ?_;refine merE (a:=x.p.extract (sa+k) sb) (b:=x.p.extract sb (sb+m)) (fun e=>ZQ e _ _ _) (fun e=>ZQ e _ _ _) (hp.al.ext (by lia)) (hp.al.ext (by lia)) (by rw[WH (by lia)];lia) (by rw[WH (by lia)];lia) ((s1.sub (by lia) (Ah _)).ext (by lia)) ((s2.sub (Ah _) (by lia)).ext (by lia)) (fun y hy=> ?_) (fun y hy=> ?_) fun t z' ht hs=> ?_
 ·obtain ⟨c,h1,h2,rfl⟩ := PF (by lia) hy
  unfold kt;rw[QQ (by lia) (by lia)];exact f2 c h1 h2
 ·obtain ⟨c,h1,h2,rfl⟩ := PF (by lia) hy
  unfold kt;rw[WH (by lia),QQ (by lia) (by lia),show sa+k+(sb - (sa+k) - 1)=sb - 1 by lia];exact f3 c h1 h2
 ·obtain ⟨t1,t2⟩ := hp.put (by lia) (by lia) (by lia) ht.1
  have pa:=zF6 (p:=x.p) (t:=t) (s:=sa+k) (by lia);have mid: ∀i,sa+k<=i->i<sb+m-> ∃c,sa+k<=c/\c<sb+m/\(TS.put x.p (sa+k) t.toList 0).getD i 0=x.p.getD c 0:=fun i h1 h2=>by
   rw[pa,if_pos (by lia)];rcases Bk.mp (ht.1.mem_iff.mp (zBC (a:=t) (i:=i - (sa+k)) (by lia))) with hy|hy
   ·obtain ⟨c,h1,h2,e⟩ := PF (by lia) hy
    exact⟨c,by lia,by lia,e⟩
   ·obtain ⟨c,h1,h2,e⟩ := PF (by lia) hy
    exact⟨c,by lia,by lia,e⟩
  have out: ∀i,i<sa+k∨sb+m<=i->(TS.put x.p (sa+k) t.toList 0).getD i 0=x.p.getD i 0:=fun i h=>by rw[pa,if_neg (by lia)]
  have so:So ky (TS.put x.p (sa+k) t.toList 0) sa (sb+nb):=by
   refine So.cat (m:=sa+k) ((s1.sub (Ah _) (by lia)).keep fun i _ h=>out i (.inl h)) (So.cat (m:=sb+m) (fun a b g1 g2 g3=> ?_) ((s2.sub (by lia) (Ah _)).keep fun i h _=>out i (.inr h)) fun a b g1 g2 g3 g4=> ?_) fun a b g1 g2 g3 g4=> ?_
   ·unfold kt
    rw[pa,pa,if_pos (by lia),if_pos (by lia)];have q:=Hi.mp ht.2 (a - (sa+k)) (b - (sa+k)) (show _<t.size by lia) (show _<t.size by lia) (by lia);have e: ∀i,(h:i<t.toList.length)->t.toList[i]=t.getD i 0:=fun i h=>by simp[Gd,show i<t.size from h]
    rw[e,e] at q;exact q
   ·obtain⟨c,h1,h2,e⟩:=mid a g1 g2
    unfold kt;rw[e,out b (.inr g3)];by_cases hc:c<sb
    ·exact Cb (s1.le (by lia) (by lia) (by lia)) (f4 b g3 g4)
    ·exact s2.le (by lia) (by lia) g4
   ·unfold kt
    rw[out a (.inl g2)];refine Cb (f1 a g1 g2) ?_;by_cases hb:b<sb+m
    ·obtain⟨c,h1,h2,e⟩:=mid b g3 hb
     rw[e];by_cases hc:c<sb
     ·exact f2 c h1 hc
     ·exact s2.le (Ah _) (by lia) (by lia)
    ·rw [out b (.inr (by lia))]
     exact s2.le (Ah _) (by lia) g4
  refine X.go (D.modify (y:={z' with p:=TS.put z'.p (sa+k) t.toList 0}) fun e=> ?_) (X.go D.get (X.ret () ?_))
  ·show Io e.κ ((e.of t).toList.zipIdx.foldl (fun a x => a.setIfInBounds (sa + k + x.2) x.1) (e.of z'.p)) z'.pd z'.g none = _
   have h:=FT (Ji e.it) (sa+k) t.toList 0 z'.p;rw[show t.toList.map (Ji e.it)=(e.of t).toList by simp[En.of]] at h;exact congrArg (fun u=>Io e.κ u z'.pd z'.g none) h
  ·unfold Wf
   dsimp only;rw[hs.1,hs.2];exact⟨⟨t2,hj _ (fun i h=>out i (by lia)) so,hl⟩,hy2,fun i h=>out i (by lia)⟩
end
section
variable{n:Nat}{ky:Nat->Nat}
theorem Wf.pw{x:Pu}{lo:Nat}(h:Wf ky n lo x)(i pw:Nat):Wf ky n lo {x with pd:=x.pd.modify i fun u=>(u.1,u.2.1,pw)}:=by
 refine⟨h.1,?_,h.2.2⟩;show Ch ky x.p (x.pd.modify i fun u=>(u.1,u.2.1,pw)).toList 0 lo;rw[Array.toList_modify];exact Ch.mod (f:=fun u=>(u.1,u.2.1,pw)) (fun u=>⟨rfl,rfl⟩) i h.2.1
theorem Wf.more{x:Pu}{lo m:Nat}(h:Wf ky n lo x)(h1:1<=m)(h2:lo+m<=n)(hs:So ky x.p lo (lo+m)):Wf ky n (lo+m) {x with pd:=x.pd.push (lo,m,0)}:=by
 refine⟨h.1,?_,h2⟩;show Ch ky x.p (x.pd.push (lo,m,0)).toList 0 (lo+m);rw[Ez];exact h.2.1.more h1 hs
theorem Wf.kept{x y:Pu}{lo:Nat}(h:Wf ky n lo x)(k:Kq n lo x y):Wf ky n lo y:=⟨k.1,by rw[k.2.1];exact h.2.1.keep fun t _ ht=>k.2.2 t ht,h.2.2⟩
theorem runs{x:Pu}(h:Wf ky n 0 x):X n (lk ky) (fun _=>sortRuns') x (fun(_:Unit) _=>()) (fun _ y=>Pm n y.p/\So ky y.p 0 n):=by
 refine X.go D.get ?_;have esz: ∀e:En,(arrOf (D7 e x)).size=n:=fun e=>by
  show(e.of x.p).size=n;rw[U1,h.1.sz]
 have epd: ∀(e:En) (y:Pu),pendingOf (D7 e y)=y.pd:=fun e y=>rfl;simp only[esz];generalize (sortPriv% PySem.Builtin.minRun) n n 0=mr;refine X.bind (u:=fun(t:Nat) _=>(none,t)) (S:=fun t y=>Wf ky n t y/\t=n) ?_ ?_
 ·refine X.range (I := fun c t y => Wf ky n t y /\ n <= t + c) (t := 0) (fun t y h => ⟨h.1,by have := h.1.2.2;lia⟩) ⟨h,by lia⟩ fun i _ _ c lo y ⟨hw,hc⟩ => ?_
  have hl:=hw.2.2;refine X.ite (fun q=>X.done lo ⟨hw,by dsimp only at q;lia⟩) fun q=> ?_;dsimp only at q;refine X.bind (zJS hw.1 (by dsimp only;lia) (by dsimp only;lia)) ?_;rintro m z ⟨m1,m2,hz,hs⟩;have hz':=hw.kept hz;dsimp only at m2;refine X.ite (fun q2=>X.go D.rule (X.bind (bin hz'.1 (by dsimp only;lia) m1 (by dsimp only at q2⊢;lia) hs) fun _ z2 hz2=>X.ite (fun hf=>absurd hf (by simp)) fun _=>X.st (P:=fun _ Z=>Wf ky n lo Z/\So ky Z.p lo (lo+min (n - lo) mr)) (x:=x) ?_ ⟨hz'.kept hz2.1,hz2.2⟩)) fun _=>X.st (P:=fun _ Z=>Wf ky n lo Z/\So ky Z.p lo (lo+m)) (x:=x) ?_ ⟨hz',hs⟩;have w1:1<=min (n - lo) mr:=by lia
  have w2:lo+min (n - lo) mr<=n:=by lia
  generalize min (n - lo) mr=M at w1 w2⊢;rotate_left;have w1:=m1;have w2:lo+m<=n:=by lia
  generalize m=M at w1 w2⊢
  all_goals
   rintro Z ⟨w3,w4⟩;refine X.go D.get ?_;simp only[epd];cases hb:Z.pd.back? with
   |none=>exact X.go (D.modify (y:={Z with pd:=Z.pd.push (lo,M,0)}) fun e=>rfl) (X.yield (lo+M) ⟨w3.more w1 w2 w4,by lia⟩)
   |some u=>
    obtain⟨s1,n1,q1⟩:=u;dsimp only;generalize hpw:(sortPriv% PySem.Builtin.power) n (2*s1+n1) (2*s1+n1+n1+M) n=pw;refine X.bind (u:=fun(_:Unit) _=>(none,())) (S:=fun _ y=>Wf ky n lo y/\So ky y.p lo (lo+M)) ?_ fun _ y hy=> ?_
    ·refine X.range (I := fun _ _ y => Wf ky n lo y /\ So ky y.p lo (lo + M)) (t := ()) (fun t y h => h) ⟨w3,w4⟩ fun i _ _ k _ y hy => ?_
     refine X.go D.get ?_;simp only[epd];by_cases hs:y.pd.size>1
     ·rw[if_pos hs]
      cases ho:y.pd[y.pd.size - 2]? with
      |none=>exact X.done () hy
      |some u=>
       obtain⟨o1,o2,o3⟩:=u;dsimp only;exact X.ite (fun _=>X.done () hy) fun _=>X.bind (zDT hy.1 (by lia)) fun _ y h=>X.ite (fun hf=>absurd hf (by simp)) fun _=>X.yield () ⟨h.1,hy.2.keep fun t ht _=>h.2.2 t ht⟩
     ·rw[if_neg hs]
      exact X.done () hy
    ·refine X.go (D.modify (y := { y with pd := y.pd.modify (y.pd.size - 1) fun u => (u.1,u.2.1,pw) }) fun e => rfl) ?_
     exact X.go (D.modify (y:={y with pd:=(y.pd.modify (y.pd.size - 1) fun u=>(u.1,u.2.1,pw)).push (lo,M,0)}) fun e=>rfl) (X.yield (lo+M) ⟨(hy.1.pw _ pw).more w1 w2 hy.2,by lia⟩)
 ·rintro lo y ⟨hw,rfl⟩
  refine X.bind (u:=fun(_:Unit) _=>(none,())) (S:=fun _ y=>Wf ky lo lo y/\y.pd.size<=1) ?_ fun _ y h=>X.ret () ⟨h.1.1,?_⟩
  ·refine X.range (I := fun c _ y => Wf ky lo lo y /\ y.pd.size <= c + 1) (t := ()) (fun t y h => h) ⟨hw,by have := hw.2.1.len;rw [Dx] at this;lia⟩ fun i _ _ k _ y ⟨hw,hc⟩ => ?_
   refine X.go D.get ?_;simp only[epd];refine X.ite (fun q=>X.done () ⟨hw,q⟩) fun q=> ?_;have hle: ∀(c:Prop) [Decidable c],(if c then y.pd.size - 2 - 1 else y.pd.size - 2)+1<y.pd.size:=by
    intro c _;split<;>lia
   exact X.bind (zDT hw (hle _)) fun _ y h=>X.ite (fun hf=>absurd hf (by simp)) fun _=>X.yield () ⟨h.1,by lia⟩
  ·obtain⟨⟨_,hc,_⟩,h1⟩:=h
   rw[<- Dx] at h1;generalize y.pd.toList=l at hc h1;match l,hc,h1 with
   |[],hc,_=>exact fun a b _ _ h=>by rw[<- show 0=lo from hc] at h;lia
   |[u],hc,_=>
    obtain⟨_,_,h2,h3⟩:=hc;rw[show 0+u.2.1=lo from h3] at h2;exact h2
   |_::_::_,_,h1=>simp at h1
end
theorem Pm.id(n:Nat):Pm n (Az n).toArray:=by
 unfold Pm;simp
noncomputable def xS(n:Nat):Pu:=⟨(Az n).toArray,#[],7⟩
theorem JS(n:Nat)(ky:Nat->Nat): ∃y:Pu,(Pm n y.p/\So ky y.p 0 n)/\D n (lk ky) (fun _=>sortRuns') (xS n) (fun _=>()) y:=by
 obtain⟨t,y,h,d⟩:=runs (n:=n) (ky:=ky) (x:=xS n) ⟨Pm.id n,rfl,Di _⟩;exact⟨y,h,d⟩
noncomputable def srt(n:Nat)(ky:Nat->Nat):List Nat:=if 2<=n then(JS n ky).choose.p.toList else Az n
theorem J0(n:Nat)(ky:Nat->Nat):(srt n ky).Perm (Az n):=by
 unfold srt;split
 ·exact(JS n ky).choose_spec.1.1
 ·exact .refl _
section
variable{prog:Bq}{w:World}{A:Cz}{E:Value->Af->Prop}{s:Af}
theorem D1(vs:List Value):(Az vs.length).map (fun i=>vs.getD i Value.none)=vs:=by
 refine Oq fun i=> ?_;by_cases h:i<vs.length
 ·simp[h]
 ·simp[h]
theorem D5{a:Addr}{vs:List Value}{nn:Nat}{κ:Pz}{ky:Nat->Nat}{P:PySem.Fin->Af->Prop}(ho:s.heap.get? a=some (Gu "list" vs.toArray nn)) (hz:vs.length<=sizeLine)
  (hk:2<=vs.length-> ∀h':Heap,(∀b o,b≠a->s.heap.get? b=some o->h'.get? b=some o)-> ∀Q':Pz->Af->Prop,Q' κ {s with heap:=h'}->wpAny (model prog w) A (keyKind' vs.toArray) Q' E {s with heap:=h'})
  (hc: ∀h':Heap,(∀b o,b≠a->s.heap.get? b=some o->h'.get? b=some o)-> ∀i j,i<vs.length->j<vs.length-> ∀C:Bool->Af->Prop,C (lk ky i j) {s with heap:=h'}->wpAny (model prog w) A (keyLt' κ (vs.getD i Value.none) (vs.getD j Value.none)) C (fun _ _=>False) {s with heap:=h'})
  (h:P (.done (.ret .none)) {s with heap:=sortedHeap s.heap a vs ((srt vs.length ky).map fun i=>vs.getD i Value.none).toArray}):
  wpAny (model prog w) A (Kl.«list.sort» ⟨[.ref a],[]⟩) P E s:=by
 have lt:=An ho;have hsz:vs.toArray.size=vs.length:=by simp
 obtain⟨e1,ho1⟩: ∃k,(s.heap.update a (Gb fun _=> #[])).get? a=some (Gu "list" #[] k):=⟨_,get?_update_seq ho (fun _=> #[])⟩;have keep: ∀b o,b≠a->s.heap.get? b=some o->(((s.heap.update a (Gb fun _=> #[])).push (Gu "tuple" vs.toArray 0)).push (Gu "list" #[] 0)).get? b=some o:=fun b o hb hbo=>
  Ad _ (Ad _ (by rw[Nj _ _ _ _ hb];exact hbo))
 have ho6:(((s.heap.update a (Gb fun _=> #[])).push (Gu "tuple" vs.toArray 0)).push (Gu "list" #[] 0)).get? a=some (Gu "list" #[] e1):=Ad _ (Ad _ ho1);have mz: ∀l:List Value,l.length=vs.length->l.toArray.size<=sizeLine+1:=fun l hl=>by rw[Aw];lia
 rw[list_sort_plain];refine(Ac (listItems_at ho rfl ?_));refine(Ac (Ob ho rfl ?_ (by rw[Aw];lia) (Di _)));refine(Ac (Qq ho1 rfl ?_));refine(Ac (wpAny_newTuple ?_ (by show vs.length<=_;exact hz)));refine(Ac (Od (Ci ?_) (Di _)))
 ·show (wpAny (model prog w) A _ P E { s with heap := (((s.heap.update a (Gb fun _ => #[])).push (Gu "tuple" vs.toArray 0)).push (Gu "list" #[] 0)) })
  dsimp only;have af:((srt vs.length ky).map fun i=>vs.getD i Value.none).length=vs.length:=by rw[Bt,(J0 _ _).length_eq,He]
  by_cases h2:vs.toArray.size<2
  ·have he : ((srt vs.length ky).map fun i => vs.getD i Value.none) = vs := by
    unfold srt;rw[if_neg (by lia)];exact D1 vs
   rw[he] at h;rw[if_pos h2,if_pos h2];refine(Ac (Ak ?_));rw[StateT.run_pure];refine(Ac (Ak ?_));dsimp only;have hm:(vs.toArray.zip vs.toArray).map (·.2)=vs.toArray:=by
    apply Ja.mp;simp;exact List.map_snd_zip (Ah _)
   rw[hm];refine(Ac (Qq ho6 rfl (Ac (Ob ho6 rfl ?_ (hsz2:=by rw[Aw];lia)))));simp only[bne_self_eq_false,Fn,if_false];exact Ak h
  ·rw[if_neg h2,if_neg h2]
   refine(Ac (hk (by lia) _ keep _ ?_));have n2:2<=vs.length:=by lia
   have spec:=(JS vs.length ky).choose_spec;have l0:srt vs.length ky=(JS vs.length ky).choose.p.toList:=by unfold srt;rw[if_pos n2]
   generalize (JS vs.length ky).choose=y at spec l0;let e:En:=⟨prog,w,A,{s with heap:=(((s.heap.update a (Gb fun _=> #[])).push (Gu "tuple" vs.toArray 0)).push (Gu "list" #[] 0))},κ,Pa vs⟩
   have eok:e.Ok vs.length (lk ky):=fun i j hi hj C q=>by
    show wpAny (model prog w) A (keyLt' κ (Ji (Pa vs) i).1 (Ji (Pa vs) j).1) C _ _;rw[Qr,Qr];exact hc _ keep i j hi hj C q
   have est:Io κ (vs.toArray.zip vs.toArray) #[] 7 none=D7 e (xS vs.length):=by
    have q:=kas_range (Pa vs);rw[pairsOf_size] at q;show Io κ (Pa vs) #[] 7 none=Io κ ((List.toArray (Az vs.length)).map (Ji (Pa vs))) #[] 7 none;rw[q]
   rw[est];have md:(e.of y.p).map (·.2)=((srt vs.length ky).map fun i=>vs.getD i Value.none).toArray:=by
    apply Ja.mp;rw[l0,Array.map_map,Array.toList_map];exact Fb fun i _=>by show(Ji (Pa vs) i).2=_;rw[Qr]
   have run:=spec.2 e eok E (fun _ st' s'=>st'=D7 e y/\s'=e.s) ⟨rfl,rfl⟩;refine(Ac (Bm run ?_ fun _ _ x=>x));rintro ⟨⟨⟩,st'⟩ s' ⟨rfl,rfl⟩;show(wpAny (model prog w) A _ P E {s with heap:=(((s.heap.update a (Gb fun _=> #[])).push (Gu "tuple" vs.toArray 0)).push (Gu "list" #[] 0))});dsimp only;rw[show(arrOf (D7 e y))=e.of y.p from rfl,md];refine(Ac (Qq ho6 rfl (Ac (Ob ho6 rfl ?_ (hsz2:=by rw[Aw];lia)))));rw[show failedOf (D7 e y)=none from rfl];simp only[bne_self_eq_false,Fn,if_false];exact Ak h
end
section
variable{prog:Bq}{w:World}{A:Cz}{E:Value->Af->Prop}{s:Af}
theorem JY{l:Addr}{vs:List Value}{κ:Pz}{ky:Nat->Nat}{Q:Value->Af->Prop}(hl:s.heap.IsList l vs.toArray)(hz:vs.length<=sizeLine)
  (hk:2<=vs.length-> ∀(A:Cz) (E:Value->Af->Prop) (h':Heap),(∀b o,s.heap.get? b=some o->h'.get? b=some o)-> ∀Q':Pz->Af->Prop,Q' κ {s with heap:=h'}->wpAny (model prog w) A (keyKind' vs.toArray) Q' E {s with heap:=h'})
  (hc: ∀(A:Cz) (h':Heap),(∀b o,s.heap.get? b=some o->h'.get? b=some o)-> ∀i j,i<vs.length->j<vs.length-> ∀C:Bool->Af->Prop,C (lk ky i j) {s with heap:=h'}->wpAny (model prog w) A (keyLt' κ (vs.getD i Value.none) (vs.getD j Value.none)) C (fun _ _=>False) {s with heap:=h'})
  (h:Q (.ref (s.heap.objs.size+1)) {s with heap:=sortedAll s.heap vs ((srt vs.length ky).map fun i=>vs.getD i Value.none).toArray}):
  wpAny (model prog w) A (call (.builtin "sorted") [.ref l]) Q E s:=by
 refine(Ko kind_sorted plain_sorted entry_sorted (args_sorted1 _) ?_);unfold Kl.«sorted»;refine(Ac (m:=checkCount "sorted" 1 1 _) (Ak (Ac (collect_list hl (Ac (Od ?_ (by exact hz))) hz))));have hs1:((s.heap.push (Gu "list" #[] 0)).update s.heap.objs.size (Gb (· ++vs.toArray))).objs.size=s.heap.objs.size+1:=by rw[Heap.size_update,size_push']
 have hoL:(((s.heap.push (Gu "list" #[] 0)).update s.heap.objs.size (Gb (· ++vs.toArray))).push (Gu "list" vs.toArray 0)).get? (s.heap.objs.size+1)=some (Gu "list" vs.toArray 0):=by rw[<- hs1];exact As _ rfl
 have keep: ∀b o,s.heap.get? b=some o->(((s.heap.push (Gu "list" #[] 0)).update s.heap.objs.size (Gb (· ++vs.toArray))).push (Gu "list" vs.toArray 0)).get? b=some o/\b≠s.heap.objs.size+1:=fun b o q=>by
  have hlt:b<s.heap.objs.size:=An q;refine⟨?_,Be (Pb hlt)⟩;rw[Il _ _ _ (by rw[hs1];exact(Be (Pb hlt))),Nj _ _ _ _ (Be hlt),Il _ _ _ (Be hlt)];exact q
 show(wpAny _ _ _ _ _ {s with heap:=((s.heap.push (Gu "list" #[] 0)).update s.heap.objs.size (Gb (· ++vs.toArray))).push (Gu "list" vs.toArray 0)});rw[hs1];refine(Ac (Ci (Dn slot_list_sort ⟨_,hoL,rfl⟩ entry_list_sort (D5 (κ:=κ) (ky:=ky) hoL hz (fun n2 h' k'=>hk n2 _ _ h' fun b o q=>k' b o (keep b o q).2 (keep b o q).1) (fun h' k'=>hc _ h' fun b o q=>k' b o (keep b o q).2 (keep b o q).1) ⟨_,rfl,?_⟩) (args_list_sort _))));exact(Ak ⟨_,rfl,h⟩)
noncomputable def PZ(p q:Int×Int):Bool:=if p.1=q.1 then decide (p.2<q.2) else decide (p.1<q.1)
theorem zAR{x y:Addr}{a b c d:Int}{t u t' u':Tok}{C:Bool->Af->Prop}(hx:IsTup s.heap x #[.int a t,.int b u])(hy:IsTup s.heap y #[.int c t',.int d u'])(h:C (PZ (a,b) (c,d)) s):wpAny (model prog w) A (keyLt' (tuples' true) (.ref x) (.ref y)) C E s:=by
 obtain⟨ox,hx,_,n,dx⟩:=hx;obtain⟨oy,hy,_,m,dy⟩:=hy;refine kat_lt hx dx hy dy ?_;refine kat_cons (Lo (kat_go (fun e=>kat_yes ?_) fun e=>kat_no ?_))
 ·have e : a = c := by simpa using e
  refine kat_cons (Lo (kat_go (fun e2=>kat_yes (kat_nil ?_)) fun e2=>kat_no ?_))
  ·have e2 : b = d := by simpa using e2
   have:PZ (a,b) (c,d)=false:=by simp[PZ,e,e2]
   rw[this] at h;exact h
  ·refine kat_one _ _ (lt_int ?_)
   have:PZ (a,b) (c,d)=decide (b<d):=by simp[PZ,e]
   rw[this] at h;exact h
 ·have e : ¬ a = c := by simpa using e
  have:PZ (a,b) (c,d)=decide (a<c):=by simp[PZ,e]
  rw[this] at h;exact oneLt_int h
def PrI(h:Heap):List Value->List (Int×Int)->Prop
 |[],[]=>True
 |v::vs,p::ps=>(∃a t u,v= .ref a/\IsTup h a #[.int p.1 t,.int p.2 u])/\PrI h vs ps
 |_,_=>False
theorem PrI.keep{h h':Heap}(k: ∀b o,h.get? b=some o->h'.get? b=some o): ∀{vs:List Value} {ps:List (Int×Int)},PrI h vs ps->PrI h' vs ps
 |[],[],_=>trivial
 |_::_,_::_,⟨⟨a,t,u,e,q⟩,r⟩=>⟨⟨a,t,u,e,q.keeps k⟩,PrI.keep k r⟩
 |[],_::_,r=>r.elim
 |_::_,[],r=>r.elim
theorem PrI.at{h:Heap}: ∀{vs:List Value} {ps:List (Int×Int)} {i:Nat},PrI h vs ps->i<vs.length-> ∃a t u,vs.getD i Value.none= .ref a/\IsTup h a #[.int (ps.getD i (0,0)).1 t,.int (ps.getD i (0,0)).2 u]
 |[],[],i,_,hi=>by simp at hi
 |_::_,_::_,0,r,_=>r.1
 |v::vs,p::ps,i+1,r,hi=>by
  have:=PrI.at (i:=i) r.2 (by simpa using hi);simpa using this
 |[],_::_,i,r,_=>r.elim
 |_::_,[],i,r,_=>r.elim
theorem PrI.tups{h:Heap}: ∀{vs:List Value} {ps:List (Int×Int)},PrI h vs ps-> ∃fs,KatTups h vs fs/\fs.length=vs.length/\ ∀v∈fs,∃i t,v= .int i t
 |[],[],_=>⟨[],trivial,rfl,fun _ h=>by cases h⟩
 |_::_,_::_,⟨⟨a,t,u,e,o,ho,hcl,n,hd⟩,r⟩=>by
  obtain⟨fs,h1,h2,h3⟩:=PrI.tups r;subst e;refine⟨.int _ t::fs,KatTups.cons ho hcl hd rfl h1,by simp[h2],fun v hv=> ?_⟩;rcases Ai.mp hv with rfl|hv
  ·exact⟨_,_,rfl⟩
  ·exact h3 v hv
 |[],_::_,r=>r.elim
 |_::_,[],r=>r.elim
theorem GR{α:Type}{p q:α->Bool}(h: ∀x,p x=true->q x=true){a:α}(h1:p a=false)(h2:q a=true): ∀{l:List α},a∈l->l.countP p<l.countP q
 |[],h=>by cases h
 | x :: l,hm => by
  rw[Pt,Pt];have le:=List.countP_mono_left (p:=p) (q:=q) (l:=l) fun x _=>h x;rcases Ai.mp hm with rfl|hm
  ·rw[h1,h2]
   simp;lia
  ·have ih:=GR h h1 h2 hm
   cases e:p x with
   |true=>rw[h x e];lia
   |false=>cases q x<;>simp<;>lia
noncomputable def rk{α:Type}(lt:α->α->Bool)(L:List α)(p:α):Nat:=L.countP fun r=>lt r p
theorem zIB{α:Type}{lt:α->α->Bool}(h1: ∀p,lt p p=false)(h2: ∀p q r,lt p q=true->lt q r=true->lt p r=true)(h3: ∀p q,lt p q=false->lt q p=false->p=q){L:List α}{p q:α}(hp:p∈L)(hq:q∈L):decide (rk lt L p<rk lt L q)=lt p q:=by
 cases e:lt p q with
 |true=>exact decide_eq_true (GR (fun x hx=>h2 x p q hx e) (h1 p) e hp)
 |false=>
  refine decide_eq_false (Nat.not_lt.mpr ?_);cases e2:lt q p with
  |true=>exact Df (GR (fun x hx=>h2 x q p hx e2) (h1 q) e2 hq)
  |false=>rw[h3 p q e e2];exact Ah _
theorem IJ{α:Type}(ps:List α)(i:Nat)(z:α):ps.getD i z∈z::ps:=by
 by_cases h:i<ps.length
 ·rw [show ps.getD i z = ps[i] by simp [h]]
  exact Ap _ (Gi _)
 ·rw [show ps.getD i z = z by simp [h]]
  exact Au
noncomputable def kyP(ps:List (Int×Int))(i:Nat):Nat:=rk PZ ((0,0)::ps) (ps.getD i (0,0))
theorem zGN(ps:List (Int×Int))(i j:Nat):lk (kyP ps) i j=PZ (ps.getD i (0,0)) (ps.getD j (0,0)):=by
 refine zIB (fun p=>by simp[PZ]) (fun p q r h1 h2=> ?_) (fun p q h1 h2=> ?_) (IJ _ _ _) (IJ _ _ _)
 ·unfold PZ at h1 h2⊢
  split at h1<;>split at h2<;>simp only[decide_eq_true_eq] at h1 h2<;>split<;>simp only[decide_eq_true_eq]<;>lia
 ·unfold PZ at h1 h2
  split at h1<;>split at h2<;>simp only[decide_eq_false_iff_not] at h1 h2<;>refine Prod.ext ?_ ?_<;>lia
theorem LM{l:Addr}{vs:List Value}{ps:List (Int×Int)}{Q:Value->Af->Prop}(hl:s.heap.IsList l vs.toArray)(hz:vs.length<=sizeLine)(hp:PrI s.heap vs ps)
  (h:Q (.ref (s.heap.objs.size+1)) {s with heap:=sortedAll s.heap vs ((srt vs.length (kyP ps)).map fun i=>vs.getD i Value.none).toArray}):
  wpAny (model prog w) A (call (.builtin "sorted") [.ref l]) Q E s:=by
 refine JY (κ:=tuples' true) hl hz (fun n2 A E h' k' Q' q=> ?_) (fun A h' k' i j hi hj C q=> ?_) h
 ·obtain⟨fs,h1,h2,h3⟩:=(hp.keep k').tups
  refine kat_kind (s:={s with heap:=h'}) (T:= .type "int") h1 (by lia) (fun v hv=> ?_) (by decide) q;obtain⟨i,t,rfl⟩:=h3 v hv;exact Looks.now
 ·obtain⟨a,t,u,e1,t1⟩:=(hp.keep k').at hi
  obtain⟨b,t',u',e2,t2⟩:=(hp.keep k').at hj;rw[e1,e2];rw[zGN] at q;exact zAR (s:={s with heap:=h'}) t1 t2 q
end
end TS
namespace L2
open PySem PySem.Spec PyProof.Rows
variable{X:Cx}{K:Ar}
noncomputable def prD:dF->Option (Int×Int)
 | .tup [.int a,.int b]=>some (a,b)
 |_=>none
noncomputable def LD:List dF->Option (List (Int×Int))
 |[]=>some []
 |d::ds=>(prD d).bind fun p=>(LD ds).map fun ps=>p::ps
def PrV(K:Ar)(H:Hp):List V->List (Int×Int)->Prop
 |[],[]=>True
 |v::vs,p::ps=>(∃a,v= .ref a/\WS K H a [.int p.1,.int p.2])/\PrV K H vs ps
 |_,_=>False
theorem zFC{d:dF}{p:Int×Int}(h:prD d=some p):d= .tup [.int p.1,.int p.2]:=by
 unfold prD at h;split at h
 ·cases h;rfl
 ·cases h
theorem FP{H:Hp}{N:Addr->Prop}: ∀{xs:List V} {ds:List dF} {ps:List (Int×Int)},cO K N H xs ds->LD ds=some ps->PrV K H xs ps
 |_,_,_,.nil,h=>by cases h;trivial
 | _,_,ps,@cO.cons _ _ _ v vs d ds h t,e => by
  have e:(prD d).bind (fun p=>(LD ds).map fun ps=>p::ps)=some ps:=e;obtain⟨p,h1,e⟩:=Aa.mp e;have e:(LD ds).map (fun ps=>p::ps)=some ps:=e;obtain⟨qs,h2,e⟩:=Ao.mp e;cases e;have:=zFC h1;subst this;refine⟨?_,FP t h2⟩;cases h with
  |tup sq r=>
   cases r with
   |cons r1 r=>
    cases r1;cases r with
    |cons r2 r=>
     cases r2;cases r;exact⟨_,rfl,sq⟩
theorem PrV.prI{H:Hp}{aa:List (Addr×Obj)}{σ:St}{s:Af}(I:cT X aa σ H s): ∀{xs:List V} {us:List Value} {ps:List (Int×Int)},PrV X.K H xs ps->b5 xs us->TS.PrI s.heap us ps
 |[],_,[],_,.nil=>trivial
 | _ :: _,_,_ :: _,⟨⟨a,e,q⟩,r⟩,.cons h t => by
  subst e;cases h;obtain⟨its,rv,ht,_⟩:=I.tuple q;cases rv with
  |cons r1 rv=>
   obtain⟨t1,rfl⟩:=r1;cases rv with
   |cons r2 rv=>
    obtain⟨t2,rfl⟩:=r2;cases rv;exact⟨⟨a,t1,t2,rfl,ht⟩,PrV.prI I r t⟩
 |[],_,_::_,h,_=>h.elim
 |_::_,_,[],h,_=>h.elim
theorem PrV.len{H:Hp}: ∀{xs:List V} {ps:List (Int×Int)},PrV K H xs ps->xs.length=ps.length
 |[],[],_=>rfl
 |_::_,_::_,r=>by simp[PrV.len r.2]
 |[],_::_,r=>r.elim
 |_::_,[],r=>r.elim
theorem MW{xs:List V}{us:List Value}(r:b5 xs us): ∀l:List Nat,(∀i∈l,i<xs.length)->b5 (l.map fun i=>xs.getD i .non) (l.map fun i=>us.getD i Value.none)
 |[],_=> .nil
 |i::l,h=>by
  have hi:=h i Au;obtain⟨u,h1,h2⟩:=b5.get (i:=i) (x:=xs[i]) r (by simp[hi]);refine .cons ?_ (MW r l fun j hj=>h j (Ap _ hj));have e1:xs.getD i .non=xs[i]:=by simp[hi]
  have e2:us.getD i Value.none=u:=by simp[h1]
  show cB (xs.getD i .non) (us.getD i Value.none);rw[e1,e2];exact h2
noncomputable def JZ(ps:List (Int×Int)):List Nat:=TS.srt ps.length (TS.kyP ps)
theorem UL(ps:List (Int×Int)):(JZ ps).Perm (Az ps.length):=TS.J0 _ _
def AZ(K:Ar):RC:=fun xs H Q=> ∃(p:Addr) (ys:List V) (ps:List (Int×Int)),xs=[.ref p]/\X5 K H p ys/\PrV K H ys ps/\ ∀l:Addr,H l=none->Q (.ref l) (bN H l (.lst ((JZ ps).map fun i=>ys.getD i .non)))
theorem zGU(h:X.K=K):aX X (.builtin "sorted") (AZ K):=by
 subst h;intro aa s σ H xs us Q I r h;obtain⟨p,ys,ps,rfl,hq,hp,q⟩:=h;obtain⟨u,rfl,rx⟩:=VN r;cases rx;obtain⟨its,rv,pl,hz⟩:=I.list hq;have af:=rv.length;have hpl:=hp.len;have hn:H (s.heap.objs.size+1)=none:=I.hok.fresh (Fa _);refine TS.LM pl.isList (by lia) (hp.prI I rv) ?_;rw[show its.length=ps.length by lia];obtain⟨e,he⟩:=sortedAll_at s.heap its ((TS.srt ps.length (TS.kyP ps)).map fun i=>its.getD i Value.none).toArray;refine⟨.ref (s.heap.objs.size+1),_,I.laid (a:=s.heap.objs.size+1) (o:= .lst ((JZ ps).map fun i=>ys.getD i .non)) (t':=s.toks) (fun b o=>sortedAll_old) (Fa _) ?_,rfl,q _ hn⟩;refine⟨by rw[Bt,(UL ps).length_eq,He];lia,(JZ ps).map fun i=>its.getD i Value.none,e,MW rv _ fun i hi=> ?_,?_⟩
 ·have:=Dm.mp ((UL ps).mem_iff.mp hi)
  lia
 ·rw[he]
  rfl
noncomputable def G5:dF->Option dF
 | .lst ds=>(LD ds).bind fun ps=>some (.lst ((JZ ps).map fun i=>ds.getD i .non))
 |_=>none
theorem ML{H:Hp}{N:Addr->Prop}{xs:List V}{ds:List dF}(r:cO K N H xs ds): ∀l:List Nat,cO K N H (l.map fun i=>xs.getD i .non) (l.map fun i=>ds.getD i .non)
 |[]=> .nil
 | i :: l => by
  have one: ∀{xs:List V} {ds:List dF} (i:Nat),cO K N H xs ds->bR K N H N (xs.getD i .non) (ds.getD i .non):=by
   intro xs ds i r;induction r using cO.rec (motive_1:=fun _ _ _ _=>True) generalizing i with
   |nil=>simpa using bR.non
   |cons h t _ ih=>cases i with
    |zero=>simpa using h
    |succ i=>simpa using ih i
   |_=>trivial
  exact .cons (one i r) (ML r l)
theorem zCM:CP K (AZ K) G5:=by
 intro H N M x d c Q hx h k;cases d with
 |lst ds=>
  have h:((LD ds).bind fun ps=>some (dF.lst ((JZ ps).map fun i=>ds.getD i .non)))=some c:=h;obtain⟨ps,h1,h⟩:=Aa.mp h;cases h;obtain⟨a,xs,rfl,sq,r⟩:=hx.lstE;exact⟨a,xs,ps,rfl,sq,FP r h1,fun l hl'=>k l _ _ hl' (ML r _) rfl⟩
 |_=>cases h
theorem DN:typeLookup (.type "list") ("keys":Str)=pure none:=am_miss_of_fast (by decide+kernel)
section
variable{prog:Bq}{w:World}{A:Cz}{E:Value->Af->Prop}{s:Af}
theorem DL{a:Addr}{o:Obj}{xs:Array Value}{k:Nat}{Q:Option Value->Af->Prop}(hx:s.heap.get? a=some o)(hc:o.cls= .type "list") (cq:o.data= .seq xs k) (hd:o.dict=none) (hA:A.handled=none)
  (h: ∀h' tk,(∀b ob,s.heap.get? b=some ob->h'.get? b=some ob)->Q none {s with heap:=h',toks:=tk}):wpAny (model prog w) A (getAttr? (.ref a) "keys") Q E s:=by
 obtain⟨c,dct,dat,sl⟩:=o;simp only at hc cq hd;subst hc cq hd;obtain⟨hp,g,d,tk,os⟩:=s;have hT: ∀tk',(⟨hp,g,d,tk',os⟩:Af).TypeIs (.ref a) "list":=fun _=>⟨_,hx,rfl⟩;have f1:=sub_AttributeError;have f3:=F.slot_list_getattribute.lookup;have f4:=F.slot_list_getattribute.bind (.ref a);have f5:=am_list_getattr_none;unfold getAttr? getAttrBy? getAttrBy
 (repeat (any_goals (first|assumption|exact hT _|((with_reducible show wpAny _ _ (call (Rq "list.__getattribute__") _ _) _ _ _);refine Ol F.slot_list_getattribute (hT _) am_entry_list_getattribute (F.args_list_getattribute_2 _ _) (meets_getattribute_miss_list a xs k sl "keys" _ DN (by decide) (by size_fits)) ⟨hx,hA,fun h' tk' e hx'=> ?_⟩)|wp_step)))
 obtain⟨t1,u1,he⟩:=hx'.there;show(wpAny _ _ (Oe _ _ _ _ _ _ _) _ _ _);unfold Oe
 (repeat (any_goals (first|assumption|wp_step)))
 exact h _ _ hx'.keeps
end
theorem L6:entryFor table "dict.update.loop"=some Kl.«dict.update.loop» :=entryFor_of_tree (by kernel_rfl)
theorem UF:plainId "dict.update.loop"=true:=by decide+kernel
def PrK(prog:Bq)(w:World)(h:Heap):List Value->List (bV×Value)->Prop
 |[],[]=>True
 |v::vs,p::ps=>(∃a key,v= .ref a/\IsTup h a #[key,p.2]/\(bQ prog w).is p.1 key=true)/\PrK prog w h vs ps
 |_,_=>False
section
variable{prog:Bq}{w:World}{A:Cz}{E:Value->Af->Prop}{s:Af}
theorem PrK.keep{h h':Heap}{C:Addr->Prop}(k: ∀b o,C b->h.get? b=some o->h'.get? b=some o): ∀{vs:List Value} {ps:List (bV×Value)},(∀a,Bo a∈vs->C a)->PrK prog w h vs ps->PrK prog w h' vs ps
 |[],[],_,_=>trivial
 |_::_,_::_,hC,⟨⟨a,key,e,⟨o,ho,r⟩,q⟩,r2⟩=>⟨⟨a,key,e,⟨o,k a o (hC a (by rw[e];exact Au)) ho,r⟩,q⟩,PrK.keep k (fun a ha=>hC a (Ap _ ha)) r2⟩
 |[],_::_,_,r=>r.elim
 |_::_,[],_,r=>r.elim
theorem G8{a:Addr}{k v:Value}{Q:List Value->Af->Prop}(h:IsTup s.heap a #[k,v])(q:Q [k,v] s):wpAny (model prog w) A (Ly (.ref a)) Q E s:=by
 obtain⟨o,ho,hc,n,hd⟩:=h;unfold Ly;refine(Ac (Kh (T:= "tuple") ⟨o,ho,hc⟩ ?_));rw[if_pos (by decide)];exact(Ac (Ex ho hd (Ak q)))
theorem zE1{R:Ru->Af->Prop}{I D:Addr}{fp wr:List Addr}{items:Array Value}{St:Nat->Heap->Prop}(W:Walks prog w A.in1 I fp wr items.size (fun i v=>items[i]? =some v) St)(hDf:D∉fp): ∀(vs:List Value) (ps:List (bV×Value)) (j:Nat) (i:Int) (s:Af) (kvs:List (bV×Value)),items.toList.drop j=vs->j+vs.length=items.size->St j s.heap->s.heap.DictOf (bQ prog w) D kvs->kvs.length+vs.length<=sizeLine->PrK prog w s.heap vs ps->(∀a,Bo a∈vs->a∉wr/\a≠D)→
  (∀g tk,g.DictOf (bQ prog w) D (ps.foldl (fun l p=>Rv l p.1 p.2) kvs)->(∀b o,b∉wr->b≠D->s.heap.get? b=some o->g.get? b=some o)->R (.ok (.ret .none)) {s with heap:=g,toks:=tk})→
  Jn (model prog w) A (.builtin "dict.update.loop" ⟨[.ref D,.ref I,rawInt i,.none],[]⟩) R s
 | [],ps,j,i,s,kvs,e,hj,hst,hd,hz,hp,ha,hR => by
  have nDw:D∉wr:=fun z=>hDf (W.sub _ z);cases ps with
  |cons p ps=>exact hp.elim
  |nil=>
   refine Mn L6 (by
    rw[Je UF _];show(wpAny _ A.in1 (pyNext (.ref I)>>=_) _ _ s);refine(Ac (W.done s _ _ (by rw[show items.size=j by simpa using hj.symm];exact hst) fun g tk kept=> ?_));show(wpAny _ A.in1 (Builtin.Dict.addKeywords D []>>=_) _ _ _);refine(Ac (Ak (Ak ?_)));obtain⟨o,es,ep,ho,r⟩:=hd;exact hR g tk ⟨o,es,ep,kept _ _ nDw ho,r⟩ fun b o z1 _ e=>kept b o z1 e)
 | v :: vs,ps,j,i,s,kvs,e,hj,hst,hd,hz,hp,ha,hR => by
  have nDw:D∉wr:=fun z=>hDf (W.sub _ z);cases ps with
  |nil=>exact hp.elim
  |cons p ps=>
   obtain⟨⟨a,key,rfl,ht,hk⟩,hp⟩:=hp;obtain⟨na,nD⟩:=ha a Au;simp only[Bn] at hj hz;have ei:items[j]? =some (.ref a):=by
    have:=congrArg (fun l=>l[0]?) e;simpa using this
   have ed:items.toList.drop (j+1)=vs:=by
    have:=congrArg List.tail e;simpa using this
   refine Mn L6 (by
    rw[Je UF _];show(wpAny _ A.in1 (pyNext (.ref I)>>=_) _ _ s);refine(Ac (W.item j s _ _ (by lia) hst fun v g tk pv m9 kept=> ?_));obtain rfl:v= .ref a:=by rw[ei] at pv;cases pv;rfl
    obtain⟨o,ho,r⟩:=ht;obtain⟨o2,es,ep,ho2,r2⟩:=hd;refine(Ac (Ci (Ac (wpAny_tryCatch (G8 (s:={s with heap:=g,toks:=tk}) ⟨o,kept _ _ na ho,r⟩ ?_)))));refine(Ci (Nk (s:={s with heap:=g,toks:=tk}) (kvs:=kvs) hk ⟨o2,es,ep,kept _ _ nDw ho2,r2⟩ (fun g2 hd2 hs2=> ?_) (by lia)));have gy: ∀b o,b∉wr->b≠D->s.heap.get? b=some o->g2.get? b=some o:=fun b o z1 z2 e=>(hs2.2 b z2).trans (kept b o z1 e);refine(Ak ⟨Of UF _,zE1 W hDf vs ps (j+1) (i+1) _ (Rv kvs p.1 p.2) ed (by lia) (W.frame _ _ _ m9 fun b hb o e=>(hs2.2 b (fun z=>hDf (by rw[<- z];exact hb))).trans e) hd2 ?_ (PrK.keep (C:=fun b=>b∉wr/\b≠D) (fun b o hb e=>gy b o hb.1 hb.2 e) (fun a h=>ha a (Ap _ h)) hp) (fun a h=>ha a (Ap _ h)) ?_⟩)
    ·have:=stored_length_le kvs p.1 p.2
     lia
    ·exact fun g3 tk3 hd3 kr=>hR g3 tk3 hd3 fun b o z1 z2 e=>kr b o z1 z2 (gy b o z1 z2 e))
end
section
variable{prog:Bq}{w:World}{A:Cz}{E:Value->Af->Prop}{s:Af}
theorem GV{l:Addr}{vs:List Value}{ps:List (bV×Value)}{Q:Value->Af->Prop}(hh:A.handled=none)(pl:PlainL s.heap l vs.toArray)(hz:vs.length<=sizeLine)(hp:PrK prog w s.heap vs ps)
  (h: ∀g tk,g.DictOf (bQ prog w) s.heap.objs.size (ps.foldl (fun l p=>Rv l p.1 p.2) [])->(∀b o,s.heap.get? b=some o->g.get? b=some o)->Q (.ref s.heap.objs.size) {s with heap:=g,toks:=tk}):
  wpAny (model prog w) A (call (.type "dict") [.ref l]) Q E s:=by
 refine(callType_codes (Q₁:=fun obj s₁=>obj= .ref s.heap.objs.size/\s₁={s with heap:=s.heap.push {cls:= .type "dict",data:= .dict #[]}}) F.kt_called_dict (F.kt_typeCall_dict_1 _) F.entry_dict_init (kt_code_dict_new _ ⟨rfl,rfl⟩) ?_);rintro obj s₁ ⟨rfl,rfl⟩;have dg:(s.heap.push {cls:= .type "dict",data:= .dict #[]}).DictOf (bQ prog w) s.heap.objs.size []:=Qh s.heap;obtain⟨o,n,ho,hc,hd,cq⟩:=pl;have ho':(s.heap.push {cls:= .type "dict",data:= .dict #[]}).get? l=some o:=Ad _ ho;refine⟨dg.typeIs,F.args_dict_init_2 _ _,?_⟩;unfold Kl.«dict.__init__»;refine(Ac ?_);unfold Builtin.Dict.selfAndRest;refine(Ac (wpAny_notOrdered_dict dg.typeIs ?_));show(wpAny _ _ (pure (s.heap.objs.size,[Bo l])) _ _ _);refine(Ak ?_);show(wpAny _ _ (Lm "dict.__init__" s.heap.objs.size (.ref l) [] .none) _ _ _);unfold Lm;refine(Ac (Kh (T:= "list") ⟨o,ho',hc⟩ ?_));rw[if_pos (by decide)];refine(Ac (DL ho' hc cq hd (by simp[hh]) fun g1 tk1 k1=> ?_));simp only[Option.isNone_none,if_true];refine(Ac (Hj ?_));have o1:g1.get? l=some o:=k1 _ _ ho';have od:g1.get? s.heap.objs.size=some {cls:= .type "dict",data:= .dict #[]}:=k1 _ _ (As _ rfl);have lts:s.heap.objs.size<g1.objs.size:=An od;have ltl:l<s.heap.objs.size:=An ho;have hl1:g1.IsList l vs.toArray:=⟨o,o1,hc,n,cq⟩;have jz: ∀b ob,s.heap.get? b=some ob->g1.get? b=some ob:=fun b ob q=>k1 b ob (Ad _ q);have ne1: ∀b ob,s.heap.get? b=some ob->b∉[g1.objs.size]/\b≠s.heap.objs.size:=fun b ob q=>by
  have:=An q;exact⟨fun z=>by rw[Bb.mp z] at this;exact absurd (Pf this lts) (Cd _),fun z=>by rw[z] at this;exact Cd _ this⟩
 have hin: ∀{vs:List Value} {ps:List (bV×Value)},PrK prog w s.heap vs ps-> ∀a,Bo a∈vs-> ∃ob,s.heap.get? a=some ob:=by
  intro vs;induction vs with
  |nil=>intro ps _ a ha;cases ha
  |cons v vs ih=>
   intro ps hp a ha;cases ps with
   |nil=>exact hp.elim
   |cons p ps=>
    rcases Ai.mp ha with e|ha
    ·obtain⟨⟨b,key,e2,⟨ob,hob,_⟩,_⟩,_⟩:=hp
     rw[e2] at e;cases e;exact⟨ob,hob⟩
    ·exact ih hp.2 a ha
 refine(Ac (Hc (s:={s with heap:=g1,toks:=tk1}) hl1 ?_));have W:=Walks.list (prog:=prog) (w:=w) (A:=A.in1.in1) (by simp[hh]) g1.objs.size l (Be (Pf ltl lts)) vs.toArray;refine(Ak ⟨Of UF _,zE1 (A:=A.in1) W (fun z=> ?_) vs ps 0 0 _ [] (by simp) (by simp) ⟨⟨_,As _ rfl,rfl,rfl⟩,hl1.push _⟩ ?_ (by simpa using hz) (PrK.keep (C:=fun _=>True) (fun b ob _ q=>Ad _ (jz b ob q)) (fun _ _=>trivial) hp) (fun a ha=> ?_) fun g tk hdd kept=>⟨rfl,h g tk hdd fun b ob q=> ?_⟩⟩)
 ·rcases Ai.mp z with z|z
  ·exact absurd lts (by rw[<- z];exact Cd _)
  ·rw[<- Bb.mp z] at ltl
   exact Cd _ ltl
 ·obtain⟨o2,es,ep,ho2,r2⟩:=dg
  exact⟨o2,es,ep,Ad _ (k1 _ _ ho2),r2⟩
 ·obtain⟨ob,hob⟩:=hin hp a ha
  exact ne1 a ob hob
 ·exact kept b ob (ne1 b ob q).1 (ne1 b ob q).2 (Ad _ (jz b ob q))
end
variable{X:Cx}{K:Ar}{H:Hp}{σ:St}{s:Af}{aa:List (Addr×Obj)}{ml:List Nat}{pa ta ia:Bool}{fa:VF}{a:Expr}{p' pos:Pos}
noncomputable def kprD:dF->Option (bV×dF)
 | .tup [k,v]=>(XU k).map fun kk=>(kk,v)
 |_=>none
noncomputable def RW:List dF->Option (List (bV×dF))
 |[]=>some []
 |d::ds=>(kprD d).bind fun p=>(RW ds).map fun ps=>p::ps
def KH(K:Ar)(H:Hp):List V->List (bV×V)->Prop
 |[],[]=>True
 |v::vs,p::ps=>(∃a,v= .ref a/\WS K H a [kV p.1,p.2])/\KH K H vs ps
 |_,_=>False
theorem zCS{d:dF}{p:bV×dF}(h:kprD d=some p): ∃k,d= .tup [k,p.2]/\XU k=some p.1:=by
 unfold kprD at h;split at h
 ·rename_i k v
  cases e:XU k with
  |none=>rw[e] at h;cases h
  |some kk=>rw[e] at h;cases h;exact⟨k,rfl,e⟩
 ·cases h
theorem IQ{N:Addr->Prop}: ∀{xs:List V} {ds:List dF} {kds:List (bV×dF)},cO K N H xs ds->RW ds=some kds-> ∃kvs:List (bV×V),KH K H xs kvs/\kvs.map Bg=kds.map Bg/\cO K N H (kvs.map Cj) (kds.map Cj)
 |_,_,_,.nil,h=>by cases h;exact⟨[],trivial,rfl,.nil⟩
 | _,_,kds,@cO.cons _ _ _ v vs d ds h t,e => by
  have e:(kprD d).bind (fun p=>(RW ds).map fun ps=>p::ps)=some kds:=e;obtain⟨p,h1,e⟩:=Aa.mp e;have e:(RW ds).map (fun ps=>p::ps)=some kds:=e;obtain⟨qs,h2,e⟩:=Ao.mp e;cases e;obtain⟨kvs,r1,r2,r3⟩:=IQ t h2;obtain⟨k,rfl,hk⟩:=zCS h1;cases h with
  |tup sq r=>
   cases r with
   |cons w1 r=>
    cases r with
    |cons w2 r=>
     cases r;have ek:=w1.key hk;subst ek;exact⟨(p.1,_)::kvs,⟨⟨_,rfl,sq⟩,r1⟩,by simp[r2],.cons w2 r3⟩
theorem KH.prK(I:cT X aa σ H s): ∀{xs:List V} {us:List Value} {kvs:List (bV×V)},KH X.K H xs kvs->b5 xs us-> ∃ps:List (bV×Value),KV kvs ps/\PrK X.prog X.w s.heap us ps
 |[],_,[],_,.nil=>⟨[],.nil,trivial⟩
 | _ :: _,_,p :: _,⟨⟨b,e,q⟩,r⟩,.cons h t => by
  subst e;cases h;obtain⟨ps,r1,r2⟩:=KH.prK I r t;obtain⟨its,rv,ht,_⟩:=I.tuple q;cases rv with
  |cons w1 rv=>
   cases rv with
   |cons w2 rv=>
    cases rv;exact⟨(p.1,_)::ps,.cons ⟨rfl,w2⟩ r1,⟨b,_,rfl,ht,QA w1⟩,r2⟩
 |[],_,_::_,h,_=>h.elim
 |_::_,_,[],h,_=>h.elim
theorem KH.len: ∀{xs:List V} {ps:List (bV×V)},KH K H xs ps->xs.length=ps.length
 |[],[],_=>rfl
 |_::_,_::_,r=>by simp[KH.len r.2]
 |[],_::_,r=>r.elim
 |_::_,[],r=>r.elim
def AU(K:Ar):RC:=fun xs H Q=> ∃(p:Addr) (ys:List V) (kvs:List (bV×V)),xs=[.ref p]/\X5 K H p ys/\KH K H ys kvs/\(kvs.map Bg).Nodup/\ ∀l:Addr,H l=none->Q (.ref l) (bN H l (.dK kvs))
theorem zGY(h:X.K=K)(hc:X.calm=true):aX X (.type "dict") (AU K):=by
 subst h;intro aa s σ H xs us Q I r h;obtain⟨p,ys,kvs,rfl,hq,hp,nd,q⟩:=h;obtain⟨u,rfl,rx⟩:=VN r;cases rx;obtain⟨its,rv,pl,hz⟩:=I.list hq;have af:=rv.length;have hpl:=hp.len;obtain⟨ps,r1,r2⟩:=hp.prK I rv;refine GV (I.ok.hd hc) pl (by lia) r2 fun g tk hd kept=> ?_;have hm:X0 [] kvs=kvs:=ME (acc:=[]) (by simpa using nd);have rel:=KV.merge r1 (kvs:=[]) (vs:=[]) .nil;rw[hm] at rel;exact⟨.ref s.heap.objs.size,_,I.laid (a:=s.heap.objs.size) (o:= .dK kvs) (t':=tk) kept (Ah _) (KZ (by lia) (beq_eq_false_iff_ne.mpr (Dr (Be I.big))) rel hd),rfl,q _ (I.hok.fresh (Ah _))⟩
noncomputable def FF:dF->Option dF
 | .lst ds=>(RW ds).bind fun kds=>if(kds.map Bg).Nodup then some (.dct (kds.map Bg) (kds.map Cj)) else none
 |_=>none
def CalD(K:Ar)(r:RC)(o:dF->Option dF):Prop:= ∀(H:Hp) (N M:Addr->Prop) (x:V) (d c:dF) (Q:VK),bR K N H M x d->o d=some c→
 (∀p (kvs:List (bV×V)) ds,H p=none->cO K N H (kvs.map Cj) ds->c= .dct (kvs.map Bg) ds->Q (.ref p) (bN H p (.dK kvs)))->r [x] H Q
theorem zCO:CalD K (AU K) FF:=by
 intro H N M x d c Q hx h k;cases d with
 |lst ds=>
  have h:((RW ds).bind fun kds=>if(kds.map Bg).Nodup then some (dF.dct (kds.map Bg) (kds.map Cj)) else none)=some c:=h;obtain⟨kds,h1,h⟩:=Aa.mp h;have h:(if(kds.map Bg).Nodup then some (dF.dct (kds.map Bg) (kds.map Cj)) else none)=some c:=h;split at h
  ·rename_i nd
   cases h;obtain⟨a,xs,rfl,sq,r⟩:=hx.lstE;obtain⟨kvs,r1,r2,r3⟩:=IQ r h1;exact⟨a,xs,kvs,rfl,sq,r1,by rw[r2];exact nd,fun l hl'=>k l kvs _ hl' r3 (by rw[r2])⟩
  ·cases h
 |_=>cases h
theorem mkDK{B:Bs}{O:Nat->Option Addr}{H1:Hp}{δ':Ev}{p:Addr}{pu:Bool}{kvs:List (bV×V)}{ds:List dF}(S:bA K ml B O H1 σ δ')(f:Fr (OA O) H H1)(s:pu=true->bI H H1)(hp:H1 p=none)(r:cO K (Nn B O) H1 (kvs.map Cj) ds):ResN K ml B O H σ pu (bN H1 p (.dK kvs)) δ' p (.dct (kvs.map Bg) ds):=
 ⟨S.laid hp,f.trans (c8 hp).fr,fun z=>(s z).trans (c8 hp),.dct cS ((r.away hp _ _ W8).same (c8 hp)),S.new hp,S.fresh hp⟩
theorem EJ(hK:X.K=K)(hc:X.calm=true)(hg:Gl X "dict") (hm:X.mg "dict"=none) (hv:Bj "dict"=some (.type "dict")) (ha:PE X a (TV K ml pa ta true fa)) (hn:("dict":Str)≠ "__name__":=by decide) (hdb:(("dict":Str)==("__debug__":Str))=false:=by decide)
  (he:Aj (a::[]) X.env=(false,eval a X.env)::Aj [] X.env:=by rfl):PE X (.Call (.Name "dict" p') [a] [] pos) (TN K ml pa (f1 FF fa)):=
 (WL (zGY hK hc) hg hm hv (cE ha aH he) hn hdb he).imp fun σ H Q h => by
  obtain⟨B,O,δ,d,δ',S,q,k⟩:=h;obtain⟨x,h1,h2⟩:=NT q;refine⟨B,O,δ,x,δ',S,h1,fun v1 H1 R1=>zCO H1 _ _ v1 x d Q R1.rep h2 fun p kvs ds hp hr he=> ?_⟩;subst he;exact k p _ (mkDK R1.sta R1.frm R1.pur hp hr)
section
variable{prog:Bq}{w:World}{A:Cz}{E:Value->Af->Prop}{s:Af}
theorem Q7:isSubtype (.type "range_iterator") (.type "reversed")=pure false:=by rw[isSubtype_type];kernel_rfl
theorem zBV{r:Addr}{n:Int}{t u v:Tok}{Q:Value->Af->Prop}(hn: -(2 ^ 62)<=n/\n<2 ^ 62)(hr:s.heap.get? r=some {cls:= .type "range",data:= .fields #[.int 0 t,.int n u,.int 1 v]})
  (h:Q (.ref s.heap.objs.size) {s with heap:=s.heap.push {cls:= .type "range_iterator",data:= .fields #[rawInt ((n.toNat:Int) - 1),rawInt (n.toNat:Int),rawInt (-1)]}}):wpAny (model prog w) A (call (.builtin "range.__reversed__") [.ref r]) Q E s:=by
 refine Dn F.slot_range_reversed ⟨_,hr,rfl⟩ F.entry_range_reversed ?_ (F.args_range_reversed_1 _);unfold Kl.«range.__reversed__»;refine Ac (Ik (a:=Bo r) rfl ?_);have sz:Gf 0 n 1=(n.toNat:Int):=by rw[rangeSize_one];split<;>lia
 have fl:(Cu 0 && Cu n && Cu 1 && Cu (-1) && Cu (0 - 1) && Cu (n.toNat:Int))=true:=by
  simp only[Cu,Ae,decide_eq_true_eq];lia
 obtain⟨hh,g,d,tk,os⟩:=s;unfold Qz;repeat (any_goals (first|with_reducible refine Dy hr rfl rfl ?_|wp_step))
 dsimp only;rw[sz,fl];refine Ac (Cr (Ak ⟨_,rfl,?_⟩));rw[show(0:Int)+((n.toNat:Int) - 1)*1=(n.toNat:Int) - 1 by lia];exact h
theorem KY{r:Addr}{n:Int}{t u v:Tok}{Q:Value->Af->Prop}(hn: -(2 ^ 62)<=n/\n<2 ^ 62)(hr:s.heap.get? r=some {cls:= .type "range",data:= .fields #[.int 0 t,.int n u,.int 1 v]})
  (h:Q (.ref s.heap.objs.size) {s with heap:=s.heap.push {cls:= .type "range_iterator",data:= .fields #[rawInt ((n.toNat:Int) - 1),rawInt (n.toNat:Int),rawInt (-1)]}}):
  Jn (model prog w) A (.call (.builtin "reversed.__new__") ⟨[.type "reversed",.ref r],[]⟩) (wants Q E) s:=by
 refine codeAny_of_tree (show wpAny _ A.in1 (do checkBuiltinCall "reversed.__new__" ⟨[.type "reversed",.ref r],[]⟩;PySem.again (.builtin "reversed.__new__" ⟨[.type "reversed",.ref r],[]⟩)) _ _ s from ?_);refine Ac (Ik (F.newCall_reversed_1 _) (Ak ⟨Of Mw _,Mn F.entry_reversed_new ?_⟩));rw[Je Mw _];unfold Kl.«reversed.__new__»;refine Ac (Ik (newClass_reversed _) (Ac (Ik (a:=()) (by first|rfl|kernel_rfl) (Ac (Ik (a:=()) (by first|rfl|kernel_rfl) ?_)))));refine Ac (Mj (⟨_,hr,rfl⟩:s.TypeIs (.ref r) "range") F.slot_range_reversed.lookup ?_);refine Ac (Ik (F.slot_range_reversed.bind _) ?_);show wpAny _ _ (if(Rq "range.__reversed__"==Value.none)=true then _ else _) _ _ _;rw[if_neg (by decide)];refine Ac (Hj (Ac (m:=runValue (.call (.builtin "range.__reversed__") ⟨[.ref r],[]⟩)) (show wpAny _ _ (call (.builtin "range.__reversed__") [.ref r]) _ _ _ from zBV hn hr ?_)));first
 |exact Ak h
 |exact Ac (Ak (Ak h))
theorem KP{r:Addr}{n:Int}{t u v:Tok}{Q:Value->Af->Prop}(hn: -(2 ^ 62)<=n/\n<2 ^ 62)(hr:s.heap.get? r=some {cls:= .type "range",data:= .fields #[.int 0 t,.int n u,.int 1 v]})
  (h:Q (.ref s.heap.objs.size) {s with heap:=s.heap.push {cls:= .type "range_iterator",data:= .fields #[rawInt ((n.toNat:Int) - 1),rawInt (n.toNat:Int),rawInt (-1)]}}):wpAny (model prog w) A (call (.type "reversed") [.ref r]) Q E s:=
 callType_other (U:= "range_iterator") (Q₁:=fun obj s₁=>s₁.TypeIs obj "range_iterator" /\Q obj s₁) (by decide+kernel) F.create_reversed ⟨_,_,F.mro_reversed⟩ F.made_reversed Q7 (F.typeCall_reversed_1 _) (KY hn hr ⟨⟨_,As _ rfl,rfl⟩,h⟩) fun _ _ z=>z
end
noncomputable def ItB(n:Nat):It:=⟨fun i _=>i<n,fun i H x H'=>H'=H/\x= .int ((n:Int) - 1 - i),fun i _=>n<=i⟩
theorem BP{P:Bq}{w:World}{K:Ar}{tg:Expr}(it:Addr)(n:Nat):KI P w K tg (ItB n) [it] it (fun i h=>Lc h it ((n:Int) - 1+(i:Nat)*(-1)) ((n:Int) - (i:Nat)) (-1)) where
 mem:=by simp
 obj:=fun i h st b hb=>by
  have e:b=it:=by simpa using hb
  subst e;exact⟨_,st,fun v z=>by
   have z':Data.fields _=Data.cell v:=z;cases z'⟩
 keep:=fun i h h' st k=>k it (by simp) _ st
 item:=by
  intro X hP hw hK hc i aa s σ H E I hf st hg;subst hP hw hK;obtain⟨f0,f1,f2,f3,f4,f5⟩:=hf it (by simp);refine(Sc (prog:=X.prog) (w:=X.w) (I.ok.hd hc) it ((n:Int) - 1) (-1) n).item i s _ _ hg st fun v h' tk hv st' kk=> ?_;obtain⟨t,rfl⟩:=hv;have I1:cT X aa σ H {s with heap:=h',toks:=tk}:=I.turned (fun b o hb e=>kk b o (by simpa using hb) e) f0 f1 f3 f4 f5;exact⟨_,rfl,EY (s:={s with heap:=h',toks:=tk}) (n:= "range_iterator") st' rfl rfl (by decide) ⟨.int ((n:Int) - 1 - i),H,I1,⟨t,by congr 1;lia⟩,⟨rfl,rfl⟩,st',fun b hb=>(hf b hb).1⟩⟩
 done:=by
  intro X hP hw hK hc i aa s σ H E I hf st hg;subst hP hw hK;obtain⟨f0,f1,f2,f3,f4,f5⟩:=hf it (by simp);exact Lw (I.ok.hd hc) st (by have:n<=i:=hg;lia) fun h' eb=>⟨rfl,I.turned (t':=s.toks) (fun b o hb e=>eb b o hb e) f0 f1 f3 f4 f5⟩
 self:=fun _ _ _ _ _ st h=>Hz st h
theorem M7:Bj "reversed"=some (.type "reversed"):=by decide+kernel
section
variable{X:Cx}{K:Ar}{ml:List Nat}{a:Expr}{pa ta ia:Bool}{fa:VF}{pos dw:Pos}{tg:Expr}
def zJH(ta:TA):TI:=fun σ H R=>ta σ H fun vs H1=> ∃j:Int,vs=[.int j]/\ -(2 ^ 62)<=j/\j<2 ^ 62/\R (ItB j.toNat) H1
theorem zFF{ta:TA}{p p2:Pos}(hg:Gl X "range") (hm:X.mg "range"=none) (hg2:Gl X "reversed") (hm2:X.mg "reversed"=none) (ha:PA X [a] ta) (hs:Aj [a] X.env=[(false,eval a X.env)]:=by rfl)
  (hs2:Aj [.Call (.Name "range" p) [a] [] pos] X.env=[(false,eval (.Call (.Name "range" p) [a] [] pos) X.env)]:=by rfl):
  PI X tg (.Call (.Name "reversed" p2) [.Call (.Name "range" p) [a] [] pos] [] dw) (zJH ta):=by
 intro aa s σ H R I h;refine Call_ (V0 I hg2 hm2 M7 (Cs ?_ hs2 rfl));rw[hs2];refine Es (Call_ (V0 I hg hm Rj (Cs (ZW (ha pos aa s σ H _ I h) fun us s1 ⟨vs,H1,I1,r1,q1⟩=> ?_) hs rfl)));obtain⟨j,e,q1,q2,q⟩:=q1;subst e;cases r1 with
 |cons r rr=>
  cases rr;obtain⟨t,rfl⟩:=r;refine Pd (Fz (KP ⟨q1,q2⟩ (As _ rfl) (Hz (show Lc _ _ _ _ _ from As _ rfl) ?_)));have I2:cT X aa σ H1 {s1 with heap:=s1.heap.push {cls:= .type "range",data:= .fields #[.int 0 s1.toks,.int j t,.int 1 (s1.toks+1)]},toks:=s1.toks+1+1}:=I1.kept fun b o e=>Ad _ e;refine⟨_,[_],_,_,H1,rfl,I2.kept (t':=s1.toks+1+1) fun b o e=>Ad _ e,BP _ j.toNat,?_,fun b hb=> ?_,q⟩
  ·have e1 : ((j.toNat : Int) - 1) + ((0 : Nat) : Int) * (-1) = (j.toNat : Int) - 1 := by simp
   have e2:(j.toNat:Int) - ((0:Nat):Int)=(j.toNat:Int):=by simp
   show Lc _ _ (((j.toNat:Int) - 1)+((0:Nat):Int)*(-1)) ((j.toNat:Int) - ((0:Nat):Int)) (-1);rw[e1,e2];exact As _ rfl
  ·have e:=Bb.mp hb
   subst e;exact I2.fpOk (Ah _) (I2.hok.fresh (Ah _))
noncomputable def HF(n:Nat):List dF:=(Az n).map fun k:Nat=> .int ((n:Int) - 1 - k)
theorem EK{n:Nat}:C0 K (ItB n) [] (HF n):=by
 intro N H _;refine⟨fun i d e=> ?_,by simp[ItB,HF]⟩;unfold HF at e;rw[Co] at e;obtain⟨k,h1,e⟩:=Ao.mp e;cases e;obtain⟨hl,e⟩:=Ag.mp h1;rw[He] at hl;rw[Nw] at e;subst e;refine⟨hl,fun x H' hy=> ?_⟩;obtain⟨rfl,rfl⟩:=hy;exact⟨bI.refl _,.int _⟩
noncomputable def iRB(f:VF):VI:=fun δ=>(f δ).bind fun p=>match p.1 with
 | .int j=>if -4611686018427387904<=j/\j<4611686018427387904 then some (HF j.toNat,p.2) else none
 |_=>none
theorem BZ{p' p2:Pos}(hg:Gl X "range") (hm:X.mg "range"=none) (hg2:Gl X "reversed") (hm2:X.mg "reversed"=none) (h:PE X a (TV K ml pa ta ia fa)) (hs:Aj [a] X.env=[(false,eval a X.env)]:=by rfl) (hs1:Aj (a::[]) X.env=(false,eval a X.env)::Aj [] X.env:=by rfl)
  (hs2:Aj [.Call (.Name "range" p') [a] [] pos] X.env=[(false,eval (.Call (.Name "range" p') [a] [] pos) X.env)]:=by rfl):
  PI X tg (.Call (.Name "reversed" p2) [.Call (.Name "range" p') [a] [] pos] [] dw) (CI K ml pa (iRB fa)):=(zFF hg hm hg2 hm2 (cE h aH hs1) hs hs2).imp fun σ H R ⟨B,O,δ,ds,δ',S,q,k⟩=>by
 unfold iRB at q;obtain⟨⟨x,δ1⟩,h1,q⟩:=Aa.mp q;cases x with
 |int j=>
  have q:(if -4611686018427387904<=j/\j<4611686018427387904 then some (HF j.toNat,δ1) else none)=some (ds,δ'):=q;split at q
  ·rename_i hj
   cases q;have p62:(2:Int) ^ 62=4611686018427387904:=by decide
   refine⟨B,O,δ,_,_,S,h1,fun v H1 R1=>⟨j,?_,by rw[p62];exact hj.1,by rw[p62];exact hj.2,k _ [] H1 (R1.sta.keepV fun _ z=>nomatch z) R1.frm R1.pur EK⟩⟩;have r:=R1.rep;cases r;rfl
  ·cases q
 |_=>cases q
end
theorem C7{X:Cx}{aa:List (Addr×Obj)}{σ:St}{H:Hp}{s:Af}{A:Cz}{E:Value->Af->Prop}{a:Addr}{kvs:List (bV×V)}{k:bV}{v:V}{u r:Value}{Q:Unit->Af->Prop}(I:cT X aa σ H s)(e:H a=some (.dK kvs))(ry:cB (kV k) u)(rv:cB v r)(l:kvs.length<sizeLine)(h: ∀s',cT X aa σ (bN H a (.dK (ZF kvs k v))) s'->Q () s'):
  wpAny (model X.prog X.w) A (dictSet a u r) Q E s:=by
 obtain⟨z,hd,vs,rel,dd⟩:=ES I.hok e;have hz:vs.length<=sizeLine:=by rw[<- rel.length];exact z
 have hl:(ZF kvs k v).length<=sizeLine:=by have:=UY kvs k v;lia
 refine Nk (QA ry) dd (fun h' dd' hs=>h _ ?_) hz;have he: ∃q,h'.get? a=some q:=let ⟨q,_,_,hq,_⟩:=dd';⟨q,hq⟩
 exact O9 I (by rw[e];exact True.intro) hs he (KZ hl hd (rel.put k rv) dd')
structure BlkD(Y:Cx)(tg:Expr)(ifs:List Expr)(kx vx:Expr)(g:TG)(tt:TT)(tk tv:TE):Prop where
 tg:PG Y tg g
 ts:PTs Y ifs tt
 ke:PE Y kx tk
 ve:PE Y vx tv
def GD(D:Addr)(ix:List Nat)(nl:Nat)(J:It)(g:TG)(tt:TT)(tk tv:TE)(σ:St)(H0:Hp)(Q:Hp->Prop):Prop:=
 ∃W:Nat->Nat->List (bV×V)->Hp->Prop,(∃m,W 0 m [] (bN H0 D (.dK [])))/\ ∀i m acc H1,W i m acc H1→
  (J.stop i H1/\Q H1)∨
  (J.go i H1/\ ∃N:List (bV×V)->Hp->Prop,(∀ao H',N ao H'-> ∃m',m'<m/\W (i+1) m' ao H')∧
   ∀x H2,J.yld i H1 x H2->g x (aV ix σ++Bd nl none) H2 fun σ2 H3=>σ2.take ix.length=aV ix σ∧
    tt σ2 H3 fun b H4=>if b=true then tk σ2 H4 fun y H5=>tv σ2 H5 fun v H6=> ∃k,y=kV k/\H6 D=some (.dK acc)/\acc.length<sizeLine/\N (ZF acc k v) (bN H6 D (.dK (ZF acc k v))) else N acc H4)
theorem GU{prog:Bq}{w:World}{A:Cz}{s:Af}{kx vx ax iter:Expr}{ifs:List Expr}{scope:Scope}{pos:Pos}{it:Value}{D:Addr}{env:Env}{R:Ru->Af->Prop}(I:Nat->Af->Prop)
  (turn : ∀ n s,I n s -> wpAny (model prog w) A (pyNext it) (fun r s₁ => match r with
   |none=>R (.ok .next) s₁
   | some v => wpAny (model prog w) A (Ho ax it v) (fun _ s₀ => wpAny (model prog w) A (Gv ax env v) (fun _ s₂ =>
     wpAny (model prog w) A (forIn ifs true fun c r=>if r=true then do let ok<- isTrue c env (eval c env);pure (Dc ok) else pure (Dc r)) (fun ok s₃=>if ok=true then wpAny (model prog w) A (eval kx env) (fun x s₄=>wpAny (model prog w) A (eval vx env) (fun y s₅=>
      wpAny (model prog w) A (dictSet D x y) (fun _ s₆=> ∃m,m<n/\I m s₆) (fun _ _=>False) s₅) (fun _ _=>False) s₄) (fun _ _=>False) s₃
      else∃m,m<n/\I m s₃) (fun _ _=>False) s₂)
     (fun _ _=>False) s₀) (fun _ _=>False) s₁) (fun _ _=>False) s)
  (n:Nat) (h:I n s):Jn (model prog w) A (.compLoop (.DictComp kx vx [⟨ax,iter,ifs,0⟩] scope pos) 0 it (.ref D) env) R s:=by
 refine codeAny_loop rfl I (fun n s hI=> ?_) n h;show wpAny _ A ((compTurn (.DictComp kx vx [⟨ax,iter,ifs,0⟩] scope pos) 0 it (.ref D) env).onRaise (fun x=>do noteFrame x env;theTreesLotGoes x)) _ _ s;refine wpAny_noted ?_;rw[compTurn_dict];refine Ac (Ge (Ac (Bm (turn n s hI) (fun r s₁ h₁=> ?_) fun _ _ h'=>h'.elim)));cases r with
 |none=>exact Ak h₁
 |some v=>
  refine Ac (Bm h₁ (fun _ s₀ h₀'=> ?_) fun _ _ h'=>h'.elim);refine Ac (Bm h₀' (fun _ s₂ h₂=> ?_) fun _ _ h'=>h'.elim);refine Ac (Bm h₂ (fun okb s₃ h₃=> ?_) fun _ _ h'=>h'.elim);cases okb with
  |false=>exact Ak ⟨rfl,h₃⟩
  |true=>exact Ac (Ac (Bm h₃ (fun kv s₄ h₄=>Ac (Ci (Bm h₄ (fun vv s₅ h₅=>Ac (Ge (Ci (Bm h₅ (fun _ s₆ h₆=>Ak ⟨rfl,h₆⟩) fun _ _ h'=>h'.elim)))) fun _ _ h'=>h'.elim))) fun _ _ h'=>h'.elim))
theorem GS{X:Cx}{aa:List (Addr×Obj)}{σ:St}{H2:Hp}{s2:Af}{E:Value->Af->Prop}{tg iter kx vx:Expr}{ifs:List Expr}{scope:Scope}{pos:Pos}{N':List Str}{ix:List Nat}{nl:Nat}{g:TG}{tt:TT}{tk tv:TE}
  {cl:List (Str×Addr)} {J:It} {fp:List Addr} {it:Addr} {tn:Nat->Heap->Prop} {Q:V->Hp->Prop} {RR:Value->Addr->Ru->Af->Prop}
  (hc:X.calm=true) (S:T4 X N' ix scope) (hnl:N'.length=ix.length+nl)
  (bm: ∀x c,cl.lookup x=some c->X.env.cells.lookup x=some c) (g0: ∀x,(x,Bp)∈scope.names-> ∃c,cl.lookup x=some c)
  (blk: ∀(cl:List (Str×Addr)) (s1:Af) (H1:Hp) (fp:List Addr),BlkD (b6 X N' scope cl s1 H1 fp) tg ifs kx vx g tt tk tv)
  (I2:cT X aa σ H2 s2) (T:KI X.prog X.w X.K tg J fp it tn) (st2:tn 0 s2.heap) (f2: ∀b∈fp,PN X aa H2 b)
  (h: ∀D,H2 D=none->GD D ix nl J g tt tk tv σ H2 fun H'=>Q (.ref D) H')
  (fin: ∀(D C:Addr) (s':Af) (H':Hp),cT X aa σ H' s'->(∃m,s'.heap.Ns C m)->C≠X.env.locals->(∀x c,X.env.cells.lookup x=some c->c≠C)→
   (∀(σ':St) (s'':Af) (h'':Heap),cT X aa σ' H' s''->Fk C s''.heap h''->cT X aa σ' H' {s'' with heap:=h''})->Q (.ref D) H'->RR (.ref D) C (.ok .next) s'):
  wpAny (model X.prog X.w) X.A newDict (fun acc s₃=>wpAny (model X.prog X.w) X.A (Km scope X.env.globals cl [] X.env.qual none .none (some X.env)) (fun g9 s₄=>
   Jn (model X.prog X.w) X.A (.compStart (.DictComp kx vx [⟨tg,iter,ifs,0⟩] scope pos) 0 (.ref it) acc {g9 with scope:=relabel scope X.env}) (RR acc g9.locals) s₄) E s₃) E s2:=by
 refine Cr (QD ?_);dsimp only;have I1:cT X aa σ (bN H2 s2.heap.objs.size (.dK [])) {s2 with heap:=s2.heap.push {cls:= .type "dict",data:= .dict #[]}}:=
  I2.laid (a:=s2.heap.objs.size) (o:= .dK []) (t':=s2.toks) (fun _ _ q=>Ad _ q) (Ah _) (IG s2.heap I2.big)
 have hDn:H2 s2.heap.objs.size=none:=I2.hok.fresh (Ah _);obtain⟨W,⟨m0,w0⟩,turn⟩:=h _ hDn;generalize hs1:({s2 with heap:=s2.heap.push {cls:= .type "dict",data:= .dict #[]}}:Af)=s1 at I1;have bu:s2.heap.push {cls:= .type "dict",data:= .dict #[]}=s1.heap:=by rw[<- hs1]
 rw[bu];have old: ∀b o,s1.heap.get? b=some o->(Ky (s1.heap.push {cls:= .type "dict",data:= .dict #[]}) scope.names).get? b=some o:=fun b o e=>Jv _ _ _ _ (Ad _ e);have hns₁:(Ky (s1.heap.push {cls:= .type "dict",data:= .dict #[]}) scope.names).Ns s1.heap.objs.size (fun _=>none):=(Sh s1.heap (.type "dict")).keeps fun b o e=>Jv _ _ _ _ e;have okc:=cellsFrom_ok scope.names (s1.heap.push {cls:= .type "dict",data:= .dict #[]}) (s1.heap.objs.size+1) [] ⟨fun _ _ hm=>(nomatch hm),Kv⟩ (by rw[Cv];exact Ah _);rw[Cv] at okc;generalize hz1:Ky (s1.heap.push {cls:= .type "dict",data:= .dict #[]}) scope.names=h₁ at old hns₁ okc;rw[UR];generalize hnc:cellsFrom (s1.heap.objs.size+1) scope.names []=nc at okc;have ncm: ∀x c,nc.lookup x=some c->(x,Bz)∈scope.names/\h₁.IsCell c none/\s1.heap.objs.size+1<=c:=fun x c e=>by
  have hm:=Br e;exact⟨KS (n:=s1.heap.objs.size+1) (by rw[hnc];exact hm),okc.empty x c hm⟩
 have nch: ∀x,(x,Bz)∈scope.names-> ∃c,nc.lookup x=some c:=fun x h=>by
  obtain⟨c,hc⟩:=KR (n:=s1.heap.objs.size+1) h;rw[hnc] at hc;exact TF hc
 have di: ∀b∈fp,b<s2.heap.objs.size:=fun b hb=>by
  obtain⟨o,e,_⟩:=T.obj _ _ st2 b hb;exact An e
 have fm:s1.heap.objs.size=s2.heap.objs.size+1:=by rw[<- bu,Cv]
 have i7: ∀b o,s2.heap.get? b=some o->s1.heap.get? b=some o:=fun b o e=>by rw[<- bu];exact Ad _ e
 have bz: ∀x c,cl.lookup x=some c->c<s1.heap.objs.size:=fun x c e=>by
  obtain⟨v,q⟩:=I1.cell x c (bm x c e);exact q.lt
 have m8: ∀b∈DG X.stack,b<s1.heap.objs.size:=fun b hb=>by
  obtain⟨_,o,ho,_⟩:=(I1.stack).mem hb;exact An ho
 have okY:(b6 X N' scope (nc++cl) s1 (bN H2 s2.heap.objs.size (.dK [])) fp).Ok:=by
  refine⟨I1.ok.mod,S.kind,I1.ok.glob,I1.ok.blt,Ah _,fun x y c e1 e2=> ?_,fun x hx=> ?_,fun x c hf e=> ?_,I1.ok.hd,I1.ok.frames,.inl rfl,fun b hb=>⟨?_,fun x c e=> ?_⟩,fun b o e=> ?_,
   Cb I1.ok.bsz I1.sz,fun b o e hb=> ?_,fun b hb hb2=> ?_,I1.stack,I1.stkFree⟩
  ·rcases bE e1 with n1|⟨_,o1⟩
   ·rcases bE e2 with n2|⟨_,o2⟩
    ·exact Nz okc.apart (Br n1) (Br n2)
    ·exact absurd (Ax (bz y c o2) (Eo (ncm x c n1).2.2)) (Cd _)
   ·rcases bE e2 with n2|⟨_,o2⟩
    ·exact absurd (Ax (bz x c o1) (Eo (ncm y c n2).2.2)) (Cd _)
    ·exact I1.ok.inj x y c (bm x c o1) (bm y c o2)
  ·cases q:nc.lookup x with
   |some c=>exact⟨c,X8 q⟩
   |none=>
    rcases XV hx with h|h
    ·obtain⟨c,hc⟩:=g0 x h
     exact⟨c,(XF q).trans hc⟩
    ·obtain⟨c,hc⟩:=nch x h
     rw[q] at hc;cases hc
  ·have hx:(x,Bz)∈scope.names:=Br (beq_iff_eq.mp hf)
   obtain⟨c',hc'⟩:=nch x hx;have:=X8 (m:=cl) hc';have e:(nc++cl).lookup x=some c:=e;rw[this] at e;cases e;exact Eo (ncm x c hc').2.2
  ·exact Be (Ax (di b hb) (by show s2.heap.objs.size<=s1.heap.objs.size;rw[fm];exact Fa _))
  ·rcases bE e with n1|⟨_,o1⟩
   ·have h1:=di b hb
    have h2:=(ncm x c n1).2.2;rw[fm] at h2;exact fun z=>absurd (z▸h2) (Ps (Ax h1 (Cb (Fa _) (Fa _))))
   ·exact(f2 b hb).2.2.2.2.1 x c (bm x c o1)
  ·exact I1.bs b o e
  ·have:=(f2 b hb)
   obtain⟨o',e',_⟩:=T.obj _ _ st2 b hb;have hlt:=Ax (An e) I1.ok.bsz;rcases this.2.2.2.1 with z|z
   ·exact I1.ok.noex b o e z
   ·exact absurd (Ax hlt z) (Cd _)
  ·rcases Ai.mp (I1.stkSub b hb2) with z|z
   ·exact(f2 b hb).2.1 z
   ·exact(f2 b hb).2.2.1 z
 have d7:(aV ix σ++Bd nl none).length=N'.length:=by rw[Cf,Iu,hnl];simp[aV]
 have IY:cT (b6 X N' scope (nc++cl) s1 (bN H2 s2.heap.objs.size (.dK [])) fp) [] (aV ix σ++Bd nl none) (bN H2 s2.heap.objs.size (.dK [])) {s2 with heap:=h₁}:=by
  refine⟨okY,?_,I2.bare,Un.kept old,⟨_,hns₁,fun j x v e1 e2 e3=> ?_⟩,fun x c e=> ?_,I1.hok.fresh (Ah _),fun x c e=> ?_,fun p hp=>absurd (show p∈([]:List (Addr×Obj)) from hp) (by simp),I1.hok.kept old,d7⟩
  ·show s2.os=s1.os
   rw[<- hs1]
  ·have hj:j<ix.length:=by
    by_cases hj:j<ix.length
    ·exact hj
    ·exfalso
     have hl:(aV ix σ).length=ix.length:=by simp[aV]
     rw[Bw (by rw[hl];lia),Cy] at e2;split at e2<;>cases e2
   have hl:(aV ix σ).length=ix.length:=by simp[aV]
   rw[Am (by rw[hl];exact hj)] at e2;have hci:=S.cap j hj;obtain⟨i,hi⟩: ∃i,ix[j]? =some i:=⟨ix[j],by simp[hj]⟩;rw[hi] at hci;have hNi:X.N[i]? =some x:=by
    have:N'[j]? =X.N[i]? :=hci;rw[<- this];exact e1
   have hσ:σ[i]? =some (some v):=by
    unfold aV at e2;rw[Co,hi] at e2;have e2':(σ[i]?).join=some v:=by simpa using e2
    cases q:σ[i]? with
    |none=>rw[q] at e2';cases e2'
    |some o=>rw[q] at e2';rw[show o=some v from e2']
   have hfl:scope.names.lookup x=some .free:=S.capf x (by
    rw[Iy];exact⟨j,by rw[Ce hj];exact e1⟩)
   have az:(x,Bp)∈scope.names:=Br hfl;have hpk:X.env.kindOf x=some .cell∨X.env.kindOf x=some .free:=by exact S.free (x,.free) az rfl
   have ig:Vis X.env.scope x:=by
    rcases hpk with z|z
    ·exact .inr (.inl z)
    ·exact .inr (.inr z)
   obtain⟨m,hn,ij⟩:=I1.loc;obtain⟨u,ru,l⟩:=ij i x v hNi hσ ig;refine⟨u,ru,?_⟩;rcases l with⟨hk,_⟩|⟨hk,c,ec,z⟩
   ·rcases hpk with q|q<;>rw[hk] at q<;>cases q
   ·obtain⟨c',hc'⟩:=g0 x az
    have:c'=c:=by
     have:=bm x c' hc';rw[ec] at this;exact(Ck this).symm
    subst this;have ii:nc.lookup x=none:=by
     cases q:nc.lookup x with
     |none=>rfl
     |some d=>
      have:=S.cel (x,.cell) (ncm x d q).1 rfl;rw[hfl] at this;cases this
    refine .inr ⟨V6 hfl,c',(XF ii).trans hc',?_⟩
    ·obtain⟨o,ho,hd⟩:=z
     exact⟨o,old _ _ ho,hd⟩
  ·rcases bE e with n1|⟨_,o1⟩
   ·exact⟨none,(ncm x c n1).2.1⟩
   ·obtain⟨v,o,ho,hd⟩:=I1.cell x c (bm x c o1)
    exact⟨v,o,old _ _ ho,hd⟩
  ·rcases bE e with n1|⟨_,o1⟩
   ·exact I1.hok.fresh (Eo (ncm x c n1).2.2)
   ·exact I1.freeC x c (bm x c o1)
 have il: ∀{pY:List (Addr×Obj)} {σ':St} {H':Hp} {s':Af},cT (b6 X N' scope (nc++cl) s1 (bN H2 s2.heap.objs.size (.dK [])) fp) pY σ' H' s'->cT X aa σ H' s':=fun{pY σ' H' s'} J'=>
  I1.call' J'.os J'.base J'.hok J'.bare fun b hb=>⟨(f2 b hb).2.2.2.1,(f2 b hb).2.1,(f2 b hb).2.2.2.2.1,(f2 b hb).2.2.2.2.2⟩
 have stat: ∀{H':Hp} {pY:List (Addr×Obj)},(∀b∈fp,H' b=none)->pY=[]-> ∀b∈fp,PN (b6 X N' scope (nc++cl) s1 (bN H2 s2.heap.objs.size (.dK [])) fp) pY H' b:=fun{H' pY} hn hp b hb=>by
  subst hp;refine⟨hn b hb,(okY.exf b hb).1,okY.exfs b hb,.inl hb,(okY.exf b hb).2,fun p hp=>absurd (show p∈([]:List (Addr×Obj)) from hp) (by simp)⟩
 have st1:tn 0 h₁:=T.keep 0 s2.heap h₁ st2 fun b hb o e=>old b o (i7 b o e);have fr1: ∀b∈fp,(bN H2 s2.heap.objs.size (.dK [])) b=none:=fun b hb=>by
  rw[cH (Be (di b hb))];exact(f2 b hb).1
 have loop: ∀s₃:Af,s₃={s2 with heap:=h₁}→
   Jn (model X.prog X.w) X.A (.compLoop (.DictComp kx vx [⟨tg,iter,ifs,0⟩] scope pos) 0 (.ref it) (.ref s2.heap.objs.size) (Py scope (nc++cl) s1.heap.objs.size X.env)) (RR (.ref s2.heap.objs.size) s1.heap.objs.size) s₃:=by
  rintro s₃ rfl;refine GU (fun n s'=> ∃i σ' H' acc,cT (b6 X N' scope (nc++cl) s1 (bN H2 s2.heap.objs.size (.dK [])) fp) [] σ' H' s'/\σ'.take ix.length=aV ix σ/\tn i s'.heap/\(∀b∈fp,H' b=none)/\W i n acc H') ?_ m0
   ⟨0,_,_,[],IY,by rw[Dd (by simp[aV])];exact Cn (by simp[aV]),st1,fr1,w0⟩
  rintro n s' ⟨i,σ',H',acc,J',hσ,st',fr',w'⟩;have Jc:cT (b6 X N' scope (nc++cl) s1 (bN H2 s2.heap.objs.size (.dK [])) fp) [] (aV ix σ++Bd nl none) H' s':=by
   refine J'.weak (by rw[d7];exact J'.len.symm) fun j v e=> ?_;have hl:(aV ix σ).length=ix.length:=by simp[aV]
   by_cases hj:j<ix.length
   ·rw [Am (by rw [hl];exact hj),<- hσ,Ce hj] at e
    exact e
   ·rw [Bw (by rw [hl];lia),Cy] at e
    split at e<;>cases e
  rcases turn i n acc H' w' with⟨stop,q⟩|⟨go,N,hN,step⟩
  ·refine Bm (T.done (b6 X N' scope (nc ++ cl) s1 (bN H2 s2.heap.objs.size (.dK [])) fp) rfl rfl rfl hc i [] s' _ H' (fun _ _ => False) Jc (stat fr' rfl) st' stop) (fun r s4 ⟨hr,I4⟩ => ?_) fun _ _ z => z
   subst hr;have IX:=il I4;obtain⟨m,hm,_⟩:=I4.loc;exact fin _ _ s4 H' IX ⟨m,hm⟩ (Gw I1.lt) (fun x c e z=>by
    obtain⟨v,q⟩:=I1.cell x c e;have:=q.lt;rw[z] at this;exact Cd _ this) (fun σ'' s'' h'' I'' sb=>cT.offNew I1 I'' I4.free fun b o hb e=>(sb.2 b hb).trans e) q
  ·refine Bm (T.item (b6 X N' scope (nc ++ cl) s1 (bN H2 s2.heap.objs.size (.dK [])) fp) rfl rfl rfl hc i [] s' _ H' (fun _ _ => False) Jc (stat fr' rfl) st' go) (fun r s4 ⟨u,hr,h4⟩ => ?_) fun _ _ z => z
   subst hr;refine Bm h4 (fun _ s5 ⟨x,H5,I5,r5,y5,st5,fr5⟩=> ?_) fun _ _ z=>z;have I5':=I5.pinned (stat fr5 rfl) (T.obj _ _ st5);obtain⟨btg,bts,bke,bve⟩:=blk (nc++cl) s1 (bN H2 s2.heap.objs.size (.dK [])) fp;refine Bm (btg _ s5 _ H5 x u _ I5' r5 (step x H5 y5)) (fun _ s6 ⟨σ6,H6,I6,hσ6,q6⟩=> ?_) fun _ _ z=>z;have again: ∀{H7:Hp} {s7:Af} {ao:List (bV×V)},cT (b6 X N' scope (nc++cl) s1 (bN H2 s2.heap.objs.size (.dK [])) fp) ([]++Q2 fp s5.heap) σ6 H7 s7->N ao H7→
     ∃m,m<n/\ ∃i σ' H' acc,cT (b6 X N' scope (nc++cl) s1 (bN H2 s2.heap.objs.size (.dK [])) fp) [] σ' H' s7/\σ'.take ix.length=aV ix σ/\tn i s7.heap/\(∀b∈fp,H' b=none)/\W i m acc H':=fun{H7 s7 ao} I7 n7=>by
    obtain⟨m',hm,w7⟩:=hN ao H7 n7;refine⟨m',hm,i+1,σ6,H7,ao,I7.unpinned,hσ6,T.keep _ _ _ st5 fun b hb o e=>(I7.pin (b,o) (Bf _ (Bf _ (YI hb e)))).1,fun b hb=> ?_,w7⟩;obtain⟨o,e,d⟩:=T.obj _ _ st5 b hb;exact(I7.pin (b,o) (Bf _ (Bf _ (YI hb e)))).2.1
   refine Bm (bts _ s6 σ6 H6 _ I6 q6) (fun okb s7 ⟨H7,I7,q7⟩=> ?_) fun _ _ z=>z;cases okb with
   |false=>exact again I7 q7
   |true=>
    refine Bm (bke _ s7 σ6 H7 _ I7 q7) (fun kv s8 ⟨y,H8,I8,r8,q8⟩=> ?_) fun _ _ z=>z;refine Bm (bve _ s8 σ6 H8 _ I8 q8) (fun v s9 ⟨w,H9,I9,r9,k,ey,hD9,hz9,n9⟩=> ?_) fun _ _ z=>z;subst ey;exact C7 (X:=b6 X N' scope (nc++cl) s1 (bN H2 s2.heap.objs.size (.dK [])) fp) I9 hD9 r8 r9 hz9 fun s' I'=>again I' n9
 have he:({newEnv scope s1.heap.objs.size X.env.globals (nc++cl) X.env.qual none .none (some X.env) builtinsNs with scope:=relabel scope X.env}:Env)=Py scope (nc++cl) s1.heap.objs.size X.env:=rfl;exact codeAny_compStart_dict (loop _ rfl) (T.self _ 0 _ _ _ st1 (loop _ rfl))
theorem AB{X:Cx}{tg iter kx vx:Expr}{ifs:List Expr}{scope:Scope}{pos:Pos}{N':List Str}{ix:List Nat}{nl:Nat}{wi:TI}{g:TG}{tt:TT}{tk tv:TE}
  (hc:X.calm=true) (S:T4 X N' ix scope) (hnl:N'.length=ix.length+nl) (hi:PI X tg iter wi)
  (blk: ∀(cl:List (Str×Addr)) (s1:Af) (H1:Hp) (fp:List Addr),BlkD (b6 X N' scope cl s1 H1 fp) tg ifs kx vx g tt tk tv)
  (hs: ∀x,foldedSetIterable iter X.env x=pure x:=by intro _;rfl):PE X (.DictComp kx vx [⟨tg,iter,ifs,0⟩] scope pos) (fun σ H Q=>wi σ H fun J H0=> ∀D,H0 D=none->GD D ix nl J g tt tk tv σ H0 fun H'=>Q (.ref D) H'):=by
 intro aa s σ H Q I h;show wpAny _ X.A (comprehension (.DictComp kx vx [⟨tg,iter,ifs,0⟩] scope pos) scope X.env _ newDict false (eval iter X.env)) _ _ s;obtain⟨cl,e1,e2,e3⟩:=KW (env:=X.env) (scope:=scope) fun y hy hf=>I.ok.has y.1 (S.free y hy hf);refine Hm (use:=none) (cl:=cl) rfl hs e1 S.kind S.names (Bm (hi aa s σ H _ I h) (fun xv s₁ h₁=>Bm h₁ (fun itv s₂ h₂=> ?_) fun _ _ e=>e) fun _ _ e=>e);obtain⟨it,fp,tn,J,H2,e,I2,T,st2,f2,q⟩:=h₂;subst e;refine GS (Q:=Q) (RR:=fun acc C=>compPost (model X.prog X.w) X.A X.xe none (EP X aa σ Q) acc C) hc S hnl e2 e3 blk I2 T st2 f2 q ?_;intro D C s' H' I' hm hC1 hC2 hb hq;obtain⟨m,hm⟩:=hm;exact⟨m,hm,fun h'' sb=>⟨.ref D,H',hb σ s' h'' I' sb,rfl,hq⟩⟩
section
variable{X:Cx}{K:Ar}{ml:List Nat}{e a b c:Expr}{pi pt pk pv:Bool}{B:Bs}{O:Nat->Option Addr}{H:Hp}{σ:St}{δ δ':Ev}{pos:Pos}{ix:List Nat}{nl:Nat}
noncomputable def scB:dF->Bool
 | .int _=>true
 | .bl _=>true
 |_=>false
theorem zET{N0 M0:Addr->Prop}{H0:Hp}{v:V}{d:dF}(h:bR K N0 H0 M0 v d)(hs:scB d=true){N M:Addr->Prop}{H:Hp}:bR K N H M v d:=by
 cases d with
 |int i=>cases h;exact .int i
 |bl i=>cases h;exact .bl i
 |_=>cases hs
noncomputable def XY(nn nl:Nat)(gg:VG)(tb:VB)(fk fv:VF):List dF->List bV->List dF->Ev->Option ((List bV×List dF)×Ev)
 |[],ks,ws,δ=>some ((ks,ws),δ)
 | d :: ds,ks,ws,δ => (gg d (δ ++ OC nl)).bind fun δ1 => (tb δ1).bind fun p => if p.1 = true then (fk p.2).bind fun q => (fv q.2).bind fun r => (XU q.1).bind fun k =>
   if scB r.1=true/\ks.length<16777216/\ks.Nodup then XY nn nl gg tb fk fv ds (bB ks ws k r.1).1 (bB ks ws k r.1).2 (r.2.take nn) else none
  else XY nn nl gg tb fk fv ds ks ws (p.2.take nn)
noncomputable def WV(ix:List Nat)(nl:Nat)(fi:VI)(gg:VG)(tb:VB)(fk fv:VF):VF:=fun δ=>(fi δ).bind fun p=>(XY ix.length nl gg tb fk fv p.1 [] [] (bX ix p.2)).map fun q=>(.dct q.1.1 q.1.2,ZX ix q.2 p.2)
theorem bA.writeD{D:Addr}{o:HO}{acc:List (bV×V)}(S:bA K ml B O H σ δ)(hD:B.Z D)(hl:H D=some (.dK acc))(h0:B.H0 D=none):bA K ml B O (bN H D o) σ δ:=by
 have hf:Fr (fun b=>b=D) H (bN H D o):=fun b u q n=>by
  by_cases hb:b=D
  ·subst hb
   rw[hl] at q;cases q;exact absurd (n rfl) fun z=>z
  ·rw[cH hb]
   exact q
 have hN: ∀b,b=D->Nn B O b:=fun b z=> .inl (z▸hD);have hin: ∀b,(∃u,H b=some u)-> ∃u,bN H D o b=some u:=fun b q0=>by
  obtain⟨u,q⟩:=q0;by_cases hb:b=D
  ·exact⟨o,by rw[hb];exact cS⟩
  ·exact⟨u,by rw[cH hb];exact q⟩
 refine⟨S.len,fun i d q=> ?_,fun i d q=> ?_,S.dom,S.inj,S.old,fun b h=>hin b (S.zin b h),fun b u q n=> ?_,S.par,fun b h=>hin b (S.pin b h),fun p hp=>(S.kep p hp).fr hf hN hN⟩
 ·obtain⟨v,e,r⟩:=S.va i d q
  exact⟨v,e,r.fr hf hN hN⟩
 ·obtain⟨a,e,e2,w⟩:=S.ow i d q
  exact⟨a,e,e2,w.fr hf hN fun z=>(S.old i a e).1 (z▸hD)⟩
 ·have hb : b ≠ D := fun z => by rw [z,h0] at q;cases q
  rw[cH hb];exact S.frm b u q n
theorem BS{fi:VI}{gg:VG}{tb:VB}{fk fv:VF}(hnd:ix.Nodup){Q:VK}(h:TN K ml (pi && pt && (pk && pv)) (WV ix nl fi gg tb fk fv) σ H Q):
  CI K ml pi fi σ H fun J H0=> ∀D,H0 D=none->GD D ix nl J (TGV K (Az ix.length) gg) (TB K (Az ix.length) pt tb) (TV K (Az ix.length) pk true true fk) (TV K (Az ix.length) pv true true fv) σ H0 fun H'=>Q (.ref D) H':=by
 obtain⟨B,O,δ,d,δ2,S,q,k⟩:=h;unfold WV at q;obtain⟨⟨ds,δ1⟩,h1,q⟩:=Aa.mp q;have q:((XY ix.length nl gg tb fk fv ds [] [] (bX ix δ1)).map fun q=>(dF.dct q.1.1 q.1.2,ZX ix q.2 δ1))=some (d,δ2):=q;obtain⟨⟨res,δf⟩,h2,q⟩:=Ao.mp q;cases q;refine⟨B,O,δ,ds,δ1,S,h1,fun J kps H0 S0 f0 p0 wk D hD=> ?_⟩;have hDO: ∀j,Oc ix O j≠some D:=fun j e=>by
  unfold Oc at e;obtain⟨i,hi,e⟩:=Aa.mp e;obtain⟨o,q⟩:=S0.nin (.inr ⟨i,e⟩);rw[hD] at q;cases q
 have cy: ∀kp j,ix.length<=j->(Bc ix B O H0 D kp).mu j=none:=fun kp j hj=>by
  show(ix[j]?).bind O=none;rw[Bv hj];rfl
 refine⟨fun i m acc H1=>m=ds.length - i/\i<=ds.length/\ ∃(ws:List dF) (δc:Ev),δc.length=ix.length/\(∀(N:Addr->Prop) (H:Hp),cO K N H (acc.map Cj) ws)∧
   bA K (Az ix.length) (Bc ix B O H0 D kps) (Oc ix O) H1 (aV ix σ++Bd nl none) (δc++OC nl)/\H1 D=some (.dK acc)/\((pt && (pk && pv))=true->bI H0 H1)∧
   XY ix.length nl gg tb fk fv (ds.drop i) (acc.map Bg) ws δc=some (res,δf),
  ⟨ds.length,rfl,Di _,[],bX ix δ1,by simp [bX],fun _ _ => .nil,by
   have e:bN H0 D (.dK [])=bN (bN H0 D (.lst [])) D (.dK []):=by
    funext b;by_cases hb:b=D
    ·rw[hb,cS,cS]
    ·rw[cH hb,cH hb,cH hb]
   rw[e];exact(S0.unkeep.inner hD hnd fun p hp=>S0.kep p (Cg _ hp)).writeZ (.inl (.inr rfl)) cS hD,cS,fun _=>c8 hD,h2⟩,?_⟩
 rintro i m acc H1 ⟨rfl,hi,ws,δc,hlc,aw,S1,hD1,bp,hc⟩;have w:=wk (Nn (Bc ix B O H0 D kps) (Oc ix O)) H1 fun p hp=>S1.kep p hp;by_cases hlt:i<ds.length
 ·obtain ⟨go,yl⟩ := w.1 i ds[i] (by simp [hlt])
  rw[De hlt] at hc;simp only[XY] at hc;obtain⟨δ3,g1,hc⟩:=Aa.mp hc;obtain⟨⟨kk,δ4⟩,g2,hc⟩:=Aa.mp hc;refine .inr ⟨go,fun ao H'=> ∃(ws:List dF) (δc:Ev),δc.length=ix.length/\(∀(N:Addr->Prop) (H:Hp),cO K N H (ao.map Cj) ws)∧
   bA K (Az ix.length) (Bc ix B O H0 D kps) (Oc ix O) H' (aV ix σ++Bd nl none) (δc++OC nl)/\H' D=some (.dK ao)/\((pt && (pk && pv))=true->bI H0 H')∧
   XY ix.length nl gg tb fk fv (ds.drop (i+1)) (ao.map Bg) ws δc=some (res,δf),fun ao H' w'=>⟨ds.length - (i+1),by lia,rfl,hlt,w'⟩,fun x H2 hy=> ?_⟩
  obtain⟨sm,rx⟩:=yl x H2 hy;refine⟨_,_,_,ds[i],δ3,S1.same sm,rx,g1,fun σ3 O3 S3 m3=> ?_⟩;have ln3:=KQ m3;have hσ3:=Q8 ln3 m3;refine⟨hσ3,_,_,δ3,kk,δ4,S3,g2,fun H4 R4=> ?_⟩;have hD4:H4 D=some (.dK acc):=R4.frm _ _ (sm _ _ hD1) fun z=>by
   obtain⟨j,e⟩:=z;have:=(R4.sta.old j D e).1;exact absurd (.inl (.inr rfl)) this
  have ln4:ix.length<=δ4.length:=by rw[<- R4.sta.len];exact ln3
  cases kk with
  |false=>
   rw[if_neg Dt] at hc;refine NC ⟨ws,δ4.take ix.length,by rw[Bu];lia,aw,R4.sta.turn (cy _) (YQ ix σ) hσ3 ln4,hD4,fun z=> ?_,hc⟩;exact((bp z).trans sm).trans (R4.pur ((Ae _ _).mp z).1)
  |true=>
   rw[if_pos rfl] at hc;obtain⟨⟨dk,δ5⟩,g3,hc⟩:=Aa.mp hc;obtain⟨⟨dv,δ6⟩,g4,hc⟩:=Aa.mp hc;obtain⟨k1,g5,hc⟩:=Aa.mp hc;split at hc
   ·rename_i hz
    refine ND ⟨_,_,δ4,dk,δ5,R4.sta,g3,fun y H5 R5=>⟨_,_,δ5,dv,δ6,R5.sta,g4,fun v H6 R6=> ?_⟩⟩;have hD5:H5 D=some (.dK acc):=R5.frm _ _ hD4 fun z=>by
     obtain⟨j,e⟩:=z;have:=(R5.sta.old j D e).1;exact absurd (.inl (.inr rfl)) this
    have hD6:H6 D=some (.dK acc):=R6.frm _ _ hD5 fun z=>by
     obtain⟨j,e⟩:=z;have:=(R6.sta.old j D e).1;exact absurd (.inl (.inr rfl)) this
    have ln6:ix.length<=δ6.length:=by rw[<- R6.sta.len];exact ln3
    have S6:=R6.sta.turn (nl:=nl) (cy _) (YQ ix σ) hσ3 ln6;have hp:=fun N H=>UH (k:=k1) (zET R6.rep hz.1 (N:=N) (H:=H) (M:=N)) hz.2.2 (aw N H);refine⟨k1,R5.rep.key g5,hD6,by rw[<- Bt (f:=Bg),Cm];exact hz.2.1,_,δ6.take ix.length,by rw[Bu];lia,fun N H=>(hp N H).2,S6.writeD (.inl (.inr rfl)) hD6 hD,cS,fun z=> ?_,by rw[(hp (fun _=>True) H6).1];exact hc⟩;intro b o e;have hb:b≠D:=fun z=>by rw[z,hD] at e;cases e
    rw[cH hb];have z0:=z;simp only[Ae] at z;exact(((bp z0).trans sm).trans ((R4.pur z.1).trans ((R5.pur z.2.1).trans (R6.pur z.2.2)))) b o e
   ·cases hc
 ·have e : i = ds.length := by lia
  subst e;rw[Dw] at hc;cases hc;refine .inl ⟨w.2,k D H1 ?_⟩;have fP:Fr (OA (Oc ix O)) H0 H1:=S1.frm;have hPO: ∀a,OA (Oc ix O) a->OA O a:=fun a q0=>by
   obtain⟨j,e⟩:=q0;unfold Oc at e;cases hi:ix[j]? with
   |none=>rw[hi] at e;cases e
   |some i=>rw[hi] at e;exact⟨i,e⟩
  have SL:=S0.unkeep.laid (o:= .dK acc) hD;have fL:Fr (OA (Oc ix O)) (bN H0 D (.dK acc)) H1:=fun b o e n=>by
   by_cases hb:b=D
   ·subst hb
    rw[cS] at e;cases e;exact hD1
   ·rw[cH hb] at e
    exact fP b o e n
  refine⟨SL.call (YF) (fun i=> ?_) fL hPO,f0.trans (fP.mono hPO),fun z=> ?_,.dct hD1 (aw _ _),S0.unkeep.new hD,S0.fresh hD⟩
  ·by_cases cz:i<δ1.length
   ·rcases XN (ix:=ix) (ss:=δf) (δ:=δ1) i cz hlc.symm with⟨j,x,e1,e2,e3⟩|⟨e1,e2⟩
    ·have e4:(δf++OC nl)[j]? =some (.ow x):=by
      rw[Am (Ag.mp e2).1];exact e2
     obtain⟨a,e5,_,w⟩:=S1.ow j x e4;refine .inr ⟨a,x,?_,e3,w.mono TK⟩;unfold Oc at e5;rw[e1] at e5;exact e5
    ·refine .inl ⟨e2,fun a ea ⟨j,ej⟩ => ?_⟩
     obtain⟨x,ex⟩:=S1.dom j a ej;unfold Oc at ej;cases hi:ix[j]? with
     |none=>rw[hi] at ej;cases ej
     |some i'=>
      rw[hi] at ej;have:i=i':=S0.inj i i' a ea ej;subst this;have hj:j<δf.length:=by rw[hlc];exact(Ag.mp hi).1
      rw[Am hj] at ex;exact e1 j x hi ex
   ·refine .inl ⟨?_,fun a ea => ?_⟩
    ·rw[Bv (by rw[YF];lia),Bv (by lia)]
    ·obtain⟨x,ex⟩:=S0.dom i a ea
     exact absurd (Ag.mp ex).1 cz
  ·simp only[Ae] at z
   exact(p0 z.1.1).trans (bp (by simp[z.1.2,z.2]))
abbrev BlkE(X:Cx)(K:Ar)(N':List Str)(ix:List Nat)(scope:Scope)(tg:Expr)(ifs:List Expr)(kx vx:Expr)(gg:VG)(pt:Bool)(tb:VB)(pk:Bool)(fk:VF)(pv:Bool)(fv:VF):Prop:=N'.Nodup-> ∀(cl:List (Str×Addr)) (s1:Af) (H1:Hp) (fp:List Addr),BlkD (b6 X N' scope cl s1 H1 fp) tg ifs kx vx (TGV K (Az ix.length) gg) (TB K (Az ix.length) pt tb) (TV K (Az ix.length) pk true true fk) (TV K (Az ix.length) pv true true fv)
theorem J4{tg iter kx vx:Expr}{ifs:List Expr}{scope:Scope}{fi:VI}{gg:VG}{tb:VB}{fk fv:VF}(N':List Str)(ix:List Nat)(nl:Nat)(hi:PI X tg iter (CI K ml pi fi))(blk:BlkE X K N' ix scope tg ifs kx vx gg pt tb pk fk pv fv)(hc:X.calm=true:=by rfl)(hk:scope.kind= .function:=by rfl)(hok:QO X.N N' ix scope.names X.env.kindOf=true:=by rfl)(hnl:N'.length=ix.length+nl:=by rfl)(hnd:ix.Nodup:=by decide)
  (hs: ∀x,foldedSetIterable iter X.env x=pure x:=by intro _;rfl):PE X (.DictComp kx vx [⟨tg,iter,ifs,0⟩] scope pos) (TN K ml (pi && pt && (pk && pv)) (WV ix nl fi gg tb fk fv)):=
 (AB hc (Y3 hk hok) hnl hi (blk (Y3 hk hok).nd) hs).imp fun _ _ _ h=>BS hnd h
end
end L2
namespace L2
open PySem PySem.Spec PyProof.Rows PySem.W
section
variable{prog:Bq}{w:World}{A:Cz}{E:Value->Af->Prop}{s:Af}
theorem MD: ∀{kvs:List (bV×Value)} {ns:List Int} {vs:List Value},kvs.map Bg=ns.map Ig->vs.length=kvs.length->(∀(j:Nat) (v:Value),vs[j]? =some v-> ∃k x,kvs[j]? =some (k,x)/\N6 k v=true)->Lg vs ns
 |[],[],[],_,_,_=> .nil
 |[],_::_,_,h,_,_=>by cases h
 |_::_,[],_,h,_,_=>by cases h
 |[],[],_::_,_,h,_=>by cases h
 |_::_,_::_,[],_,h,_=>by cases h
 | kv :: kvs,n :: ns,v :: vs,h,hl,hv => by
  simp only[Aq,Hw] at h;obtain⟨k,x,e,hk⟩:=hv 0 v rfl;cases e;have h1:=h.1;rcases aT hk with⟨i,t,e1,e2⟩|⟨y,t,e1,e2⟩
  ·rw[e1] at h1
   cases h1;subst e2;exact .cons _ _ (MD h.2 (by simpa using hl) fun j v e=>hv (j+1) v e)
  ·rw[e1] at h1
   cases h1
theorem D6{d:Addr}{kvs:List (bV×Value)}{ns:List Int}{Q:Value->Af->Prop}(hh:A.handled=none)(lo:(d==Fi)=false)(hd:s.heap.DictOf (bQ prog w) d kvs)(hk:kvs.map Bg=ns.map Ig)(h64:ns.length<64)
  (h: ∀(h' h2:Heap) (tk:Nat) (out:Array Value) (e:Nat) (ms:List Int),(∀b o,s.heap.get? b=some o->h'.get? b=some o)->(∀b o,h'.get? b=some o->h2.get? b=some o)->h2.get? h'.objs.size=some (Gu "list" out e)->Lg out.toList ms->ms.Perm ns->ms.Pairwise (· <= ·)->Q (.ref h'.objs.size) {s with heap:=h2,toks:=tk}):
  wpAny (model prog w) A (call (.builtin "sorted") [.ref d]) Q E s:=by
 obtain⟨ep,hat⟩:=hd.dictAt;have af:kvs.length=ns.length:=by have:=congrArg List.length hk;simpa using this
 refine Ko kind_sorted plain_sorted entry_sorted (args_sorted1 _) ?_;unfold Kl.«sorted»;refine Ac (m:=checkCount "sorted" 1 1 _) (Ak ?_);refine Ac (kdu_collect (A:=A.in1) (kdl_dict (knd:=bQ prog w) (kvs:=kvs) (ep:=ep) lo) hh hat (by rw[Cm];lia) fun h' tk acc hkp aw=> ?_);have hl:acc.toList.length=kvs.length:=by rw[Dx];exact aw.1
 have hI:Lg acc.toList ns:=MD hk hl fun j v e=>aw.2 j v (by rw[<- Mm];exact e);refine Ac (Od ?_ (by rw[hl,Cm];lia));have hoL:(h'.push (Gu "list" acc.toList.toArray 0)).get? h'.objs.size=some (Gu "list" acc.toList.toArray 0):=As _ rfl;show wpAny _ _ _ _ _ {s with heap:=h'.push (Gu "list" acc.toList.toArray 0),toks:=tk};refine Ac (Ci (Dn slot_list_sort ⟨_,hoL,rfl⟩ entry_list_sort (list_sort_tree hoL hI (by rw[hl];lia) fun out ms a1 a2 a3=>⟨_,rfl,?_⟩) (args_list_sort _)));obtain⟨e,he⟩:=sortedHeap_at (out:=out) hoL;refine Ak ⟨_,rfl,h h' _ tk out e ms hkp (fun b o q=> ?_) he a1 a2 a3⟩;have hlt:=An q;rw[sortedHeap_old (Be hlt) (by rw[Cv];lia)];exact Ad _ q
end
section
variable{X:Cx}{K:Ar}
def zF2:RC:=fun xs H Q=> ∃(p:Addr) (kvs:List (bV×V)) (ns:List Int),xs=[.ref p]/\H p=some (.dK kvs)/\kvs.map Bg=ns.map Ig/\ns.length<64∧
 ∀(l:Addr) (ms:List Int),H l=none->ms.Perm ns->ms.Pairwise (· <= ·)->Q (.ref l) (bN H l (.lst (ms.map V.int)))
theorem zAO: ∀{kvs:List (bV×V)} {vs:List (bV×Value)},KV kvs vs->vs.map Bg=kvs.map Bg
 |_,_,.nil=>rfl
 |_,_,.cons h t=>by rw[Aq,Aq,zAO t,h.1]
theorem zGW(hc:X.calm=true):aX X (.builtin "sorted") zF2:=by
 intro aa s σ H xs us Q I r h;obtain⟨p,kvs,ns,rfl,e,hk,h64,q⟩:=h;obtain⟨u,rfl,rx⟩:=VN r;cases rx;obtain⟨z,hd,vs,rel,dd⟩:=ES I.hok e;refine D6 (I.ok.hd hc) hd dd (by rw[zAO rel];exact hk) h64 fun h' h2 tk out e2 ms k1 k2 he a1 a2 a3=> ?_;have I1:cT X aa σ H {s with heap:=h',toks:=tk}:=I.un (Un.kept k1) (I.hok.kept k1);have hn:H h'.objs.size=none:=I1.hok.fresh (Ah _);refine⟨.ref h'.objs.size,_,I1.laid (a:=h'.objs.size) (o:= .lst (ms.map V.int)) (t':=tk) k2 (Ah _) ?_,rfl,q _ ms hn a2 a3⟩;have hml:=a2.length_eq;exact⟨by rw[Bt,Cm];lia,out.toList,e2,V7 a1,by rw[he]⟩
end
end L2
namespace L2
open PySem PySem.Spec PyProof.Rows
section
variable{X:Cx}{K:Ar}{ml:List Nat}{e a b c o:Expr}{pi pt pk pv pu ta ia:Bool}{pos:Pos}{ix:List Nat}{nl:Nat}{aa:List (Addr×Obj)}{σ:St}{H:Hp}{s:Af}{δ δ':Ev}
theorem zB9{A:Cz}{E:Value->Af->Prop}{l p:Addr}{kvs more:List (bV×V)}{Q:Value->Af->Prop}(I:cT X aa σ H s)(e1:H l=some (.dK kvs))(e2:Rd H p (.dK more))(hne:l≠p)(hz:kvs.length+more.length<=sizeLine)(h: ∀s',cT X aa σ (bN H l (.dK (X0 kvs more))) s'->Q .none s'):
  wpAny (model X.prog X.w) A (call (.builtin "dict.update") [.ref l,.ref p]) Q E s:=by
 obtain⟨_,hd,vs,rel,dd⟩:=ES I.hok e1;obtain⟨_,hd2,ws,i8,dd2⟩:=P8 I.hok e2;refine Ki La dd.typeIs PySem.F.entry_dict_update (PySem.F.args_dict_update_2 _ _) (meets_dict_update (bQ X.prog X.w) l p hne hd2) ⟨vs,ws,dd,dd2,by rw[<- rel.length,<- i8.length];exact hz,fun h' dd' _ hs=>h _ ?_⟩;have he: ∃q,h'.get? l=some q:=let ⟨q,_,_,hq,_⟩:=dd';⟨q,hq⟩
 have rm:=KV.merge i8 rel;have hl:(X0 kvs more).length<=sizeLine:=by
  rw[rm.length];have:=merged_length_le vs ws;have:=rel.length;have:=i8.length;lia
 exact O9 (t':=s.toks) I (by rw[e1];exact True.intro) hs he (KZ hl hd rm dd')
def zHS(td ty:TE):TE:=fun σ H Q=>td σ H fun x H1=> ∃a,x= .ref a/\IsD H1 a/\ty σ H1 fun y H2=> ∃p kvs more,y= .ref p/\H2 a=some (.dK kvs)/\Rd H2 p (.dK more)/\a≠p/\kvs.length+more.length<=sizeLine/\Q .non (bN H2 a (.dK (X0 kvs more)))
theorem zCB{td ty:TE}{ai ae:Pos}(ho:PE X o td)(he:PE X e ty)(m:M1 X o "update" ai e ae):PE X (.Call (.Attribute o "update" ai) [e] [] ae) (zHS td ty):=by
 intro aa s σ H Q I h;refine Ku m.base m.few m.line Hu La PySem.F.type_dict_update (ZW (ho aa s σ H _ I h) fun u s1 ⟨x,H1,I1,rx,a,ex,d,q1⟩=> ?_);subst ex;obtain rfl:u=Bo a:=rx;obtain⟨t1,t2,_⟩:=GW I1 d;refine⟨t1,t2,?_⟩;rw[m.trees];refine Ff rfl (Fv (Es (ZW (he aa s1 σ H1 _ I1 q1) fun iv s2 ⟨y,H2,I2,ry,p,kvs,more,ey,h1,h2,h3,h4,q2⟩=>Fz ?_)));subst ey;obtain rfl:iv=Bo p:=ry;exact zB9 I2 h1 h2 h3 h4 fun s3 I3=>⟨.non,_,I3,rfl,q2⟩
end
section
variable{X:Cx}{K:Ar}{ml:List Nat}{e a b c o:Expr}{pu ta ia:Bool}{pos:Pos}{σ:St}{H:Hp}{δ δ':Ev}
noncomputable def V1:List bV->List dF->List bV->List dF->List bV×List dF
 |ks,ws,k::ls,w::vs=>V1 (bB ks ws k w).1 (bB ks ws k w).2 ls vs
 |ks,ws,_,_=>(ks,ws)
theorem zC0{k:bV}{v:V}: ∀{kvs:List (bV×V)},(kvs.map Bg).Nodup->((ZF kvs k v).map Bg).Nodup:=by
 intro kvs h;unfold ZF;split
 ·rw[Fp]
  have e:(Bg∘fun kv:bV×V=>if kv.1=k then(kv.1,v) else kv)=Bg:=by
   funext kv;simp only[Lk];split<;>rfl
  rw[e];exact h
 ·rename_i hn
  rw[Gc];refine Ey.mpr ⟨h,by simp,fun a ha b hb z=>hn ?_⟩;obtain⟨q,hq,rfl⟩:=Bx.mp ha;simp at hb;exact List.any_eq_true.mpr ⟨q,hq,decide_eq_true (z.trans hb)⟩
theorem QB{N:Addr->Prop}: ∀{more:List (bV×V)} {vs:List dF} {kvs:List (bV×V)} {ws:List dF},(kvs.map Bg).Nodup->cO K N H (kvs.map Cj) ws->cO K N H (more.map Cj) vs→
  (X0 kvs more).map Bg=(V1 (kvs.map Bg) ws (more.map Bg) vs).1/\cO K N H ((X0 kvs more).map Cj) (V1 (kvs.map Bg) ws (more.map Bg) vs).2
 |[],_,kvs,ws,_,r,.nil=>⟨rfl,r⟩
 |(k,v)::more,_,kvs,ws,nd,r,.cons h t=>by
  obtain⟨g1,g2⟩:=UH (k:=k) h nd r;have ih:=QB (more:=more) (kvs:=ZF kvs k v) (zC0 nd) g2 t;rw[g1] at ih;exact ih
noncomputable def MM(i:Nat)(f:VF):VS:=fun δ=>(ZG δ i).bind fun _=>(f δ).bind fun p=>match p.1 with
 | .dct ls vs=>(ZG p.2 i).bind fun z=>if z.1.length+ls.length<=16777216/\z.1.Nodup then some (.nx (p.2.set i (.ow (.dct (V1 z.1 z.2 ls vs).1 (V1 z.1 z.2 ls vs).2)))) else none
 |_=>none
theorem zBL{i:Nat}{f:VF}{ai ae:Pos}(ho:PE X a (SJ i))(hb:PE X b (TN K ml pu f))(m:M1 X a "update" ai b ae) (hsw:Hn (.Call (.Attribute a "update" ai) [b] [] ae) none pos.line X.env=pure false:=by rfl):
  PS X (.Expr (.Call (.Attribute a "update" ai) [b] [] ae) pos) (TZ K ml (MM i f)):=(FQ (zCB ho hb m) hsw).imp fun D σ H hq0=>by
 obtain⟨B,O,δ,o,S,q,k⟩:=hq0;unfold MM at q;obtain⟨⟨ks0,ds0⟩,h0,q⟩:=Aa.mp q;cases h1:f δ with
 |none=>simp[h1] at q
 |some p1=>
  obtain⟨y,δ1⟩:=p1;simp only[Av,h1] at q;cases y with
  |dct ls vs=>
   cases h2:ZG δ1 i with
   |none=>simp[h2] at q
   |some zz=>
    obtain⟨ks,ws⟩:=zz;simp only[h2,Av] at q;split at q
    ·rename_i hz
     cases q;obtain⟨l,e1,e2,w0⟩:=S.ow i _ (Z2 h0);have hD:IsD H l:=by
      generalize hw:dF.dct ks0 ds0=dd at w0;cases w0 with
      |lst _ _=>cases hw
      |dct q _=>exact .inl ⟨_,.inl q⟩
     refine⟨.ref l,e2,l,rfl,hD,B,O,δ,_,δ1,S,h1,fun p H1 R=> ?_⟩;have S1:=R.sta.unadd;obtain⟨l',e3,_,w1⟩:=S1.ow i _ (Z2 h2);rw[e1] at e3;cases e3;have hne:l≠p:=fun z=>R.nz (z▸ .inr ⟨i,e1⟩);have w2:=R.own.mono U0;generalize hw:dF.dct ks ws=dd at w1;generalize hw2:dF.dct ls vs=dd2 at w2;cases w1 with
     |lst _ _=>cases hw
     |dct q1 r1=>
      cases hw;cases w2 with
      |lst _ _=>cases hw2
      |dct q2 r2=>
       cases hw2;obtain⟨g1,g2⟩:=QB hz.2 r1 r2;refine⟨p,_,_,rfl,q1,.inl q2,hne,by rw[Cm];simpa using hz.1,k σ _ O (S1.wrote e1 (fun z=>z) ?_)⟩;have w:PQ K (Nn B O) (bN H1 l (.dK (X0 _ _))) l (.dct ((X0 _ _).map Bg) _):= .dct cS (SE q1 (.inr ⟨i,e1⟩) g2);rw[g1] at w;exact w
    ·cases q
  |_=>cases q
noncomputable def IK:List bV->Option (List Int)
 |[]=>some []
 | .inl i::ks=>(IK ks).map fun ns=>i::ns
 | .inr _::_=>none
theorem E3: ∀{ks:List bV} {ns:List Int},IK ks=some ns->ks=ns.map Ig
 |[],ns,h=>by cases h;rfl
 | .inl i::ks,ns,h=>by
  have h:(IK ks).map (fun ns=>i::ns)=some ns:=h;obtain⟨ms,h1,h⟩:=Ao.mp h;cases h;rw[E3 h1];rfl
 | .inr _::_,ns,h=>by cases h
noncomputable def NU(i:Nat):VF:=fun δ=>(ZG δ i).bind fun z=>(IK z.1).bind fun ns=>if ns.length<64 then some (.lst ((U6 ns).map .int),δ) else none
theorem B4{i:Nat}{p':Pos}(hc:X.calm=true)(hg:Gl X "sorted") (hm:X.mg "sorted"=none) (hv:Bj "sorted"=some (.builtin "sorted")) (ho:PE X a (SJ i)) (hn:("sorted":Str)≠ "__name__":=by decide) (hdb:(("sorted":Str)==("__debug__":Str))=false:=by decide)
  (he:Aj (a::[]) X.env=(false,eval a X.env)::Aj [] X.env:=by rfl):PE X (.Call (.Name "sorted" p') [a] [] pos) (TN K ml true (NU i)):=
 (R8 (zGW hc) hg hm hv (cE ho aH he) hn hdb he).imp fun σ H Q h => by
  obtain⟨B,O,δ,d,δ',S,q,k⟩:=h;unfold NU at q;obtain⟨⟨ks,ds⟩,h0,q⟩:=Aa.mp q;have q:((IK ks).bind fun ns=>if ns.length<64 then some (dF.lst ((U6 ns).map .int),δ) else none)=some (d,δ'):=q;cases h1:IK ks with
  |none=>rw[h1] at q;cases q
  |some ns=>
   rw[h1,Av] at q;split at q
   ·rename_i h64
    cases q;obtain⟨l,e1,e2,w⟩:=S.ow i _ (Z2 h0);generalize hw:dF.dct ks ds=dd at w;cases w with
    |lst _ _=>cases hw
    |dct q1 _=>
     cases hw;refine⟨.ref l,e2,l,_,ns,rfl,q1,E3 h1,h64,fun l' ms hl' p1 p2=> ?_⟩;have:=SI p1 p2;subst this;exact k l' _ (mkN S (Fr.refl _ _) (fun _=>bI.refl _) hl' (SD _))
   ·cases q
end
section
variable{X:Cx}{K:Ar}{ml:List Nat}{a b:Expr}{pa ta ia:Bool}{pos:Pos}{σ:St}{H:Hp}{δ δ':Ev}{fa:VF}
theorem zFT(hu:X.A.units+1<cLine):XD X (Cw .In) (fun x y H Q=> ∃l o,y= .ref l/\VA H l x o/\Q (.bl o.isSome) H):=by
 intro aa s σ H x y v u Q I rx ry h;obtain⟨l,o,rfl,g,q⟩:=h;cases ry;exact d_in hu I g rx fun s' I'=>⟨.bl o.isSome,H,I',rfl,q⟩
noncomputable def DE(i:Nat)(fk:VF):VF:=fun δ=>(fk δ).bind fun p=>(ZG p.2 i).bind fun z=>(XU p.1).map fun k=>(.bl (cD z.1 z.2 k).isSome,p.2)
def rInK:R2:=fun x y H Q=> ∃l o,y= .ref l/\VA H l x o/\Q (.bl o.isSome) H
theorem zEE{i:Nat}{Q:VK}(h:TV K ml pa true true (DE i fa) σ H Q):tOp rInK (TV K ml pa ta ia fa) (SJ i) σ H Q:=by
 obtain⟨B,O,δ,d,δ3,S,q,k⟩:=h;unfold DE at q;cases h1:fa δ with
 |none=>rw[h1] at q;cases q
 |some p1=>
  obtain⟨y,δ1⟩:=p1;rw[h1,Av] at q;cases h2:ZG δ1 i with
  |none=>simp[h2] at q
  |some zz=>
   obtain⟨ks,ds⟩:=zz;cases h3:XU y with
   |none=>simp[h2,h3] at q
   |some kk=>
    simp only[h2,h3,Av,Ka] at q;cases q;refine⟨B,O,δ,y,_,S,h1,fun v1 H1 R1=> ?_⟩;have ey:=R1.rep.key h3;subst ey;obtain⟨l,e1,e2,w⟩:=R1.sta.ow i _ (Z2 h2);refine⟨.ref l,e2,l,?_⟩;generalize hw:dF.dct ks ds=dd at w;cases w with
    |lst _ _=>cases hw
    |dct qd r=>
     cases hw;refine⟨_,rfl,VA.k qd,?_⟩;rcases WK (k:=kk) r with⟨v,d',g1,g2,g3⟩|⟨g1,g2⟩
     ·rw[g1]
      exact k _ H1 ⟨R1.sta,R1.frm,R1.pur,by rw[g2];exact .bl _⟩
     ·rw[g1]
      exact k _ H1 ⟨R1.sta,R1.frm,R1.pur,by rw[g2];exact .bl _⟩
theorem zE6{i:Nat}(hu:X.A.units+1<cLine)(ha:PE X a (TV K ml pa ta ia fa))(hb:PE X b (SJ i))(hm:Hd .In b=false):PT X (.Compare a [.In] [b] pos) (TB K ml pa (fB (DE i fa))):=(FS (zFT hu) ha hb hm).imp fun _ _ _ h=>PK (fun _ _ _ z=>zEE z) h
end
section
variable{X:Cx}{K:Ar}{ml:List Nat}{a b:Expr}{pa ta ia:Bool}{σ:St}{H:Hp}{δ δ':Ev}{fk:VF}
noncomputable def SV(i:Nat)(fk:VF):VF:=fun δ=>(ZG δ i).bind fun _=>(fk δ).bind fun p=>(XU p.1).bind fun k=>(ZG p.2 i).map fun z=>((cD z.1 z.2 k).getD .non,p.2)
theorem J3{i:Nat}{ai ae:Pos}(hu:X.A.units+1<cLine)(ho:PE X a (SJ i))(hk:PE X b (TV K ml pa ta ia fk))(m:M1 X a "get" ai b ae):PE X (.Call (.Attribute a "get" ai) [b] [] ae) (TV K ml pa true true (SV i fk)):=
 (JK hu ho hk m).imp fun σ H Q hq0 => by
  obtain⟨B,O,δ,d,δ3,S,q,k⟩:=hq0;unfold SV at q;obtain⟨⟨ks0,ds0⟩,h0,q⟩:=Aa.mp q;obtain⟨⟨y,δ1⟩,h1,q⟩:=Aa.mp q;obtain⟨kk,h3,q⟩:=Aa.mp q;obtain⟨⟨ks,ds⟩,h4,q⟩:=Ao.mp q;cases q;obtain⟨l,e1,e2,w⟩:=S.ow i _ (Z2 h0);refine⟨.ref l,e2,l,rfl,.inl ⟨?_,B,O,δ,y,_,S,h1,fun v1 H1 R1=> ?_⟩⟩
  ·generalize hw:dF.dct ks0 ds0=dd at w
   cases w with
   |lst _ _=>cases hw
   |dct q _=>exact .inl ⟨_,.inl q⟩
  ·have ey:=R1.rep.key h3
   subst ey;obtain⟨l',e3,_,w2⟩:=R1.sta.ow i _ (Z2 h4);rw[e1] at e3;cases e3;have fin: ∀o,bR K (Nn B O) H1 (Nn B O) (o:V) ((cD ks ds kk).getD .non)->Q o H1:=fun o ho=>k o H1 ⟨R1.sta,R1.frm,R1.pur,ho⟩;generalize hw:dF.dct ks ds=dd at w2;cases w2 with
   |lst _ _=>cases hw
   |dct qd r=>
    cases hw;refine⟨_,VA.k qd,fin _ ?_⟩;rcases WK (k:=kk) r with⟨v,d',g1,g2,g3⟩|⟨g1,g2⟩
    ·rw[g1,g2];exact g3
    ·rw[g1,g2];exact .non
end
end L2
namespace L2
open PySem
section
variable{α β:Type}{d x y z c:dF}{δ δ1 δ':Ev}{fa fb fc:VF}{o o':dF->dF->Option dF}{i j k n:Nat}{s:Sl}{b:Bool}{ds:List dF}
noncomputable def q0(r:Option α)(δ:Ev):Option (α×Ev):=r.map fun c=>(c,δ)
@[simp] theorem q0_s{a:α}:q0 (some a) δ=some (a,δ):=rfl
@[simp] theorem fC_e:fC d δ=some (d,δ):=rfl
noncomputable def qV:Option Sl->Ev->Option (dF×Ev)
 |some (.va d),δ=>some (d,δ)
 |_,_=>none
noncomputable def qO:Option Sl->Ev->Option (dF×Ev)
 |some (.va d),δ=>some (d,δ)
 |some (.ow d),δ=>some (d,δ)
 |_,_=>none
@[simp] theorem fV_e:fV i δ=qV δ[i]? δ:=by unfold fV qV;split<;>simp_all
@[simp] theorem fO_e:fO i δ=qO δ[i]? δ:=by unfold fO qO;split<;>simp_all
@[simp] theorem qV_s:qV (some (.va d)) δ=some (d,δ):=rfl
@[simp] theorem qO_v:qO (some (.va d)) δ=some (d,δ):=rfl
@[simp] theorem qO_o:qO (some (.ow d)) δ=some (d,δ):=rfl
noncomputable def q1(o:dF->Option dF)(r:Option (dF×Ev)):Option (dF×Ev):=r.bind fun p=>q0 (o p.1) p.2
@[simp] theorem f1_e{o:dF->Option dF}:f1 o fa δ=q1 o (fa δ):=rfl
@[simp] theorem q1_s{o:dF->Option dF}:q1 o (some (x,δ))=q0 (o x) δ:=rfl
noncomputable def q2(o:dF->dF->Option dF)(r:Option (dF×Ev))(fb:VF):Option (dF×Ev):=r.bind fun p=>(fb p.2).bind fun q=>q0 (o p.1 q.1) q.2
noncomputable def q2b(o:dF->dF->Option dF)(x:dF)(r:Option (dF×Ev)):Option (dF×Ev):=r.bind fun q=>q0 (o x q.1) q.2
@[simp] theorem f2_e:f2 o fa fb δ=q2 o (fa δ) fb:=rfl
@[simp] theorem q2_s:q2 o (some (x,δ)) fb=q2b o x (fb δ):=rfl
@[simp] theorem zOB:q2b o x (some (y,δ))=q0 (o x y) δ:=rfl
noncomputable def q3(o o':dF->dF->Option dF)(r:Option (dF×Ev))(fb fc:VF):Option (dF×Ev):=r.bind fun p=>(fb p.2).bind fun q=>(o p.1 q.1).bind fun z=>match z with
 | .bl true=>(fc q.2).bind fun s=>(o' q.1 s.1).map fun u=>(u,s.2)
 | .bl false=>some (.bl false,q.2)
 |_=>none
noncomputable def q3b(o o':dF->dF->Option dF)(x:dF)(r:Option (dF×Ev))(fc:VF):Option (dF×Ev):=q3 o o' (some (x,[])) (fun _=>r) fc
noncomputable def q3c(o':dF->dF->Option dF)(y:dF)(δ:Ev)(fc:VF):Option dF->Option (dF×Ev)
 |some (.bl true)=>q2b o' y (fc δ)
 |some (.bl false)=>some (.bl false,δ)
 |_=>none
@[simp] theorem f3_e:f3 o o' fa fb fc δ=q3 o o' (fa δ) fb fc:=rfl
@[simp] theorem q3_s:q3 o o' (some (x,δ)) fb fc=q3b o o' x (fb δ) fc:=rfl
@[simp] theorem zOA:q3b o o' x (some (y,δ)) fc=q3c o' y δ fc (o x y):=by
 simp only[q3b,q3,Av];cases o x y with
 |none=>rfl
 |some z=>cases z with
  |bl b=>cases b<;>rfl
  |_=>rfl
@[simp] theorem zO8:q3c o' y δ fc (some (.bl true))=q2b o' y (fc δ):=rfl
@[simp] theorem zO9:q3c o' y δ fc (some (.bl false))=some (.bl false,δ):=rfl
noncomputable def qc(r:Option (dF×Ev))(fs:NG):Option (List dF×Ev):=r.bind fun p=>(fs p.2).map fun q=>(p.1::q.1,q.2)
noncomputable def qcb(x:dF)(r:Option (List dF×Ev)):Option (List dF×Ev):=r.map fun q=>(x::q.1,q.2)
@[simp] theorem zN6:cF δ=some ([],δ):=rfl
@[simp] theorem zKR{fs:NG}:c9 fa fs δ=qc (fa δ) fs:=rfl
@[simp] theorem qc_s{fs:NG}:qc (some (x,δ)) fs=qcb x (fs δ):=rfl
@[simp] theorem zNT:qcb x (some (ds,δ))=some (x::ds,δ):=rfl
noncomputable def qT(g:List dF->dF)(r:Option (List dF×Ev)):Option (dF×Ev):=r.bind fun p=>if p.1.length<=16777216 then some (g p.1,p.2) else none
@[simp] theorem zN4{fs:NG}:Z3 fs δ=qT .tup (fs δ):=rfl
@[simp] theorem zN7{fs:NG}:YY fs δ=qT .lst (fs δ):=rfl
@[simp] theorem qT_s{g:List dF->dF}:qT g (some (ds,δ))=if ds.length<=16777216 then some (g ds,δ) else none:=rfl
noncomputable def qB:Option (dF×Ev)->Option (Bool×Ev)
 |some (.bl k,δ)=>some (k,δ)
 |_=>none
@[simp] theorem fB_e:fB fa δ=qB (fa δ):=by
 unfold fB qB;cases fa δ with
 |none=>rfl
 |some p=>
  obtain⟨d,e⟩:=p;cases d<;>rfl
@[simp] theorem qB_s:qB (some (.bl b,δ))=some (b,δ):=rfl
variable{tb tb':VB}{g g':VS}
noncomputable def qAnd(r:Option (Bool×Ev))(y:VB):Option (Bool×Ev):=r.bind fun p=>if p.1=true then y p.2 else some (false,p.2)
noncomputable def qOr(r:Option (Bool×Ev))(y:VB):Option (Bool×Ev):=r.bind fun p=>if p.1=true then some (true,p.2) else y p.2
noncomputable def qNot(r:Option (Bool×Ev)):Option (Bool×Ev):=r.map fun p=>(!p.1,p.2)
@[simp] theorem zNE:NL tb tb' δ=qAnd (tb δ) tb':=rfl
@[simp] theorem zOS:HS tb tb' δ=qOr (tb δ) tb':=rfl
@[simp] theorem zND:M5 tb δ=qNot (tb δ):=rfl
@[simp] theorem zHF:XX δ=some (true,δ):=rfl
@[simp] theorem zM2:qAnd (some (true,δ)) tb=tb δ:=rfl
@[simp] theorem zM3:qAnd (some (false,δ)) tb=some (false,δ):=rfl
@[simp] theorem zNY:qOr (some (true,δ)) tb=some (true,δ):=rfl
@[simp] theorem zNZ:qOr (some (false,δ)) tb=tb δ:=rfl
@[simp] theorem zLW:qNot (some (b,δ))=some (!b,δ):=rfl
noncomputable def qA(r:Option (dF×Ev))(y:VF):Option (dF×Ev):=r.bind fun p=>match p.1 with
 | .bl true=>y p.2
 | .bl false=>some (.bl false,p.2)
 |_=>none
noncomputable def qN(r:Option (dF×Ev)):Option (dF×Ev):=r.bind fun p=>match p.1 with
 | .bl k=>some (.bl (!k),p.2)
 |_=>none
@[simp] theorem zN8:RO fa fb δ=qA (fa δ) fb:=rfl
@[simp] theorem zN5:fNot fa δ=qN (fa δ):=rfl
@[simp] theorem qA_t:qA (some (.bl true,δ)) fb=fb δ:=rfl
@[simp] theorem qA_f:qA (some (.bl false,δ)) fb=some (.bl false,δ):=rfl
@[simp] theorem qN_s:qN (some (.bl b,δ))=some (.bl (!b),δ):=rfl
noncomputable def qI(r:Option (Bool×Ev))(x y:VF):Option (dF×Ev):=r.bind fun p=>if p.1=true then x p.2 else y p.2
@[simp] theorem zOR:fIf tb fa fb δ=qI (tb δ) fa fb:=rfl
@[simp] theorem qI_t:qI (some (true,δ)) fa fb=fa δ:=rfl
@[simp] theorem qI_f:qI (some (false,δ)) fa fb=fb δ:=rfl
noncomputable def qS(r:Option Ou)(g:VS):Option Ou:=r.bind fun o=>match o with
 | .nx δ'=>g δ'
 |o=>some o
@[simp] theorem zLD:ZV δ=some (.nx δ):=rfl
@[simp] theorem BA:cK g g' δ=qS (g δ) g':=rfl
@[simp] theorem qS_n:qS (some (.nx δ)) g=g δ:=rfl
@[simp] theorem qS_r:qS (some (.rt d δ)) g=some (.rt d δ):=rfl
@[simp] theorem qS_b:qS (some (.bk δ)) g=some (.bk δ):=rfl
@[simp] theorem qS_c:qS (some (.ct δ)) g=some (.ct δ):=rfl
noncomputable def qJ(r:Option (Bool×Ev))(x y:VS):Option Ou:=r.bind fun p=>if p.1=true then x p.2 else y p.2
@[simp] theorem zNF:VJ tb g g' δ=qJ (tb δ) g g':=rfl
@[simp] theorem qJ_t:qJ (some (true,δ)) g g'=g δ:=rfl
@[simp] theorem qJ_f:qJ (some (false,δ)) g g'=g' δ:=rfl
noncomputable def qRet(r:Option (dF×Ev)):Option Ou:=r.map fun p=> .rt p.1 p.2
@[simp] theorem zLC:bO fa δ=qRet (fa δ):=rfl
@[simp] theorem zLS:qRet (some (d,δ))=some (.rt d δ):=rfl
noncomputable def qx(f:dF->Sl)(r:Option (dF×Ev)):Option (Sl×Ev):=r.map fun p=>(f p.1,p.2)
@[simp] theorem xV_e:xV fa δ=qx .va (fa δ):=rfl
@[simp] theorem xO_e:xO fa δ=qx .ow (fa δ):=rfl
@[simp] theorem qx_s{f:dF->Sl}:qx f (some (d,δ))=some (f d,δ):=rfl
noncomputable def qSet(i:Nat)(r:Option (Sl×Ev)):Option Ou:=r.bind fun p=>if i<p.2.length then some (.nx (p.2.set i p.1)) else none
@[simp] theorem zLB{x:VX}:Z9 i x δ=qSet i (x δ):=rfl
@[simp] theorem zLP:qSet i (some (s,δ))=if i<δ.length then some (.nx (δ.set i s)) else none:=rfl
noncomputable def qP2(i j:Nat)(r:Option (Sl×Ev))(y:VX):Option Ou:=r.bind fun p=>(y p.2).bind fun q=>if i<q.2.length/\j<q.2.length then some (.nx ((q.2.set j q.1).set i p.1)) else none
noncomputable def qP2b(i j:Nat)(s:Sl)(r:Option (Sl×Ev)):Option Ou:=r.bind fun q=>if i<q.2.length/\j<q.2.length then some (.nx ((q.2.set j q.1).set i s)) else none
@[simp] theorem zK3{x y:VX}:OK i j x y δ=qP2 i j (x δ) y:=rfl
@[simp] theorem zNX{y:VX}:qP2 i j (some (s,δ)) y=qP2b i j s (y δ):=rfl
@[simp] theorem zLV{s':Sl}:qP2b i j s (some (s',δ))=if i<δ.length/\j<δ.length then some (.nx ((δ.set j s').set i s)) else none:=rfl
noncomputable def qP3(i j k:Nat)(r:Option (Sl×Ev))(y z:VX):Option Ou:=r.bind fun p=>(y p.2).bind fun q=>(z q.2).bind fun r=>if i<r.2.length/\j<r.2.length/\k<r.2.length then some (.nx (((r.2.set k r.1).set j q.1).set i p.1)) else none
noncomputable def qP3b(i j k:Nat)(s:Sl)(r:Option (Sl×Ev))(z:VX):Option Ou:=r.bind fun q=>(z q.2).bind fun r=>if i<r.2.length/\j<r.2.length/\k<r.2.length then some (.nx (((r.2.set k r.1).set j q.1).set i s)) else none
noncomputable def qP3c(i j k:Nat)(s s':Sl)(r:Option (Sl×Ev)):Option Ou:=r.bind fun r=>if i<r.2.length/\j<r.2.length/\k<r.2.length then some (.nx (((r.2.set k r.1).set j s').set i s)) else none
@[simp] theorem zK2{x y z:VX}:OL i j k x y z δ=qP3 i j k (x δ) y z:=rfl
@[simp] theorem zNW{y z:VX}:qP3 i j k (some (s,δ)) y z=qP3b i j k s (y δ) z:=rfl
@[simp] theorem zLU{s':Sl}{z:VX}:qP3b i j k s (some (s',δ)) z=qP3c i j k s s' (z δ):=rfl
@[simp] theorem zLT{s' s'':Sl}:qP3c i j k s s' (some (s'',δ))=if i<δ.length/\j<δ.length/\k<δ.length then some (.nx (((δ.set k s'').set j s').set i s)) else none:=rfl
@[simp] theorem K4:gN i d δ=some (δ.set i (.va d)):=rfl
noncomputable def qg(r:Option Ev)(gs:CJ)(ds:List dF):Option Ev:=r.bind fun δ1=>gs ds δ1
@[simp] theorem zKQ:YS [] δ=some δ:=rfl
@[simp] theorem zJM{gg:VG}{gs:CJ}:b7 gg gs (d::ds) δ=qg (gg d δ) gs ds:=rfl
@[simp] theorem qg_s{gs:CJ}:qg (some δ) gs ds=gs ds δ:=rfl
@[simp] theorem zOO{gs:CJ}:NB n gs (.tup ds) δ=if ds.length=n then gs ds δ else none:=rfl
@[simp] theorem zOP{gs:CJ}:NB n gs (.lst ds) δ=if ds.length=n then gs ds δ else none:=rfl
noncomputable def qAsg(r:Option (dF×Ev))(gg:VG):Option Ou:=r.bind fun p=>(gg p.1 p.2).map Ou.nx
@[simp] theorem zLF{gg:VG}:JT fa gg δ=qAsg (fa δ) gg:=rfl
@[simp] theorem zM1{gg:VG}:qAsg (some (d,δ)) gg=(gg d δ).map Ou.nx:=rfl
noncomputable def qM(i:Nat)(m:List dF->List dF->Option (List dF))(r:Option (List dF))(δ:Ev)(fs:NG):Option Ou:=r.bind fun _=>(fs δ).bind fun p=>(P1 p.2 i).bind fun ds=>(m ds p.1).map fun ds'=> .nx (p.2.set i (.ow (.lst ds')))
noncomputable def qMb(i:Nat)(m:List dF->List dF->Option (List dF))(r:Option (List dF×Ev)):Option Ou:=r.bind fun p=>(P1 p.2 i).bind fun ds=>(m ds p.1).map fun ds'=> .nx (p.2.set i (.ow (.lst ds')))
noncomputable def qMc(i:Nat)(m:List dF->List dF->Option (List dF))(es:List dF)(δ:Ev)(r:Option (List dF)):Option Ou:=r.bind fun ds=>(m ds es).map fun ds'=> .nx (δ.set i (.ow (.lst ds')))
noncomputable def qMd(i:Nat)(δ:Ev)(r:Option (List dF)):Option Ou:=r.map fun ds'=> .nx (δ.set i (.ow (.lst ds')))
@[simp] theorem zLE{m:List dF->List dF->Option (List dF)}{fs:NG}:VL i m fs δ=qM i m (P1 δ i) δ fs:=rfl
@[simp] theorem qM_s{m:List dF->List dF->Option (List dF)}{fs:NG}:qM i m (some ds) δ fs=qMb i m (fs δ):=rfl
@[simp] theorem zO4{m:List dF->List dF->Option (List dF)}{es:List dF}:qMb i m (some (es,δ))=qMc i m es δ (P1 δ i):=rfl
@[simp] theorem zO3{m:List dF->List dF->Option (List dF)}{es:List dF}:qMc i m es δ (some ds)=qMd i δ (m ds es):=rfl
@[simp] theorem zO2:qMd i δ (some ds)=some (.nx (δ.set i (.ow (.lst ds)))):=rfl
noncomputable def qOl:Option Sl->Option (List dF)
 |some (.ow (.lst ds))=>some ds
 |_=>none
@[simp] theorem zM6:P1 δ i=qOl δ[i]? :=by unfold P1 qOl;split<;>simp_all
@[simp] theorem zO0:qOl (some (.ow (.lst ds)))=some ds:=rfl
@[simp] theorem zMR:UZ ds [d]=if ds.length<16777216 then some (ds++[d]) else none:=rfl
noncomputable def qOd:Option Sl->Option (List bV×List dF)
 |some (.ow (.dct ks ds))=>some (ks,ds)
 |_=>none
@[simp] theorem zM7:ZG δ i=qOd δ[i]? :=by unfold ZG qOd;split<;>simp_all
@[simp] theorem zO1{ks:List bV}:qOd (some (.ow (.dct ks ds)))=some (ks,ds):=rfl
noncomputable def qi(r:Option (dF×Ev)):Option (List dF×Ev):=r.bind fun p=>(X1 p.1).map fun ds=>(ds,p.2)
@[simp] theorem zN2:XA fa δ=qi (fa δ):=rfl
@[simp] theorem qi_t:qi (some (.tup ds,δ))=some (ds,δ):=rfl
@[simp] theorem qi_l:qi (some (.lst ds,δ))=some (ds,δ):=rfl
noncomputable def qr1:Option (dF×Ev)->Option (List dF×Ev)
 |some (.int j,δ)=>if -4611686018427387904<=j/\j<4611686018427387904 then some (Z8 0 j.toNat,δ) else none
 |_=>none
@[simp] theorem zON:iR1 fa δ=qr1 (fa δ):=by
 unfold iR1 qr1;cases fa δ with
 |none=>rfl
 |some p=>
  obtain⟨d,e⟩:=p;cases d<;>rfl
@[simp] theorem zNM{j:Int}:qr1 (some (.int j,δ))=if -4611686018427387904<=j/\j<4611686018427387904 then some (Z8 0 j.toNat,δ) else none:=rfl
noncomputable def qe(r:Option (dF×Ev)):Option (List dF×Ev):=r.bind fun p=>(X1 p.1).map fun ds=>(YX 0 ds,p.2)
@[simp] theorem zKP:RS fa δ=qe (fa δ):=rfl
@[simp] theorem qe_t:qe (some (.tup ds,δ))=some (YX 0 ds,δ):=rfl
@[simp] theorem qe_l:qe (some (.lst ds,δ))=some (YX 0 ds,δ):=rfl
noncomputable def qz(r:Option (dF×Ev))(g:VF):Option (List dF×Ev):=r.bind fun p=>(g p.2).bind fun q=>(X1 p.1).bind fun ds=>(X1 q.1).map fun es=>(T3 ds es,q.2)
noncomputable def qzb(x:dF)(r:Option (dF×Ev)):Option (List dF×Ev):=r.bind fun q=>(X1 x).bind fun ds=>(X1 q.1).map fun es=>(T3 ds es,q.2)
@[simp] theorem zN1:iZip fa fb δ=qz (fa δ) fb:=rfl
@[simp] theorem qz_s:qz (some (x,δ)) fb=qzb x (fb δ):=rfl
@[simp] theorem zNG:qzb x (some (y,δ))=(X1 x).bind fun ds=>(X1 y).map fun es=>(T3 ds es,δ):=rfl
@[simp] theorem zL9:X1 (.tup ds)=some ds:=rfl
@[simp] theorem zLA:X1 (.lst ds)=some ds:=rfl
noncomputable def qF(r:Option (List dF×Ev))(gg:VG)(g:VS):Option Ou:=r.bind fun p=>XZ gg g p.1 p.2
@[simp] theorem zEX{fi:VI}{gg:VG}:P4 fi gg g δ=qF (fi δ) gg g:=rfl
@[simp] theorem qF_s{gg:VG}:qF (some (ds,δ)) gg g=XZ gg g ds δ:=rfl
noncomputable def qK(ix:List Nat)(nl:Nat)(r:Option (List dF×Ev))(gg:VG)(tb:VB)(fe:VF):Option (dF×Ev):=r.bind fun p=>(aS ix.length nl gg tb fe p.1 [] (bX ix p.2)).map fun q=>(.lst q.1,ZX ix q.2 p.2)
noncomputable def qKb(ix:List Nat)(δ:Ev)(r:Option (List dF×Ev)):Option (dF×Ev):=r.map fun q=>(.lst q.1,ZX ix q.2 δ)
@[simp] theorem zKS{ix:List Nat}{nl:Nat}{fi:VI}{gg:VG}:aL ix nl fi gg tb fa δ=qK ix nl (fi δ) gg tb fa:=rfl
@[simp] theorem qK_s{ix:List Nat}{nl:Nat}{gg:VG}:qK ix nl (some (ds,δ)) gg tb fa=qKb ix δ (aS ix.length nl gg tb fa ds [] (bX ix δ)):=rfl
@[simp] theorem zO5{ix:List Nat}:qKb ix δ (some (ds,δ1))=some (.lst ds,ZX ix δ1 δ):=rfl
variable{as:List AV}{fs:GK}{mF:List Nat}{F:a0}
noncomputable def qa(r:Option (dF×Ev))(fs:GK):Option (List AV×Ev):=r.bind fun p=>(fs p.2).map fun q=>(.d p.1::q.1,q.2)
noncomputable def qab(x:AV)(r:Option (List AV×Ev)):Option (List AV×Ev):=r.map fun q=>(x::q.1,q.2)
@[simp] theorem zHH:cC δ=some ([],δ):=rfl
@[simp] theorem HW:aE fa fs δ=qa (fa δ) fs:=rfl
@[simp] theorem AQ:qa (some (x,δ)) fs=qab (.d x) (fs δ):=rfl
@[simp] theorem AR{a:AV}:qab a (some (as,δ))=some (a::as,δ):=rfl
noncomputable def qao(j:Nat)(r:Option dF)(δ:Ev)(fs:GK):Option (List AV×Ev):=r.bind fun _=>qab (.o j) (fs δ)
@[simp] theorem aO_e:aO j fs δ=qao j (slot δ j) δ fs:=rfl
@[simp] theorem zIG:qao j (some d) δ fs=qab (.o j) (fs δ):=rfl
noncomputable def qsl:Option Sl->Option dF
 |some (.va d)=>some d
 |some (.ow d)=>some d
 |_=>none
@[simp] theorem zL8:slot δ j=qsl δ[j]? :=by unfold slot qsl;split<;>simp_all
@[simp] theorem zNK:qsl (some (.va d))=some d:=rfl
@[simp] theorem zNL:qsl (some (.ow d))=some d:=rfl
@[simp] theorem zL2:W3 δ []=some []:=rfl
@[simp] theorem zL3:W3 δ (.d d::as)=(W3 δ as).map fun ds=>d::ds:=rfl
@[simp] theorem zL1:W3 δ (.o j::as)=(slot δ j).bind fun d=>(W3 δ as).map fun ds=>d::ds:=rfl
noncomputable def zDL(n:Nat)(mF:List Nat)(F:a0)(r:Option (List AV×Ev)):Option (dF×Ev):=r.bind fun p=>(W3 p.2 p.1).bind fun ds=>if ds.length=n/\VT mF p.1 p.2=true then(F ds).bind fun q=>if WU mF p.1 q.1 q.2=true then some (q.1,WN p.1 mF q.2 p.2) else none else none
noncomputable def qCb(n:Nat)(mF:List Nat)(F:a0)(as:List AV)(δ:Ev)(r:Option (List dF)):Option (dF×Ev):=r.bind fun ds=>if ds.length=n/\VT mF as δ=true then(F ds).bind fun q=>if WU mF as q.1 q.2=true then some (q.1,WN as mF q.2 δ) else none else none
noncomputable def qCc(mF:List Nat)(as:List AV)(δ:Ev)(r:Option (dF×List dF)):Option (dF×Ev):=r.bind fun q=>if WU mF as q.1 q.2=true then some (q.1,WN as mF q.2 δ) else none
@[simp] theorem PC:cU n mF F fs δ=zDL n mF F (fs δ):=rfl
@[simp] theorem zBY:zDL n mF F (some (as,δ))=qCb n mF F as δ (W3 δ as):=rfl
@[simp] theorem zII:qCb n mF F as δ (some ds)=if ds.length=n/\VT mF as δ=true then qCc mF as δ (F ds) else none:=rfl
@[simp] theorem zIH{os:List dF}:qCc mF as δ (some (d,os))=if WU mF as d os=true then some (d,WN as mF os δ) else none:=rfl
@[simp] theorem zKO:FD δ as i=(match as[i]? with
 |some (.o j)=>match δ[j]? with
  |some (.ow _)=>true
  |_=>false
 |_=>false):=rfl
@[simp] theorem zMV:VH []=[]:=rfl
@[simp] theorem zMW:VH (.d d::as)=VH as:=rfl
@[simp] theorem zMU:VH (.o j::as)=j::VH as:=rfl
@[simp] theorem zJT:VT mF as δ=(mF.all (FD δ as) && decide (VH as).Nodup):=rfl
@[simp] theorem zL5:XE mF [] i=true:=rfl
@[simp] theorem zL6:XE mF (.d d::as) i=XE mF as (i+1):=rfl
@[simp] theorem zL4:XE mF (.o j::as) i=(decide (i∈mF) && XE mF as (i+1)):=rfl
@[simp] theorem zJW{os:List dF}:WU mF as d os=((XE mF as 0 || d.hard) && (XE mF as 0 || os.all UX) && decide (mF.length=os.length)):=rfl
@[simp] theorem zM4{os:List dF}:WN as [] os δ=δ:=by cases os<;>rfl
@[simp] theorem zM5{os:List dF}{is:List Nat}:WN as (i::is) (d::os) δ=(match as[i]? with
  |some (.o j)=>WN as is os (δ.set j (.ow d))
  |_=>WN as is os δ):=rfl
@[simp] theorem zOD:CM δ=some (none,δ):=rfl
noncomputable def qpS:Option (dF×Ev)->Option (Option Int×Ev)
 |some (.int i,δ)=>some (some i,δ)
 |_=>none
@[simp] theorem zOC:FM fa δ=qpS (fa δ):=by
 unfold FM qpS;cases fa δ with
 |none=>rfl
 |some p=>
  obtain⟨d,e⟩:=p;cases d<;>rfl
@[simp] theorem zNN{i:Int}:qpS (some (.int i,δ))=some (some i,δ):=rfl
noncomputable def qSl(r:Option (dF×Ev))(fl fh:VP):Option (dF×Ev):=r.bind fun p=>(fl p.2).bind fun l=>(fh l.2).bind fun u=>(oSl p.1 l.1 u.1).map fun c=>(c,u.2)
noncomputable def qSlb(x:dF)(r:Option (Option Int×Ev))(fh:VP):Option (dF×Ev):=r.bind fun l=>(fh l.2).bind fun u=>(oSl x l.1 u.1).map fun c=>(c,u.2)
noncomputable def qSlc(x:dF)(l:Option Int)(r:Option (Option Int×Ev)):Option (dF×Ev):=r.bind fun u=>q0 (oSl x l u.1) u.2
@[simp] theorem zOQ{fl fh:VP}:EV fa fl fh δ=qSl (fa δ) fl fh:=rfl
@[simp] theorem zNV{fl fh:VP}:qSl (some (x,δ)) fl fh=qSlb x (fl δ) fh:=rfl
@[simp] theorem zLO{l:Option Int}{fh:VP}:qSlb x (some (l,δ)) fh=qSlc x l (fh δ):=rfl
@[simp] theorem zLN{l u:Option Int}:qSlc x l (some (u,δ))=q0 (oSl x l u) δ:=rfl
@[simp] theorem zOH{l u:Option Int}:oSl (.tup ds) l u=some (.tup (WG ds l u)):=rfl
@[simp] theorem zOI{l u:Option Int}:oSl (.lst ds) l u=some (.lst (WG ds l u)):=rfl
noncomputable def qSt(i j:Nat):Option (dF×Ev)->Option Ou
 |some (.tup (d::ds),δ)=>some (.nx ((δ.set i (.va d)).set j (.va (.lst ds))))
 |_=>none
@[simp] theorem zK1:MO i j fa δ=qSt i j (fa δ):=by
 unfold MO qSt;cases fa δ with
 |none=>rfl
 |some p=>
  obtain⟨d,e⟩:=p;cases d with
  |tup ds=>cases ds<;>rfl
  |_=>rfl
@[simp] theorem zNU:qSt i j (some (.tup (d::ds),δ))=some (.nx ((δ.set i (.va d)).set j (.va (.lst ds)))):=rfl
noncomputable def qDg(i:Nat)(r:Option (List bV×List dF))(δ:Ev)(fk fx:VF):Option (dF×Ev):=r.bind fun _=>(fk δ).bind fun p=>(fx p.2).bind fun q=>(XU p.1).bind fun k=>(ZG q.2 i).map fun z=>((cD z.1 z.2 k).getD q.1,q.2)
noncomputable def qDgb(i:Nat)(r:Option (dF×Ev))(fx:VF):Option (dF×Ev):=r.bind fun p=>(fx p.2).bind fun q=>(XU p.1).bind fun k=>(ZG q.2 i).map fun z=>((cD z.1 z.2 k).getD q.1,q.2)
noncomputable def qDgc(i:Nat)(x:dF)(r:Option (dF×Ev)):Option (dF×Ev):=r.bind fun q=>(XU x).bind fun k=>(ZG q.2 i).map fun z=>((cD z.1 z.2 k).getD q.1,q.2)
@[simp] theorem zJQ:K2 i fa fb δ=qDg i (ZG δ i) δ fa fb:=rfl
@[simp] theorem zO7{z:List bV×List dF}:qDg i (some z) δ fa fb=qDgb i (fa δ) fb:=rfl
@[simp] theorem zM0:qDgb i (some (x,δ)) fb=qDgc i x (fb δ):=rfl
@[simp] theorem zLZ:qDgc i x (some (y,δ))=(XU x).bind fun k=>(ZG δ i).map fun z=>((cD z.1 z.2 k).getD y,δ):=rfl
noncomputable def qDp(i:Nat)(r:Option (dF×Ev))(fk:VF):Option Ou:=r.bind fun p=>(ZG p.2 i).bind fun _=>(fk p.2).bind fun q=>(XU q.1).bind fun k=>(ZG q.2 i).bind fun z=>if z.1.length<16777216/\z.1.Nodup then some (.nx (q.2.set i (.ow (let r:=bB z.1 z.2 k p.1;.dct r.1 r.2)))) else none
noncomputable def qDpb(i:Nat)(x:dF)(r:Option (List bV×List dF))(δ:Ev)(fk:VF):Option Ou:=r.bind fun _=>(fk δ).bind fun q=>(XU q.1).bind fun k=>(ZG q.2 i).bind fun z=>if z.1.length<16777216/\z.1.Nodup then some (.nx (q.2.set i (.ow (let r:=bB z.1 z.2 k x;.dct r.1 r.2)))) else none
noncomputable def qDpc(i:Nat)(x:dF)(r:Option (dF×Ev)):Option Ou:=r.bind fun q=>(XU q.1).bind fun k=>(ZG q.2 i).bind fun z=>if z.1.length<16777216/\z.1.Nodup then some (.nx (q.2.set i (.ow (.dct (bB z.1 z.2 k x).1 (bB z.1 z.2 k x).2)))) else none
@[simp] theorem zK4{fk fv:VF}:SG i fk fv δ=qDp i (fv δ) fk:=rfl
@[simp] theorem zO6{fk:VF}:qDp i (some (x,δ)) fk=qDpb i x (ZG δ i) δ fk:=rfl
@[simp] theorem zLY{z:List bV×List dF}{fk:VF}:qDpb i x (some z) δ fk=qDpc i x (fk δ):=rfl
@[simp] theorem zLX:qDpc i x (some (y,δ))=(XU y).bind fun k=>(ZG δ i).bind fun z=>if z.1.length<16777216/\z.1.Nodup then some (.nx (δ.set i (.ow (.dct (bB z.1 z.2 k x).1 (bB z.1 z.2 k x).2)))) else none:=rfl
@[simp] theorem zMT{i:Int}:XU (.int i)=some (.inl i):=rfl
@[simp] theorem zMS{s:Str}:XU (.str s)=some (.inr s):=rfl
noncomputable def qRun(ml:List Nat):Option Ou->Option (dF×List dF)
 |some (.rt d δ)=>(U4 ml δ).map fun os=>(d,os)
 |some (.nx δ)=>(U4 ml δ).map fun os=>(.non,os)
 |_=>none
theorem b9{ml:List Nat}:Z0 n ml g ds=qRun ml (g (bS ml n ds)):=by
 unfold Z0 qRun;cases g (bS ml n ds) with
 |none=>rfl
 |some o=>cases o<;>rfl
@[simp] theorem zLQ{ml:List Nat}:qRun ml (some (.rt d δ))=(U4 ml δ).map fun os=>(d,os):=rfl
@[simp] theorem zLR{ml:List Nat}:qRun ml (some (.nx δ))=(U4 ml δ).map fun os=>(.non,os):=rfl
noncomputable def qow:Option Sl->Option dF
 |some (.ow d)=>some d
 |_=>none
@[simp] theorem zM8:U4 [] δ=some []:=rfl
@[simp] theorem zM9{ml:List Nat}:U4 (i::ml) δ=(qow δ[i]?).bind fun d=>(U4 ml δ).map fun os=>d::os:=by
 unfold U4;rw[Qu];cases h:(δ[i]? :Option Sl) with
 |none=>rfl
 | some s => cases s with
  |no=>rfl
  |va d=>rfl
  |ow d=>
   show(Option.bind _ fun os=>some (d::os))=Option.map (fun os=>d::os) _;cases (List.mapM _ ml:Option (List dF))<;>rfl
@[simp] theorem zNO:qow (some (.ow d))=some d:=rfl
end
section
variable{i j:Int}{x y:Str}{ds es:List dF}
@[simp] theorem oI_e{C:Int->Int->Bool}{g:Int->Int->dF}:oI C g (.int i) (.int j)=if C i j=true then some (g i j) else none:=rfl
@[simp] theorem zKE:Y4 (.int i) (.int j)=some (.int (i+j)):=rfl
@[simp] theorem zKC:Y4 (.tup ds) (.tup es)=if ds.length+es.length<=16777216 then some (.tup (ds++es)) else none:=rfl
@[simp] theorem zKD:Y4 (.lst ds) (.lst es)=if ds.length+es.length<=16777216 then some (.lst (ds++es)) else none:=rfl
@[simp] theorem zOJ{g:Int->Int->Int}:o2I g (.int i) (.int j)=some (.int (g i j)):=rfl
@[simp] theorem zMD:aF (.tup ds)=some (.int ds.length):=rfl
@[simp] theorem zME:aF (.lst ds)=some (.int ds.length):=rfl
@[simp] theorem zKJ:JF (.tup ds)=some (.lst ds):=rfl
@[simp] theorem zKK:JF (.lst ds)=some (.lst ds):=rfl
@[simp] theorem zJ1:XH (.tup ds)=some (.tup ds):=rfl
@[simp] theorem zJ2:XH (.lst ds)=some (.tup ds):=rfl
@[simp] theorem zMF:cN (.tup ds) (.int i)=VQ ds i:=rfl
@[simp] theorem zMG:cN (.lst ds) (.int i)=VQ ds i:=rfl
@[simp] theorem zKM{ks:List bV}:cN (.dct ks ds) (.int i)=cD ks ds (.inl i):=rfl
@[simp] theorem zKL{ks:List bV}:cN (.dct ks ds) (.str x)=cD ks ds (.inr x):=rfl
@[simp] theorem zOF:MH (.int i)=true:=rfl
@[simp] theorem zOE:MH .non=true:=rfl
@[simp] theorem zOG{b:Bool}:MH (.bl b)=true:=rfl
@[simp] theorem zN0:PY "int" "bool"=some false:=by decide+kernel
@[simp] theorem zMZ:PY "int" "int"=some true:=by decide+kernel
@[simp] theorem zMY:PY "tuple" "tuple"=some true:=by decide+kernel
@[simp] theorem zMX:PY "str" "str"=some true:=by decide+kernel
@[simp] theorem zMK{n:String}:Q0 (.int i) (.ty n)=(PY "int" n).map dF.bl:=rfl
@[simp] theorem zMH{n:String}:Q0 (.tup ds) (.ty n)=(PY "tuple" n).map dF.bl:=rfl
@[simp] theorem zMJ{n:String}:Q0 (.lst ds) (.ty n)=(PY "list" n).map dF.bl:=rfl
@[simp] theorem zMI{n:String}:Q0 (.str x) (.ty n)=(PY "str" n).map dF.bl:=rfl
@[simp] theorem zMN:G3 .non .non=some (.bl true):=rfl
@[simp] theorem zMO:G3 (.int i) .non=some (.bl false):=rfl
@[simp] theorem zMM:G3 (.str x) .non=some (.bl false):=rfl
@[simp] theorem zML:G3 (.tup ds) .non=some (.bl false):=rfl
@[simp] theorem zKH:OD .non .non=some (.bl false):=rfl
@[simp] theorem zKI:OD (.int i) .non=some (.bl true):=rfl
@[simp] theorem zKG:OD (.str x) .non=some (.bl true):=rfl
@[simp] theorem zKF:OD (.tup ds) .non=some (.bl true):=rfl
end
section
variable{d x:dF}{δ δ1:Ev}{r acc:List dF}{gg:VG}{tb:VB}{fe:VF}{n nl:Nat}{g:VS}
noncomputable def qk1(n nl:Nat)(gg:VG)(tb:VB)(fe:VF)(r acc:List dF)(o:Option Ev):Option (List dF×Ev):=o.bind fun δ1=>(tb δ1).bind fun p=>if p.1=true then(fe p.2).bind fun q=>if acc.length<16777216 then aS n nl gg tb fe r (acc++[q.1]) (q.2.take n) else none else aS n nl gg tb fe r acc (p.2.take n)
noncomputable def qk2(n nl:Nat)(gg:VG)(tb:VB)(fe:VF)(r acc:List dF)(o:Option (Bool×Ev)):Option (List dF×Ev):=o.bind fun p=>if p.1=true then(fe p.2).bind fun q=>if acc.length<16777216 then aS n nl gg tb fe r (acc++[q.1]) (q.2.take n) else none else aS n nl gg tb fe r acc (p.2.take n)
noncomputable def qk3(n nl:Nat)(gg:VG)(tb:VB)(fe:VF)(r acc:List dF)(o:Option (dF×Ev)):Option (List dF×Ev):=o.bind fun q=>if acc.length<16777216 then aS n nl gg tb fe r (acc++[q.1]) (q.2.take n) else none
@[simp] theorem zKV:aS n nl gg tb fe [] acc δ=some (acc,δ):=rfl
@[simp] theorem RL:aS n nl gg tb fe (d::r) acc δ=qk1 n nl gg tb fe r acc (gg d (δ++OC nl)):=rfl
@[simp] theorem JP:qk1 n nl gg tb fe r acc (some δ)=qk2 n nl gg tb fe r acc (tb δ):=rfl
@[simp] theorem AS:qk2 n nl gg tb fe r acc (some (true,δ))=qk3 n nl gg tb fe r acc (fe δ):=rfl
@[simp] theorem zDK:qk2 n nl gg tb fe r acc (some (false,δ))=aS n nl gg tb fe r acc (δ.take n):=rfl
@[simp] theorem AT:qk3 n nl gg tb fe r acc (some (x,δ))=if acc.length<16777216 then aS n nl gg tb fe r (acc++[x]) (δ.take n) else none:=rfl
noncomputable def qf1(gg:VG)(g:VS)(r:List dF)(o:Option Ev):Option Ou:=o.bind fun δ1=>(g δ1).bind (again (XZ gg g r))
noncomputable def qf2(gg:VG)(g:VS)(r:List dF)(o:Option Ou):Option Ou:=o.bind (again (XZ gg g r))
@[simp] theorem zN3:XZ gg g [] δ=some (.nx δ):=rfl
@[simp] theorem US:XZ gg g (d::r) δ=qf1 gg g r (gg d δ):=rfl
@[simp] theorem QG:qf1 gg g r (some δ)=qf2 gg g r (g δ):=rfl
@[simp] theorem QH:qf2 gg g r (some (.nx δ))=XZ gg g r δ:=rfl
@[simp] theorem zNQ:qf2 gg g r (some (.ct δ))=XZ gg g r δ:=rfl
@[simp] theorem zNR:qf2 gg g r (some (.bk δ))=some (.nx δ):=rfl
@[simp] theorem zNP:qf2 gg g r (some (.rt d δ))=some (.rt d δ):=rfl
@[simp] theorem zKZ{ss:Ev}:ZX [] ss δ=δ:=by cases ss<;>rfl
@[simp] theorem zKY{i:Nat}{is:List Nat}{ss:Ev}:ZX (i::is) (.ow d::ss) δ=ZX is ss (δ.set i (.ow d)):=rfl
@[simp] theorem zKX{i:Nat}{is:List Nat}{ss:Ev}:ZX (i::is) (.va d::ss) δ=ZX is ss δ:=rfl
@[simp] theorem zKW{i:Nat}{is:List Nat}{ss:Ev}:ZX (i::is) (.no::ss) δ=ZX is ss δ:=rfl
end
@[simp] theorem zAB:OC 1=[.no]:=rfl
@[simp] theorem zDS:OC 2=[.no,.no]:=rfl
@[simp] theorem zOK:OC 3=[.no,.no,.no]:=rfl
@[simp] theorem zLK{i:Int}:Z8 i 0=[]:=rfl
@[simp] theorem zLJ:Z8 0 1=[.int 0]:=rfl
@[simp] theorem zLI:Z8 0 2=[.int 0,.int 1]:=rfl
@[simp] theorem zLH:Z8 0 3=[.int 0,.int 1,.int 2]:=rfl
@[simp] theorem zLG:Z8 0 4=[.int 0,.int 1,.int 2,.int 3]:=rfl
theorem WT{α:Type}{xs:List α}{i:Int}(h0:0<=i)(h1:i<xs.length):VQ xs i=xs[i.toNat]? :=by
 unfold VQ ixN;rw[if_pos h0,if_pos h1];rfl
theorem GN{α:Type}{xs:List α}{i:Int}(h0:0<=i)(h1:i<xs.length): ∃x∈xs,VQ xs i=some x:=by
 rw[WT h0 h1];have h:i.toNat<xs.length:=by lia
 exact⟨xs[i.toNat],Gi _,Ct h⟩
section
variable{F:a0}{fa fb fc:VF}{δ:Ev}{x y z d o:dF}{j:Nat}
noncomputable def DZ(δ:Ev):Option (dF×List dF)->Option (dF×Ev)
 |some (d,[])=>some (d,δ)
 |_=>none
@[simp] theorem zNS:DZ δ (some (d,[]))=some (d,δ):=rfl
theorem GO{n:Nat}{ds:List dF}{as:List AV}(h:W3 δ as=some ds)(hn:ds.length=n)(hj:VH as=[])(ha:XE [] as 0=true):qCb n [] F as δ (some ds)=DZ δ (F ds):=by
 have hc:VT [] as δ=true:=by simp[hj]
 rw[zII,if_pos ⟨hn,hc⟩];cases F ds with
 |none=>rfl
 |some q=>
  obtain⟨r,os⟩:=q;rw[zIH];cases os with
  |nil=>simp[ha,DZ]
  |cons o os=>simp[DZ]
noncomputable def qx1(F:a0)(r:Option (dF×Ev)):Option (dF×Ev):=r.bind fun p=>DZ p.2 (F [p.1])
@[simp] theorem zNH:qx1 F (some (x,δ))=DZ δ (F [x]):=rfl
@[simp high] theorem call1:cU 1 [] F (aE fa cC) δ=qx1 F (fa δ):=by
 rw[PC,HW];cases fa δ with
 |none=>rfl
 |some p=>exact GO (as:=[.d p.1]) rfl rfl rfl rfl
noncomputable def qx2(F:a0)(r:Option (dF×Ev))(fb:VF):Option (dF×Ev):=r.bind fun p=>(fb p.2).bind fun q=>DZ q.2 (F [p.1,q.1])
noncomputable def qx2b(F:a0)(x:dF)(r:Option (dF×Ev)):Option (dF×Ev):=r.bind fun q=>DZ q.2 (F [x,q.1])
@[simp] theorem zID:qx2 F (some (x,δ)) fb=qx2b F x (fb δ):=rfl
@[simp] theorem zLM:qx2b F x (some (y,δ))=DZ δ (F [x,y]):=rfl
@[simp high] theorem call2:cU 2 [] F (aE fa (aE fb cC)) δ=qx2 F (fa δ) fb:=by
 rw[PC,HW];cases fa δ with
 |none=>rfl
 |some p=>
  rw[AQ,HW,zID];cases fb p.2 with
  |none=>rfl
  |some q=>exact GO (as:=[.d p.1,.d q.1]) rfl rfl rfl rfl
noncomputable def qx3(F:a0)(r:Option (dF×Ev))(fb fc:VF):Option (dF×Ev):=r.bind fun p=>(fb p.2).bind fun q=>(fc q.2).bind fun s=>DZ s.2 (F [p.1,q.1,s.1])
noncomputable def qx3b(F:a0)(x:dF)(r:Option (dF×Ev))(fc:VF):Option (dF×Ev):=r.bind fun q=>(fc q.2).bind fun s=>DZ s.2 (F [x,q.1,s.1])
noncomputable def qx3c(F:a0)(x y:dF)(r:Option (dF×Ev)):Option (dF×Ev):=r.bind fun s=>DZ s.2 (F [x,y,s.1])
@[simp] theorem zIC:qx3 F (some (x,δ)) fb fc=qx3b F x (fb δ) fc:=rfl
@[simp] theorem zF3:qx3b F x (some (y,δ)) fc=qx3c F x y (fc δ):=rfl
@[simp] theorem zLL:qx3c F x y (some (z,δ))=DZ δ (F [x,y,z]):=rfl
@[simp high] theorem call3:cU 3 [] F (aE fa (aE fb (aE fc cC))) δ=qx3 F (fa δ) fb fc:=by
 rw[PC,HW];cases fa δ with
 |none=>rfl
 |some p=>
  rw[AQ,HW,zIC];cases fb p.2 with
  |none=>rfl
  |some q=>
   rw[AQ,HW,zF3];cases fc q.2 with
   |none=>rfl
   |some s=>exact GO (as:=[.d p.1,.d q.1,.d s.1]) rfl rfl rfl rfl
noncomputable def qw3(j:Nat)(δ:Ev):Option (dF×List dF)->Option (dF×Ev)
 |some (r,[o])=>some (r,δ.set j (.ow o))
 |_=>none
noncomputable def qw2(F:a0)(j:Nat)(x y:dF)(δ:Ev):Option Sl->Option (dF×Ev)
 |some (.ow d)=>qw3 j δ (F [x,d,y])
 |_=>none
noncomputable def qwb(F:a0)(j:Nat)(x:dF)(r:Option (dF×Ev)):Option (dF×Ev):=r.bind fun q=>qw2 F j x q.1 q.2 q.2[j]?
noncomputable def qwa(F:a0)(j:Nat)(x:dF)(δ:Ev)(fb:VF)(s:Option dF):Option (dF×Ev):=s.bind fun _=>qwb F j x (fb δ)
noncomputable def qw(F:a0)(j:Nat)(r:Option (dF×Ev))(fb:VF):Option (dF×Ev):=r.bind fun p=>qwa F j p.1 p.2 fb (slot p.2 j)
@[simp] theorem zNI:qw3 j δ (some (x,[o]))=some (x,δ.set j (.ow o)):=rfl
@[simp] theorem zNJ:qw2 F j x y δ (some (.ow d))=qw3 j δ (F [x,d,y]):=rfl
@[simp] theorem zIE:qwb F j x (some (y,δ))=qw2 F j x y δ δ[j]? :=rfl
@[simp] theorem zIF:qwa F j x δ fb (some d)=qwb F j x (fb δ):=rfl
@[simp] theorem qw_s:qw F j (some (x,δ)) fb=qwa F j x δ fb (slot δ j):=rfl
@[simp high] theorem callO:cU 3 [1] F (aE fa (aO j (aE fb cC))) δ=qw F j (fa δ) fb:=by
 rw[PC,HW];cases fa δ with
 |none=>rfl
 |some p=>
  obtain⟨x,δ1⟩:=p;rw[AQ,aO_e,qw_s];cases h:slot δ1 j with
  |none=>rfl
  |some d0=>
   rw[zIG,HW,zIF];cases fb δ1 with
   |none=>rfl
   |some q=>
    obtain⟨y,δ2⟩:=q;rw[zIE,AQ,zHH,AR,AR,AR,zBY];cases h2:δ2[j]? with
    |none=>simp[h2,qsl,qCb,qw2]
    |some s=>
     cases s with
     |no=>simp[h2,qsl,qCb,qw2]
     |va d=>simp[h2,qw2]
     |ow d=>
      simp[h2];cases F [x,d,y] with
      |none=>rfl
      |some r=>
       obtain⟨v,os⟩:=r;cases os with
       |nil=>simp[qw3]
       |cons o os=>
        cases os with
        |nil=>simp
        |cons o2 os=>simp[qw3]
end
def UQ:dF:= .int 999
def EQ:dF:= .tup [.str "plus",.str "minus",.str "times",.str "least",.str "most",.str "less",.str "over"]
def UP:dF:= .int 64
def UO:dF:= .int 40
def VR:dF:= .int 63
def RK:dF:= .tup [.str "row",.str "row"]
def T0:dF:= .dct [.inr "number",.inr "pick",.inr "load",.inr "take",.inr "store",.inr "put"] [.tup [.str "word"],.tup [.str "row",.str "row",.str "row"],.tup [.str "place"],.tup [.str "place",.str "row",.str "row"],.tup [.str "place",.str "row"],.tup [.str "place",.str "row",.str "row"]]
def T6:dF:= .tup [.str "load",.str "take"]
def Z1:dF:= .tup [.str "store",.str "put"]
def SX:VS:=
   (cK (VJ (HS (fB (f2 Q0 (fV 0) (fC (.ty "bool")))) (M5 (fB (f2 Q0 (fV 0) (fC (.ty "int"))))))
   (bO (fC (.bl false)))
   ZV)
   (bO (f3 oLe oLe (fV 1) (fV 0) (fV 2))))
def aM:a0:=Z0 3 [] SX
def NY:VS:=
   (cK (VJ (fB (f2 (bJ false) (fV 0) (fC EQ)))
   (bO (fC RK))
   ZV)
   (bO (f2 zDQ (fC T0) (fV 0))))
def bD:a0:=Z0 1 [] NY
def VY:VS:=
   (bO (f2 (bJ true) (f2 cN (fV 0) (fC (.int 0))) (fC Z1)))
def ZH:a0:=Z0 1 [] VY
def VZ:VS:=
   (bO (fIf (HS (fB (f2 (bJ false) (f2 cN (fV 0) (fC (.int 0))) (fC T6))) (fB (f2 (bJ false) (f2 cN (fV 0) (fC (.int 0))) (fC Z1)))) (f2 cN (fV 0) (fC (.int 1))) (fC .non)))
def ZO:a0:=Z0 1 [] VZ
def NX:VS:=
   (cK (MO 1 2 (fV 0))
   (bO (aL [] 2 (iZip (cU 1 [] bD (aE (fV 1) cC)) (fV 2)) (NB 2 (b7 (gN 0) (b7 (gN 1) YS))) (fB (f2 W9 (fV 0) (fC (.str "row")))) (fV 1))))
def aN:a0:=Z0 3 [] NX
def RP:VS:=
   (bO (f2 Y4 (EV (fV 0) CM (FM (f2 NE (f1 aF (fV 0)) (f1 aF (fV 1))))) (f1 XH (fV 1))))
def ZI:a0:=Z0 2 [] RP
def TC:VS:=
   (bO (RO (cU 3 [] aM (aE (fV 0) (aE (fC (.int 0)) (aE (f2 NE (f1 aF (fV 1)) (fC (.int 1))) cC)))) (f2 cN (fV 1) (fV 0))))
def YE:a0:=Z0 2 [] TC
def NV:VS:=
   (cK (VJ (fB (f2 W9 (fV 0) (fC (.str "word"))))
   (bO (cU 3 [] aM (aE (fV 1) (aE (fC (.int 0)) (aE (fC UQ) cC)))))
   ZV)
   (cK (VJ (fB (f2 W9 (fV 0) (fC (.str "place"))))
   (bO (cU 3 [] aM (aE (fV 1) (aE (fC (.int 0)) (aE (fC VR) cC)))))
   ZV)
   (bO (cU 2 [] YE (aE (fV 1) (aE (fV 2) cC))))))
def WR:a0:=Z0 3 [] NV
def NW:VS:=
   (cK (VJ (HS (M5 (fB (f2 Q0 (fV 0) (fC (.ty "tuple"))))) (fB (f2 W9 (f1 aF (fV 0)) (fC (.int 0)))))
   (bO (fC (.bl false)))
   ZV)
   (cK (MO 2 3 (fV 0))
   (cK (Z9 4 (xV (fIf (fB (f2 Q0 (fV 2) (fC (.ty "str")))) (cU 1 [] bD (aE (fV 2) cC)) (fC .non))))
   (cK (VJ (HS (fB (f2 G3 (fV 4) (fC .non))) (fB (f2 P0 (f1 aF (fV 4)) (f1 aF (fV 3)))))
   (bO (fC (.bl false)))
   ZV)
   (bO (f1 oAll (aL [1] 2 (iZip (fV 4) (fV 3)) (NB 2 (b7 (gN 1) (b7 (gN 2) YS))) XX (cU 3 [] WR (aE (fV 1) (aE (fV 2) (aE (fV 0) cC)))))))))))
def WC:a0:=Z0 5 [] NW
def YO:VS:=
   (cK (VJ (M5 (fB (cU 2 [] WC (aE (fV 4) (aO 3 cC)))))
   (bO (fC (.bl false)))
   ZV)
   (VL 3 UZ (c9 (cU 1 [] ZH (aE (fV 4) cC)) cF)))
def SW:VS:=
   (cK (VJ (HS (M5 (fB (f2 Q0 (fV 0) (fC (.ty "tuple"))))) (fB (f2 P0 (f1 aF (fV 0)) (fC (.int 2)))))
   (bO (fC (.bl false)))
   ZV)
   (cK (JT (fV 0) (NB 2 (b7 (gN 1) (b7 (gN 2) YS))))
   (cK (VJ (M5 (fB (cU 3 [] aM (aE (fV 1) (aE (fC (.int 0)) (aE (fC UP) cC))))))
   (bO (fC (.bl false)))
   ZV)
   (cK (VJ (HS (M5 (fB (f2 Q0 (fV 2) (fC (.ty "tuple"))))) (fB (f2 oGt (f1 aF (fV 2)) (fC UO))))
   (bO (fC (.bl false)))
   ZV)
   (cK (Z9 3 (xO (YY cF)))
   (cK (P4 (XA (fV 2)) (gN 4)
   YO)
   (bO (fC (.bl true)))))))))
def YB:a0:=Z0 5 [] SW
def N2:VS:=
   (bO (f2 (bJ false) (f2 cN (fV 0) (fC (.int 0))) (fC Z1)))
def WD:a0:=Z0 1 [] N2
def YH:VS:=
   (bO (RO (f2 W9 (f2 cN (fV 0) (fC (.int 0))) (fC (.str "number"))) (f2 P0 (f2 cN (fV 0) (fC (.int 1))) (fC (.int 0)))))
def aP:a0:=Z0 1 [] YH
def UT:VS:=
   (cK (JT (fV 0) (NB 2 (b7 (gN 2) (b7 (gN 3) YS))))
   (cK (Z9 4 (xV (f2 cN (fV 3) (fV 1))))
   (cK (VJ (fB (f2 W9 (f2 cN (fV 4) (fC (.int 0))) (fC (.str "over"))))
   (bO (fNot (cU 1 [] aP (aE (f2 cN (fV 3) (f2 cN (fV 4) (fC (.int 2)))) cC))))
   ZV)
   (cK (Z9 5 (xV (cU 1 [] ZO (aE (fV 4) cC))))
   (bO (RO (f2 OD (fV 5) (fC .non)) (f2 oGe (fV 5) (fV 2))))))))
def Y1:a0:=Z0 6 [] UT
def ZA:VS:=
   (VJ (HS (fB (DE 2 (fV 3))) (HS (fB (cU 1 [] WD (aE (f2 cN (fV 1) (fV 3)) cC))) (fB (cU 2 [] Y1 (aE (fV 0) (aE (fV 3) cC))))))
   (cK (SG 2 (fV 3) (fC (.bl true)))
   (MM 2 (WV [] 1 (XA (cU 1 [] aN (aE (f2 cN (fV 1) (fV 3)) cC))) (gN 0) XX (fV 0) (fC (.bl true)))))
   ZV)
def WX:VS:=
   (cK (VJ (M5 (fB (cU 1 [] YB (aE (fV 0) cC))))
   (fun _=>none)
   ZV)
   (cK (Z9 1 (xV (f2 cN (fV 0) (fC (.int 1)))))
   (cK (Z9 2 (xO (fC (.dct [] []))))
   (cK (P4 (iRB (f1 aF (fV 1))) (gN 3)
   ZA)
   (bO (NU 2))))))
def aR:a0:=Z0 4 [] WX
def TD:VS:=
   (cK (Z9 1 (xV (cU 1 [] aR (aE (fV 0) cC))))
   (bO (aL [1] 1 (iR1 (f1 aF (f2 cN (fV 0) (fC (.int 1))))) (gN 1) (fB (f2 (bJ true) (fV 1) (fV 0))) (fV 1))))
def Y5:a0:=Z0 2 [] TD
def NZ:VS:=
   (cK (Z9 1 (xV (cU 1 [] aR (aE (fV 0) cC))))
   (cK (Z9 2 (xO (WV [] 2 (RS (fV 1)) (NB 2 (b7 (gN 0) (b7 (gN 1) YS))) XX (fV 1) (fV 0))))
   (cK (JT (fV 0) (NB 2 (b7 (gN 3) (b7 (gN 4) YS))))
   (cK (Z9 5 (xV (aL [2,4] 1 (XA (fV 1)) (gN 2) XX (cU 2 [] ZI (aE (f2 cN (fV 1) (fV 2)) (aE (aL [0] 1 (XA (cU 1 [] aN (aE (f2 cN (fV 1) (fV 2)) cC))) (gN 1) XX (f2 cN (fO 0) (fV 1))) cC))))))
   (bO (Z3 (c9 (Z3 (c9 (fV 3) (c9 (f1 XH (fV 5)) cF))) (c9 (aL [2] 1 (iR1 (f1 aF (fV 4))) (gN 1) XX (SV 0 (fV 1))) cF))))))))
def XC:a0:=Z0 6 [] NZ
def VM:VS:=
   (Z9 2 (xV (f2 FG (fV 2) (fC (.int 1000003)))))
def WW:VS:=
   (cK (VJ (fB (f2 oLt (fV 1) (f1 aF (fV 0))))
   (bO (f2 cN (fV 0) (fV 1)))
   ZV)
   (cK (VJ (fB (f2 W9 (fV 0) (YY cF)))
   (bO (fC (.int 0)))
   ZV)
   (cK (Z9 2 (xV (f2 cN (fV 0) (f2 LA (fV 1) (f1 aF (fV 0))))))
   (cK (P4 (iR1 (f2 oMin (f2 FG (fV 1) (f1 aF (fV 0))) (fC (.int 60)))) (gN 3)
   VM)
   (bO (f2 Y4 (f2 Y4 (f2 OE (f2 cN (fV 0) (f2 LA (fV 1) (f1 aF (fV 0)))) (fC (.int 31))) (fV 1)) (f2 OE (fV 2) (fC (.int 101)))))))))
def aQ:a0:=Z0 4 [] WW
def UU:VS:=
   (cK (Z9 3 (xV (f2 LA (f2 Y4 (f2 Y4 (f2 OE (cU 2 [] aQ (aE (fV 0) (aE (fV 1) cC))) (fC (.int 1103515245))) (f2 OE (fC (.int 7919)) (fV 1))) (fC (.int 12345))) (fC (.int 2147483647)))))
   (bO (f2 LA (f2 LA (f2 LA (f2 oPow (fV 3) (fC (.int 5))) (fC (.int 2147483647))) (fC (.int 999983))) (fV 2))))
def Y2:a0:=Z0 4 [] UU
def SY:VS:=
   (cK (VL 1 UZ (c9 (fC (.int 0)) cF))
   (bO (cU 3 [] Y2 (aE (fV 0) (aE (f1 aF (fO 1)) (aE (fV 2) cC))))))
def cG:a0:=Z0 3 [1] SY
def S8:VS:=
   (bO (f2 cN (fV 2) (cU 3 [1] cG (aE (fV 0) (aO 1 (aE (f1 aF (fV 2)) cC))))))
def bY:a0:=Z0 3 [1] S8
def UV:VS:=
   (cK (SG 2 (fV 3) (f2 LA (f2 Y4 (K2 2 (fV 3) (cU 3 [1] cG (aE (fV 0) (aO 1 (aE (fV 4) cC))))) (cU 3 [1] bY (aE (fV 0) (aO 1 (aE (YY (c9 (fC (.int 1)) (c9 (fC (.int 1)) (c9 (fC (.int 1)) (c9 (fC (.int 0)) (c9 (fC (.int 3)) cF)))))) cC))))) (fV 4)))
   (bO (f2 cN (fO 2) (fV 3))))
def a8:a0:=Z0 5 [1,2] UV
def QT:VS:=
   (cK (Z9 5 (xV (cU 3 [1] cG (aE (fV 0) (aO 1 (aE (fC (.int 13)) cC))))))
   (cK (VJ (HS (fB (f2 W9 (fV 2) (YY cF))) (fB (f2 W9 (fV 5) (fC (.int 0)))))
   (cK (VJ (fB (f2 W9 (cU 3 [1] cG (aE (fV 0) (aO 1 (aE (fC (.int 2)) cC)))) (fC (.int 0))))
   (bO (Z3 (c9 (fC (.str "number")) (c9 (cU 3 [1] bY (aE (fV 0) (aO 1 (aE (YY (c9 (fC (.int 0)) (c9 (fC (.int 1)) (c9 (fC (.int 2)) (c9 (fC (.int 5)) (c9 (fC (.int 999)) (c9 (cU 3 [1] cG (aE (fV 0) (aO 1 (aE (fC (.int 1000)) cC)))) cF))))))) cC)))) cF))))
   ZV)
   (bO (Z3 (c9 (fC (.str "load")) (c9 (cU 5 [1,2] a8 (aE (fV 0) (aO 1 (aO 3 (aE (fC (.str "load")) (aE (fV 4) cC)))))) cF)))))
   ZV)
   (cK (JT (aL [0,1,2] 1 (iR1 (fC (.int 3))) (gN 3) XX (f2 cN (fV 2) (f2 oMax (fC (.int 0)) (f2 NE (f2 NE (f1 aF (fV 2)) (fC (.int 1))) (cU 3 [1] cG (aE (fV 0) (aO 1 (aE (fC (.int 6)) cC)))))))) (NB 3 (b7 (gN 6) (b7 (gN 7) (b7 (gN 8) YS)))))
   (cK (VJ (fB (f2 (bJ false) (fV 5) (Z3 (c9 (fC (.int 1)) (c9 (fC (.int 2)) cF)))))
   (bO (Z3 (c9 (fC (.str "load")) (c9 (cU 5 [1,2] a8 (aE (fV 0) (aO 1 (aO 3 (aE (fC (.str "load")) (aE (fV 4) cC)))))) cF))))
   ZV)
   (cK (VJ (fB (f2 W9 (fV 5) (fC (.int 3))))
   (bO (Z3 (c9 (fC (.str "take")) (c9 (cU 5 [1,2] a8 (aE (fV 0) (aO 1 (aO 3 (aE (fC (.str "take")) (aE (fV 4) cC)))))) (c9 (fV 8) (c9 (fV 6) cF))))))
   ZV)
   (cK (VJ (fB (f2 (bJ false) (fV 5) (Z3 (c9 (fC (.int 4)) (c9 (fC (.int 5)) cF)))))
   (bO (Z3 (c9 (fC (.str "store")) (c9 (cU 5 [1,2] a8 (aE (fV 0) (aO 1 (aO 3 (aE (fC (.str "store")) (aE (fV 4) cC)))))) (c9 (fV 6) cF)))))
   ZV)
   (cK (VJ (fB (f2 W9 (fV 5) (fC (.int 6))))
   (bO (Z3 (c9 (fC (.str "put")) (c9 (cU 5 [1,2] a8 (aE (fV 0) (aO 1 (aO 3 (aE (fC (.str "put")) (aE (fV 4) cC)))))) (c9 (fV 6) (c9 (fV 8) cF))))))
   ZV)
   (cK (VJ (fB (f2 W9 (fV 5) (fC (.int 7))))
   (bO (Z3 (c9 (fC (.str "pick")) (c9 (fV 8) (c9 (fV 6) (c9 (fV 7) cF))))))
   ZV)
   (bO (Z3 (c9 (f2 cN (YY (c9 (fC (.str "over")) (c9 (fC (.str "plus")) (c9 (fC (.str "minus")) (c9 (fC (.str "times")) (c9 (fC (.str "least")) (c9 (fC (.str "most")) (c9 (fC (.str "less")) cF)))))))) (cU 3 [1] cG (aE (fV 0) (aO 1 (aE (fC (.int 7)) cC))))) (c9 (fV 6) (c9 (fV 7) cF)))))))))))))
def XM:a0:=Z0 9 [1,3] QT
def ZJ:VS:=
   (cK (Z9 10 (xV (f2 Y4 (f2 G2 (fV 3) (fV 9)) (cU 3 [1] bY (aE (fV 0) (aO 1 (aE (YY (c9 (fC (.int 1)) (c9 (fC (.int 1)) (c9 (fC (.int 1)) (c9 (fC (.int 1)) (c9 (f1 JH (fC (.int 1))) (c9 (fC (.int 0)) (c9 (fC (.int 2)) cF)))))))) cC)))))))
   (VL 8 UZ (c9 (fIf (NL (fB (f3 oLe oLt (fC (.int 0)) (fV 10) (f1 aF (fV 3)))) (fB (f2 P0 (f2 cN (fV 3) (fV 10)) (f2 NE (f1 aF (fV 2)) (fC (.int 1)))))) (f2 cN (fV 3) (fV 10)) (fV 9)) cF)))
def VW:VS:=
   (cK (Z9 6 (xV (f2 cN (fV 2) (f1 JH (fC (.int 1))))))
   (cK (Z9 7 (xV (fIf (fB (f2 (bJ false) (f2 cN (fV 6) (fC (.int 0))) (Z3 (c9 (fC (.str "load")) (c9 (fC (.str "take")) (c9 (fC (.str "store")) (c9 (fC (.str "put")) cF))))))) (fC (.int 2)) (fC (.int 1)))))
   (cK (Z9 8 (xO (YY cF)))
   (cK (P4 (XA (EV (fV 6) (FM (fV 7)) CM)) (gN 9)
   ZJ)
   (cK (VJ (fB (f2 W9 (fV 7) (fC (.int 1))))
   (bO (f2 Y4 (EV (fV 6) CM (FM (fC (.int 1)))) (f1 XH (fO 8))))
   ZV)
   (cK (SG 4 (f2 cN (fV 6) (fC (.int 0))) (f2 LA (f2 Y4 (f2 cN (fV 6) (fC (.int 1))) (fC (.int 1))) (fV 5)))
   (bO (f2 Y4 (Z3 (c9 (f2 cN (fV 6) (fC (.int 0))) (c9 (f2 cN (fO 4) (f2 cN (fV 6) (fC (.int 0)))) cF))) (f1 XH (fO 8))))))))))
def Z4:a0:=Z0 11 [1,4] VW
def ZK:VS:=
   (VJ (NL (fB (f2 oLt (f1 aF (fO 4)) (fV 2))) (fB (f2 P0 (f2 cN (f2 cN (fO 4) (f1 JH (fC (.int 1)))) (fC (.int 0))) (fC (.str "number")))))
   (cK (VL 4 UZ (c9 (cU 6 [1,4] Z4 (aE (fV 0) (aO 1 (aO 4 (aO 5 (aO 6 (aE (fV 3) cC))))))) cF))
   (VJ (fB (f2 (bJ true) (f2 cN (f2 cN (fO 4) (f1 JH (fC (.int 1)))) (fC (.int 0))) (Z3 (c9 (fC (.str "store")) (c9 (fC (.str "put")) cF)))))
   (VL 5 UZ (c9 (f2 NE (f1 aF (fO 4)) (fC (.int 1))) cF))
   ZV))
   ZV)
def XS:VS:=
   (cK (VL 4 UZ (c9 (cU 5 [1,3] XM (aE (fV 0) (aO 1 (aO 5 (aO 6 (aE (fV 3) cC)))))) cF))
   (cK (VJ (fB (f2 (bJ true) (f2 cN (f2 cN (fO 4) (f1 JH (fC (.int 1)))) (fC (.int 0))) (Z3 (c9 (fC (.str "store")) (c9 (fC (.str "put")) cF)))))
   (VL 5 UZ (c9 (f2 NE (f1 aF (fO 4)) (fC (.int 1))) cF))
   ZV)
   (P4 (iR1 (cU 3 [1] bY (aE (fV 0) (aO 1 (aE (YY (c9 (fC (.int 0)) (c9 (fC (.int 1)) (c9 (fC (.int 1)) (c9 (fC (.int 2)) (c9 (fC (.int 3)) cF)))))) cC))))) (gN 7)
   ZK)))
def S9:VS:=
   (cK (OL 4 5 6 (xO (YY cF)) (xO (YY cF)) (xO (fC (.dct [] []))))
   (cK (TR (fB (f2 oLt (f1 aF (fO 4)) (fV 2)))
   XS)
   (bO (f1 XH (fO 4)))))
def YD:a0:=Z0 8 [1] S9
def P9:VS:=
   (cK (VJ (fB (f2 W9 (f2 cN (fV 0) (fC (.int 0))) (fC (.str "number"))))
   (bO (YY cF))
   ZV)
   (bO (fIf (fB (f2 (bJ false) (f2 cN (fV 0) (fC (.int 0))) (Z3 (c9 (fC (.str "load")) (c9 (fC (.str "take")) (c9 (fC (.str "store")) (c9 (fC (.str "put")) cF))))))) (f1 JF (EV (fV 0) (FM (fC (.int 2))) CM)) (f1 JF (EV (fV 0) (FM (fC (.int 1))) CM)))))
def bU:a0:=Z0 1 [] P9
def QS:VS:=
   (cK (Z9 2 (xV (f2 cN (f2 cN (fV 0) (fC (.int 1))) (fV 1))))
   (cK (VJ (fB (f2 (bJ false) (f2 cN (fV 2) (fC (.int 0))) (Z3 (c9 (fC (.str "load")) (c9 (fC (.str "take")) (c9 (fC (.str "store")) (c9 (fC (.str "put")) cF)))))))
   (bO (f2 oGe (f2 cN (fV 2) (fC (.int 1))) (f2 cN (fV 0) (fC (.int 0)))))
   ZV)
   (bO (RO (f2 W9 (f2 cN (fV 2) (fC (.int 0))) (fC (.str "over"))) (f2 (bJ true) (EV (f2 cN (f2 cN (fV 0) (fC (.int 1))) (f2 cN (fV 2) (fC (.int 2)))) CM (FM (fC (.int 2)))) (aL [] 1 (iR2 (fC (.int 1)) (fC (.int 1000))) (gN 0) XX (Z3 (c9 (fC (.str "number")) (c9 (fV 0) cF)))))))))
def aJ:a0:=Z0 3 [] QS
def XQ:VS:=
   (cK (Z9 7 (xV (aL [] 1 (XA (Z3 (c9 (fV 6) (c9 (fV 4) cF)))) (gN 0) (fB (f2 (bJ false) (f2 cN (fV 0) (fC (.int 0))) (Z3 (c9 (fC (.str "store")) (c9 (fC (.str "put")) cF))))) (fV 0))))
   (cK (Z9 8 (xO (YY (c9 (f2 (bJ false) (fV 5) (cU 1 [] bU (aE (fV 4) cC))) (c9 (RO (cU 2 [] aJ (aE (fV 0) (aE (fV 5) cC))) (cU 2 [] aJ (aE (fV 0) (aE (fV 3) cC)))) cF)))))
   (cK (VL 8 UZ (c9 (RO (f2 (bJ false) (f2 cN (fV 6) (fC (.int 0))) (fV 2)) (RO (f2 (bJ false) (f2 cN (fV 4) (fC (.int 0))) (fV 2)) (RO (f2 W9 (f2 cN (fV 6) (fC (.int 1))) (f2 cN (fV 4) (fC (.int 1)))) (f2 P0 (fV 7) (YY cF))))) cF))
   (cK (VL 8 UZ (c9 (RO (cU 2 [] aJ (aE (fV 0) (aE (fV 5) cC))) (f2 (bJ false) (f2 cN (fV 4) (fC (.int 0))) (Z3 (c9 (fC (.str "store")) (c9 (fC (.str "put")) cF))))) cF))
   (cK (VL 8 UZ (c9 (RO (cU 2 [] aJ (aE (fV 0) (aE (fV 3) cC))) (f2 (bJ false) (f2 cN (fV 6) (fC (.int 0))) (Z3 (c9 (fC (.str "store")) (c9 (fC (.str "put")) cF))))) cF))
   (VJ (fB (f2 (bJ false) (fC (.bl true)) (fO 8)))
   (VL 1 UZ (c9 (Z3 (c9 (fV 5) (c9 (fV 3) cF))) cF))
   ZV))))))
def XR:VS:=
   (P4 (RS (EV (f2 cN (fV 0) (fC (.int 1))) CM (FM (fV 3)))) (NB 2 (b7 (gN 5) (b7 (gN 6) YS)))
   XQ)
def SZ:VS:=
   (cK (OK 1 2 (xO (YY cF)) (xV (Z3 (c9 (fC (.str "load")) (c9 (fC (.str "take")) (c9 (fC (.str "store")) (c9 (fC (.str "put")) cF)))))))
   (cK (P4 (RS (f2 cN (fV 0) (fC (.int 1)))) (NB 2 (b7 (gN 3) (b7 (gN 4) YS)))
   XR)
   (bO (f1 G5 (fO 1)))))
def YC:a0:=Z0 9 [] SZ
def aC:VS:=
   (cK (Z9 6 (xV (aL [3,4] 1 (XA (fO 4)) (gN 2) (fB (f2 W9 (aL [1,2] 2 (XA (fV 0)) (NB 2 (b7 (gN 2) (b7 (gN 3) YS))) (NL (fB (f2 W9 (fV 3) (fV 1))) (fB (f2 (bJ false) (fV 2) (fO 0)))) (fC (.int 1))) (YY cF))) (fV 2))))
   (cK (VL 5 UZ (c9 (cU 3 [1] bY (aE (fV 0) (aO 1 (aE (fV 6) cC)))) cF))
   (VL 4 mRem (c9 (f2 cN (fO 5) (f1 JH (fC (.int 1)))) cF))))
def YR:VS:=
   (cK (OL 3 4 5 (xV (cU 1 [] YC (aE (fV 2) cC))) (xO (W5 (f1 aF (f2 cN (fV 2) (fC (.int 1)))))) (xO (YY cF)))
   (cK (TR (fB (f2 P0 (fO 4) (YY cF)))
   aC)
   (bO (fO 5))))
def aY:a0:=Z0 7 [1] YR
def bC:VS:=
   (cK (VJ (fB (f2 W9 (f2 cN (fV 0) (fC (.int 0))) (fC (.str "number"))))
   (bO (fV 0))
   ZV)
   (cK (Z9 2 (xV (fIf (fB (f2 (bJ false) (f2 cN (fV 0) (fC (.int 0))) (Z3 (c9 (fC (.str "load")) (c9 (fC (.str "take")) (c9 (fC (.str "store")) (c9 (fC (.str "put")) cF))))))) (fC (.int 2)) (fC (.int 1)))))
   (bO (f2 Y4 (EV (fV 0) CM (FM (fV 2))) (f1 XH (aL [1] 1 (XA (EV (fV 0) (FM (fV 2)) CM)) (gN 1) XX (f2 cN (fV 0) (fV 1))))))))
def cP:a0:=Z0 3 [] bC
def W6:VS:=
   (cK (Z9 3 (xV (cU 3 [1] bY (aE (fV 0) (aO 1 (aE (YY (c9 (fC (.int 3)) (c9 (fC (.int 6)) (c9 (fC (.int 9)) (c9 (fC (.int 64)) cF))))) cC))))))
   (cK (Z9 4 (xV (cU 3 [1] bY (aE (fV 0) (aO 1 (aE (YY (c9 (fC (.int 0)) (c9 (fV 3) (c9 (fV 3) (c9 (cU 3 [1] cG (aE (fV 0) (aO 1 (aE (f2 Y4 (fV 3) (fC (.int 1))) cC)))) cF))))) cC))))))
   (cK (Z9 5 (xV (Z3 (c9 (fV 4) (c9 (cU 4 [1] YD (aE (fV 0) (aO 1 (aE (cU 3 [1] cG (aE (fV 0) (aO 1 (aE (f2 Y4 (fV 2) (fC (.int 1))) cC)))) (aE (fV 3) cC))))) cF)))))
   (cK (VJ (fB (f2 oGt (cU 3 [1] cG (aE (fV 0) (aO 1 (aE (fC (.int 3)) cC)))) (fC (.int 0))))
   (bO (fV 5))
   ZV)
   (cK (Z9 6 (xV (cU 3 [1] aY (aE (fV 0) (aO 1 (aE (fV 5) cC))))))
   (cK (Z9 7 (xV (f1 FF (aL [] 2 (RS (fV 6)) (NB 2 (b7 (gN 0) (b7 (gN 1) YS))) XX (Z3 (c9 (fV 1) (c9 (fV 0) cF)))))))
   (bO (Z3 (c9 (fV 4) (c9 (f1 XH (aL [5,7] 1 (XA (fV 6)) (gN 2) XX (cU 2 [] cP (aE (f2 cN (f2 cN (fV 0) (fC (.int 1))) (fV 2)) (aE (fV 1) cC))))) cF))))))))))
def ZN:a0:=Z0 8 [1] W6
def OY:VS:=
   (cK (SG 9 (fV 4) (f1 aF (fO 8)))
   (VL 8 UZ (c9 (cU 2 [] cP (aE (f2 cN (f2 cN (fV 2) (fC (.int 1))) (fV 4)) (aO 9 cC))) cF)))
def OZ:VS:=
   (cK (Z9 5 (xV (aL [2,4] 1 (XA (fO 3)) (gN 2) (fB (f2 (bJ false) (fV 1) (cU 1 [] bU (aE (f2 cN (f2 cN (fV 0) (fC (.int 1))) (fV 2)) cC)))) (fV 2))))
   (VJ (HS (fB (f2 (bJ false) (f2 cN (f2 cN (f2 cN (fV 2) (fC (.int 1))) (fV 4)) (fC (.int 0))) (Z3 (c9 (fC (.str "store")) (c9 (fC (.str "put")) cF))))) (HS (fB (cU 2 [] aJ (aE (fV 2) (aE (fV 4) cC)))) (fB (f2 P0 (fV 5) (YY cF)))))
   (VL 3 UZ (c9 (fV 4) cF))
   ZV))
def zB1:VS:=
   (cK (Z9 1 (xO (YY cF)))
   (cK (Z9 2 (xV (cU 3 [1] ZN (aE (fV 0) (aO 1 (aE (fC (.int 20)) cC))))))
   (cK (Z9 3 (xO (YY cF)))
   (cK (P4 (iRB (f1 aF (f2 cN (fV 2) (fC (.int 1))))) (gN 4)
   OZ)
   (cK (VJ (fB (f2 P0 (cU 1 [] Y5 (aE (fV 2) cC)) (aL [3] 1 (iR1 (f1 aF (f2 cN (fV 2) (fC (.int 1))))) (gN 1) (fB (f2 (bJ true) (fV 1) (fO 0))) (fV 1))))
   (bO (fC (.bl false)))
   ZV)
   (cK (JT (cU 1 [] XC (aE (fV 2) cC)) (NB 2 (b7 (gN 6) (b7 (gN 7) YS))))
   (cK (OK 8 9 (xO (YY cF)) (xO (fC (.dct [] []))))
   (cK (P4 (XA (f1 G4 (fO 3))) (gN 4)
   OY)
   (cK (VJ (HS (fB (f2 P0 (fV 6) (Z3 (c9 (f2 cN (fV 2) (fC (.int 0))) (c9 (f1 XH (fO 8)) cF))))) (fB (f2 P0 (fV 7) (aL [9] 1 (iR1 (f1 aF (f2 cN (fV 2) (fC (.int 1))))) (gN 1) XX (SV 0 (fV 1))))))
   (bO (fC (.bl false)))
   ZV)
   (bO (RO (f2 W9 (cU 1 [] Y5 (aE (fV 6) cC)) (YY cF)) (f2 W9 (cU 1 [] XC (aE (fV 6) cC)) (Z3 (c9 (fV 6) (c9 (W5 (f1 aF (fO 8))) cF)))))))))))))))
def LR:a0:=Z0 10 [] zB1
end L2
namespace RR
open PySem L2
structure Txt(K:Ar)(mg:Str->Option Value):Prop where
 fnm: ∀x a,Pg K mainGlobals x=some (some (.ref a))->mg x=some (.ref a)
 n_len:mg "len"=none
 n_range:mg "range"=none
 n_min:mg "min"=none
 n_max:mg "max"=none
 TH:mg "list"=none
 n_tuple:mg "tuple"=none
 n_sorted:mg "sorted"=none
 n_isinstance:mg "isinstance"=none
 n_bool:mg "bool"=none
 n_int:mg "int"=none
 n_str:mg "str"=none
 n_enumerate:mg "enumerate"=none
 n_zip:mg "zip"=none
 n_all:mg "all"=none
 n_dict:mg "dict"=none
 n_reversed:mg "reversed"=none
 v_DEEDS: ∃u v,mg "DEEDS"=some u/\cB v u/\ ∀N H M,bR K N H M v EQ
 v_DEED_PARTS: ∃u v,mg "DEED_PARTS"=some u/\cB v u/\ ∀N H M,bR K N H M v RK
 v_MOST_PLACE: ∃u v,mg "MOST_PLACE"=some u/\cB v u/\ ∀N H M,bR K N H M v VR
 v_MOST_ROWS: ∃u v,mg "MOST_ROWS"=some u/\cB v u/\ ∀N H M,bR K N H M v UO
 v_MOST_SURE: ∃u v,mg "MOST_SURE"=some u/\cB v u/\ ∀N H M,bR K N H M v UP
 v_MOST_WORD: ∃u v,mg "MOST_WORD"=some u/\cB v u/\ ∀N H M,bR K N H M v UQ
 v_OTHER_PARTS: ∃u v,mg "OTHER_PARTS"=some u/\cB v u/\ ∀N H M,bR K N H M v T0
 v_READERS: ∃u v,mg "READERS"=some u/\cB v u/\ ∀N H M,bR K N H M v T6
 v_WRITERS: ∃u v,mg "WRITERS"=some u/\cB v u/\ ∀N H M,bR K N H M v Z1
section
variable{P:Bq}{w:World}{K:Ar}{mg:Str->Option Value}{base:Heap}{f:Addr}{fd:Gp}
noncomputable abbrev Nx0:List Str:=["thing","low","high"]
noncomputable abbrev Qx0:List Str:=["thing","low","high"]
theorem zI1:cJ Nx0 Qx0 (cY (top 6)):=Y7
theorem zJ0(F:WE K "is_whole" "is_whole" (top 6) f fd) (T:Txt K mg):
  aG P w K mg base CX0 1 f fd Qx0 (spV K [] 3 aM):=
 TL P w K mg base Nx0 Qx0 0 SX [] F zI1 fun _ _ _ _ _ _ hr hu hu1=>by
  refine(dC ?_ (c7 ?_))
  ·exact(aZ (RB (VO (X4 (EI T.n_isinstance (vv 0) (vty T.n_bool zD4))) (W1 (TW (X4 (EI T.n_isinstance (vv 0) (vty T.n_int zHC)))))))
   (c7 (cQ WQ))
   cI)
  ·exact(cQ (BV zA3 zA3 s_le s_le (vv 1) (vv 0) (vv 2)))
noncomputable abbrev Nx1:List Str:=["deed"]
noncomputable abbrev Qx1:List Str:=["deed"]
theorem zI0:cJ Nx1 Qx1 (cY (top 15)):=Y7
theorem zIZ(F:WE K "parts_of" "parts_of" (top 15) f fd) (T:Txt K mg):
  aG P w K mg base CX0 1 f fd Qx1 (spV K [] 1 bD):=
 TL P w K mg base Nx1 Qx1 0 NY [] F zI0 fun _ _ _ _ _ _ hr hu hu1=>by
  refine(dC ?_ (c7 ?_))
  ·exact (aZ (bW (WI (K := K) rfl hu) (Z7 (neg := false)) (vv 0) (ZR (by rfl) T.v_DEEDS) (by with_unfolding_all rfl))
   (c7 (cQ (ZR (by rfl) T.v_DEED_PARTS)))
   cI)
  ·exact(cQ (zBM rfl hu1 (ZR (by rfl) T.v_OTHER_PARTS) (vv 0) ⟨rfl,rfl,rfl,rfl⟩))
noncomputable abbrev Nx2:List Str:=["row"]
noncomputable abbrev Qx2:List Str:=["row"]
theorem zHZ:cJ Nx2 Qx2 (cY (top 16)):=Y7
theorem zIY(F:WE K "makes_word" "makes_word" (top 16) f fd) (T:Txt K mg):
  aG P w K mg base CX0 1 f fd Qx2 (spV K [] 1 ZH):=
 TL P w K mg base Nx2 Qx2 0 VY [] F zHZ fun _ _ _ _ _ _ hr hu hu1=>by exact(c7 (cQ (YW (UB (K:=K) rfl hu) (Z7 (neg:=true)) (Z6 hu1 (vv 0) dD) (ZR (by rfl) T.v_WRITERS) (by with_unfolding_all rfl))))
noncomputable abbrev Nx3:List Str:=["row"]
noncomputable abbrev Qx3:List Str:=["row"]
theorem zHY:cJ Nx3 Qx3 (cY (top 17)):=Y7
theorem zIX(F:WE K "place_of" "place_of" (top 17) f fd) (T:Txt K mg):
  aG P w K mg base CX0 1 f fd Qx3 (spV K [] 1 ZO):=
 TL P w K mg base Nx3 Qx3 0 VZ [] F zHY fun _ _ _ _ _ _ hr hu hu1=>by exact(c7 (cQ (MX (RB (VO (bW (WI (K:=K) rfl hu) (Z7 (neg:=false)) (Z6 hu1 (vv 0) dD) (ZR (by rfl) T.v_READERS) (by with_unfolding_all rfl)) (W1 (bW (WI (K:=K) rfl hu) (Z7 (neg:=false)) (Z6 hu1 (vv 0) dD) (ZR (by rfl) T.v_WRITERS) (by with_unfolding_all rfl))))) (Z6 hu1 (vv 0) dD) LN)))
noncomputable abbrev Nx4:List Str:=["row","deed","rest"]
noncomputable abbrev Qx4:List Str:=["row"]
theorem zDE:cJ Nx4 Qx4 (cY (top 18)):=Y7
theorem zIW(F:WE K "names_of" "names_of" (top 18) f fd) (T:Txt K mg) (f8:b8 P w K mg base "parts_of" 1 Qx1 [] bD f_x1):
  aG P w K mg base CX0 2 f fd Qx4 (spV K [] 1 aN):=
 TL P w K mg base Nx4 Qx4 1 NX [] F zDE fun _ _ _ _ _ _ hr hu hu1=>by
  refine(dC ?_ (c7 ?_))
  ·exact(GB (i:=1) (j:=2) rfl rfl zDE.nd rfl rfl (by decide) (Mh rfl) (Mh rfl) (vv 0))
  ·exact(cQ (bZ (aB ["part","given"] [] 2 (B0 rfl (by rfl) T.n_zip (cX (bP f8 hr (c6 (vv 1) cZ))) (vv 2)) (fun hn _ _ _ _=>⟨(X3 (K:=K) rfl rfl (cA (cR hn) (cA (cR hn) ZC))),(TU (U8 hu (vv 0) cV)),(vv 1)⟩))))
noncomputable abbrev Nx5:List Str:=["row","names"]
noncomputable abbrev Qx5:List Str:=["row","names"]
theorem zHX:cJ Nx5 Qx5 (cY (top 19)):=Y7
theorem zIV(F:WE K "with_names" "with_names" (top 19) f fd) (T:Txt K mg):
  aG P w K mg base CX0 1 f fd Qx5 (spV K [] 2 ZI):=
 TL P w K mg base Nx5 Qx5 0 RP [] F zHX fun _ _ _ _ _ _ hr hu hu1=>by exact(c7 (cQ (ZS (WJ (K:=K) rfl) YG (SN rfl (vv 0) SO (SQ (YL TM ON (Y0 T.n_len (vv 0)) (Y0 T.n_len (vv 1))))) (QK (W7 (K:=K) rfl) W4 (by rfl) T.n_tuple ZP (vv 1)))))
noncomputable abbrev Nx6:List Str:=["thing","able"]
noncomputable abbrev Qx6:List Str:=["thing","able"]
theorem zHW:cJ Nx6 Qx6 (cY (top 20)):=Y7
theorem zIU(F:WE K "may_name" "may_name" (top 20) f fd) (T:Txt K mg) (ci:b8 P w K mg base "is_whole" 1 Qx0 [] aM f_x0):
  aG P w K mg base CX0 2 f fd Qx6 (spV K [] 2 YE):=
 TL P w K mg base Nx6 Qx6 1 TC [] F zHW fun _ _ _ _ _ _ hr hu hu1=>by exact(c7 (cQ (XI (bP ci hr (c6 (vv 0) (c6 dD (c6 (cX (YL TM ON (Y0 T.n_len (vv 1)) dD)) cZ)))) (V8 (Z6 hu1 (vv 1) (vv 0))))))
noncomputable abbrev Nx7:List Str:=["part","thing","able"]
noncomputable abbrev Qx7:List Str:=["part","thing","able"]
theorem zHV:cJ Nx7 Qx7 (cY (top 21)):=Y7
theorem zIT(F:WE K "fits" "fits" (top 21) f fd) (T:Txt K mg) (ci:b8 P w K mg base "is_whole" 1 Qx0 [] aM f_x0) (iq:b8 P w K mg base "may_name" 2 Qx6 [] YE f_x6):
  aG P w K mg base CX0 3 f fd Qx7 (spV K [] 3 WR):=
 TL P w K mg base Nx7 Qx7 2 NV [] F zHV fun _ _ _ _ _ _ hr hu hu1=>by
  refine(dC ?_ (dC ?_ (c7 ?_)))
  ·exact(aZ (U8 hu (vv 0) cV)
   (c7 (cQ (bP ci hr (c6 (vv 1) (c6 dD (c6 (cX (ZR (by rfl) T.v_MOST_WORD)) cZ))))))
   cI)
  ·exact(aZ (U8 hu (vv 0) cV)
   (c7 (cQ (bP ci hr (c6 (vv 1) (c6 dD (c6 (cX (ZR (by rfl) T.v_MOST_PLACE)) cZ))))))
   cI)
  ·exact(cQ (bP iq hr (c6 (vv 1) (c6 (vv 2) cZ))))
noncomputable abbrev Nx8:List Str:=["thing","able","deed","rest","parts"]
noncomputable abbrev Qx8:List Str:=["thing","able"]
theorem BG:cJ Nx8 Qx8 (cY (top 22)):=Y7
theorem zIS(F:WE K "is_row" "is_row" (top 22) f fd) (T:Txt K mg) (f8:b8 P w K mg base "parts_of" 1 Qx1 [] bD f_x1) (ip:b8 P w K mg base "fits" 3 Qx7 [] WR f_x7):
  aG P w K mg base CX0 4 f fd Qx8 (spV K [] 2 WC):=
 TL P w K mg base Nx8 Qx8 3 NW [] F BG fun _ _ _ _ _ _ hr hu hu1=>by
  refine(dC ?_ (dC ?_ (dC ?_ (dC ?_ (c7 ?_)))))
  ·exact(aZ (RB (VO (TW (X4 (EI T.n_isinstance (vv 0) (vty T.n_tuple ZP)))) (W1 (U8 hu (Y0 T.n_len (vv 0)) dD))))
   (c7 (cQ WQ))
   cI)
  ·exact(GB (i:=2) (j:=3) rfl rfl BG.nd rfl rfl (by decide) (Mh rfl) (Mh rfl) (vv 0))
  ·exact(bK BG.nd (ZT (cX (MX (X4 (EI T.n_isinstance (vv 2) (vty T.n_str zH8))) (bP f8 hr (c6 (vv 2) cZ)) LN))))
  ·exact(aZ (RB (VO (bW zFS zI8 (vv 4) LN (aK _)) (W1 (bW (N5 (K:=K) rfl hu) OM (Y0 T.n_len (vv 4)) (Y0 T.n_len (vv 3)) (aK _)))))
   (c7 (cQ WQ))
   cI)
  ·exact(cQ (zDB (kAll (K:=K) rfl rfl) zI9 (by rfl) T.n_all zHD (bZ (aB ["able","part","given"] [1] 2 (B0 rfl (by rfl) T.n_zip (vv 4) (vv 3)) (fun hn _ _ _ _=>⟨(X3 (K:=K) rfl rfl (cA (cR hn) (cA (cR hn) ZC))),X2,(cX (bP ip hr (c6 (vv 1) (c6 (vv 2) (c6 (vv 0) cZ)))))⟩)))))
noncomputable abbrev Nx9:List Str:=["thing","sure","rows","able","row"]
noncomputable abbrev Qx9:List Str:=["thing"]
theorem JV:cJ Nx9 Qx9 (cY (top 23)):=Y7
theorem zIR(F:WE K "is_block" "is_block" (top 23) f fd) (T:Txt K mg) (ci:b8 P w K mg base "is_whole" 1 Qx0 [] aM f_x0) (iy:b8 P w K mg base "makes_word" 1 Qx2 [] ZH f_x2) (io:b8 P w K mg base "is_row" 4 Qx8 [] WC f_x8):
  aG P w K mg base CX0 5 f fd Qx9 (spV K [] 1 YB):=
 TL P w K mg base Nx9 Qx9 4 SW [] F JV fun _ _ _ _ _ _ hr hu hu1=>by
  refine(dC ?_ (dC ?_ (dC ?_ (dC ?_ (dC ?_ (dC ?_ (c7 ?_)))))))
  ·exact(aZ (RB (VO (TW (X4 (EI T.n_isinstance (vv 0) (vty T.n_tuple ZP)))) (W1 (bW (N5 (K:=K) rfl hu) OM (Y0 T.n_len (vv 0)) dD (aK _)))))
   (c7 (cQ WQ))
   cI)
  ·exact(OV (vv 0) (X3 (K:=K) rfl rfl (cA (cR JV.nd) (cA (cR JV.nd) ZC))))
  ·exact (aZ (TW (X4 (bP ci hr (c6 (vv 1) (c6 dD (c6 (cX (ZR (by rfl) T.v_MOST_SURE)) cZ))))))
   (c7 (cQ WQ))
   cI)
  ·exact (aZ (RB (VO (TW (X4 (EI T.n_isinstance (vv 2) (vty T.n_tuple ZP)))) (W1 (bW zDN s_gt (Y0 T.n_len (vv 2)) (ZR (by rfl) T.v_MOST_ROWS) (aK _)))))
   (c7 (cQ WQ))
   cI)
  ·exact(bK JV.nd (XJ (aW (cM cW))))
  ·exact(V9 Du rfl (W0 rfl (vv 2)) (cR JV.nd)
   (dC (aZ (TW (X4 (bP io hr (c6 (vv 4) (bL (pv 3) cZ)))))
   (c7 (cQ WQ))
   cI)
   (c7 (Y9 (K:=K) rfl Bh Bi bF YT (pv 3) (cM (dE (bP iy hr (c6 (vv 4) cZ)) cW))))))
  ·exact(cQ WQ)
noncomputable abbrev Nx10:List Str:=["row"]
noncomputable abbrev Qx10:List Str:=["row"]
theorem zES:cJ Nx10 Qx10 (cY (top 25)):=Y7
theorem zGG(F:WE K "writes" "writes" (top 25) f fd) (T:Txt K mg):
  aG P w K mg base CX0 1 f fd Qx10 (spV K [] 1 WD):=
 TL P w K mg base Nx10 Qx10 0 N2 [] F zES fun _ _ _ _ _ _ hr hu hu1=>by exact(c7 (cQ (YW (WI (K:=K) rfl hu) (Z7 (neg:=false)) (Z6 hu1 (vv 0) dD) (ZR (by rfl) T.v_WRITERS) (by with_unfolding_all rfl))))
noncomputable abbrev Nx11:List Str:=["row"]
noncomputable abbrev Qx11:List Str:=["row"]
theorem zER:cJ Nx11 Qx11 (cY (top 26)):=Y7
theorem zGF(F:WE K "is_safe_number" "is_safe_number" (top 26) f fd) (T:Txt K mg):
  aG P w K mg base CX0 1 f fd Qx11 (spV K [] 1 aP):=
 TL P w K mg base Nx11 Qx11 0 YH [] F zER fun _ _ _ _ _ _ hr hu hu1=>by exact(c7 (cQ (XI (veq hu (Z6 hu1 (vv 0) dD) cV) (V8 (YW (N5 (K:=K) rfl hu) OM (Z6 hu1 (vv 0) dD) dD (aK _))))))
noncomputable abbrev Nx12:List Str:=["block","at","sure","rows","row","place"]
noncomputable abbrev Qx12:List Str:=["block","at"]
theorem OO:cJ Nx12 Qx12 (cY (top 27)):=Y7
theorem zGE(F:WE K "can_fault" "can_fault" (top 27) f fd) (T:Txt K mg) (iw:b8 P w K mg base "place_of" 1 Qx3 [] ZO f_x3) (gm:b8 P w K mg base "is_safe_number" 1 Qx11 [] aP f_x11):
  aG P w K mg base CX0 2 f fd Qx12 (spV K [] 2 Y1):=
 TL P w K mg base Nx12 Qx12 1 UT [] F OO fun _ _ _ _ _ _ hr hu hu1=>by
  refine(dC ?_ (dC ?_ (dC ?_ (dC ?_ (c7 ?_)))))
  ·exact(OV (vv 0) (X3 (K:=K) rfl rfl (cA (cR OO.nd) (cA (cR OO.nd) ZC))))
  ·exact(bK OO.nd (ZT (cX (Z6 hu1 (vv 3) (vv 1)))))
  ·exact(aZ (U8 hu (Z6 hu1 (vv 4) dD) cV)
   (c7 (cQ (zE9 (bP gm hr (c6 (cX (Z6 hu1 (vv 3) (Z6 hu1 (vv 4) dD))) cZ)))))
   cI)
  ·exact(bK OO.nd (ZT (cX (bP iw hr (c6 (vv 4) cZ)))))
  ·exact(cQ (XI (YW zCG zEU (vv 5) LN (aK _)) (V8 (YW zDO s_ge (vv 5) (vv 2) (aK _)))))
noncomputable abbrev Nx13:List Str:=["block","rows","needed","at"]
noncomputable abbrev CS:List Str:=["block"]
theorem LJ:cJ Nx13 CS (cY (top 29)):=Y7
theorem zGD(F:WE K "needed_rows" "needed_rows" (top 29) f fd) (T:Txt K mg) (f7:b8 P w K mg base "names_of" 2 Qx4 [] aN f_x4) (im:b8 P w K mg base "is_block" 5 Qx9 [] YB f_x9) (gn:b8 P w K mg base "writes" 1 Qx10 [] WD f_x10) (gl:b8 P w K mg base "can_fault" 2 Qx12 [] Y1 f_x12):
  aG P w K mg base CX0 6 f fd CS (spV K [] 1 aR):=
 TL P w K mg base Nx13 CS 5 WX [] F LJ fun _ _ _ _ _ _ hr hu hu1=>by
  refine(dC ?_ (dC ?_ (dC ?_ (dC ?_ (c7 ?_)))))
  ·exact(aZ (TW (X4 (bP im hr (c6 (vv 0) cZ))))
   (c7 B5)
   cI)
  ·exact(bK LJ.nd (ZT (cX (Z6 hu1 (vv 0) dD))))
  ·exact(bK LJ.nd (XJ OU))
  ·exact (V9 Du rfl (BZ (by rfl) T.n_range (by rfl) T.n_reversed (Y0 T.n_len (vv 1))) (cR LJ.nd)
   (c7 (aZ (RB (VO (zE6 hu1 (vv 3) (pv 2) (by with_unfolding_all rfl)) (VO (X4 (bP gn hr (c6 (cX (Z6 hu1 (vv 1) (vv 3))) cZ))) (W1 (X4 (bP gl hr (c6 (vv 0) (c6 (vv 3) cZ))))))))
   (dC (PM hu1 (pv 2) (vv 3) WQ rfl)
   (c7 (zBL (pv 2) (J4 ["name"] [] 1 (W0 rfl (cX (bP f7 hr (c6 (cX (Z6 hu1 (vv 1) (vv 3))) cZ)))) (fun hn _ _ _ _=>⟨(cR hn),X2,(vv 0),WQ⟩)) ⟨rfl,rfl,rfl,rfl⟩)))
   cI)))
  ·exact(cQ (bZ (B4 rfl (by rfl) T.n_sorted QM (pv 2))))
noncomputable abbrev Nx14:List Str:=["block","needed"]
noncomputable abbrev Qx14:List Str:=["block"]
theorem BC:cJ Nx14 Qx14 (cY (top 30)):=Y7
theorem zGC(F:WE K "needless" "needless" (top 30) f fd) (T:Txt K mg) (cn:b8 P w K mg base "needed_rows" 6 CS [] aR f_x13):
  aG P w K mg base CX0 7 f fd Qx14 (spV K [] 1 Y5):=
 TL P w K mg base Nx14 Qx14 6 TD [] F BC fun _ _ _ _ _ _ hr hu hu1=>by
  refine(dC ?_ (c7 ?_))
  ·exact(bK BC.nd (ZT (cX (bP cn hr (c6 (vv 0) cZ)))))
  ·exact(cQ (bZ (aB ["needed","row"] [1] 1 (YK (by rfl) T.n_range (Y0 T.n_len (Z6 hu1 (vv 0) dD))) (fun hn _ _ _ _=>⟨(cR hn),(TU (bW (UB (K:=K) rfl hu) (Z7 (neg:=true)) (vv 1) (vv 0) (by with_unfolding_all rfl))),(vv 1)⟩))))
noncomputable abbrev Nx15:List Str:=["block","needed","number_of","sure","rows","left"]
noncomputable abbrev Qx15:List Str:=["block"]
theorem Q4:cJ Nx15 Qx15 (cY (top 31)):=Y7
theorem zGB(F:WE K "pruned" "pruned" (top 31) f fd) (T:Txt K mg) (f7:b8 P w K mg base "names_of" 2 Qx4 [] aN f_x4) (iu:b8 P w K mg base "with_names" 1 Qx5 [] ZI f_x5) (cn:b8 P w K mg base "needed_rows" 6 CS [] aR f_x13):
  aG P w K mg base CX0 7 f fd Qx15 (spV K [] 1 XC):=
 TL P w K mg base Nx15 Qx15 6 NZ [] F Q4 fun _ _ _ _ _ _ hr hu hu1=>by
  refine(dC ?_ (dC ?_ (dC ?_ (dC ?_ (c7 ?_)))))
  ·exact(bK Q4.nd (ZT (cX (bP cn hr (c6 (vv 0) cZ)))))
  ·exact(bK Q4.nd (XJ (J4 ["number","row"] [] 2 (PL rfl (by rfl) T.n_enumerate (vv 1)) (fun hn _ _ _ _=>⟨(X3 (K:=K) rfl rfl (cA (cR hn) (cA (cR hn) ZC))),X2,(vv 1),(vv 0)⟩))))
  ·exact(OV (vv 0) (X3 (K:=K) rfl rfl (cA (cR Q4.nd) (cA (cR Q4.nd) ZC))))
  ·exact(J5 false Q4.nd ["number_of","rows","at"] [2,4] 1 (W0 rfl (vv 1)) (fun hn _ _ _ _=>⟨(cR hn),X2,(cX (bP iu hr (c6 (cX (Z6 hu1 (vv 1) (vv 2))) (c6 (bZ (aB ["number_of","name"] [0] 1 (W0 rfl (cX (bP f7 hr (c6 (cX (Z6 hu1 (vv 1) (vv 2))) cZ)))) (fun hn _ _ _ _=>⟨(cR hn),X2,(cX (Z6 hu1 (vo 0) (vv 1)))⟩))) cZ))))⟩))
  ·exact(cQ (bT (dE (bT (dE (vv 3) (dE (QK (W7 (K:=K) rfl) W4 (by rfl) T.n_tuple ZP (vv 5)) cW))) (dE (bZ (aB ["number_of","at"] [2] 1 (YK (by rfl) T.n_range (Y0 T.n_len (vv 4))) (fun hn _ _ _ _=>⟨(cR hn),X2,(cX (J3 hu1 (pv 0) (vv 1) ⟨rfl,rfl,rfl,rfl⟩))⟩))) cW))))
noncomputable abbrev Nx16:List Str:=["_law_script","_law_k","_law_rest","_law_again"]
noncomputable abbrev Qx16:List Str:=["_law_script","_law_k"]
theorem LK:cJ Nx16 Qx16 (cY (top 33)):=Y7
theorem zGA(F:WE K "_law_cell_at" "_law_cell_at" (top 33) f fd) (T:Txt K mg):
  aG P w K mg base CX0 1 f fd Qx16 (spV K [] 2 aQ):=
 TL P w K mg base Nx16 Qx16 0 WW [] F LK fun _ _ _ _ _ _ hr hu hu1=>by
  refine(dC ?_ (dC ?_ (dC ?_ (dC ?_ (c7 ?_)))))
  ·exact(aZ (bW FJ s_lt (vv 1) (Y0 T.n_len (vv 0)) (aK _))
   (c7 (cQ (Z6 hu1 (vv 0) (vv 1))))
   cI)
  ·exact(aZ (U8 hu (vv 0) (bZ (aW (cM cW))))
   (c7 (cQ dD))
   cI)
  ·exact(bK LK.nd (ZT (cX (Z6 hu1 (vv 0) (YL U3 QI (vv 1) (Y0 T.n_len (vv 0)))))))
  ·exact (V9 Du rfl (YK (by rfl) T.n_range (BU (C4 rfl) zI4 (by rfl) T.n_min zH9 (YL FI BB (vv 1) (Y0 T.n_len (vv 0))) dD)) (cR LK.nd)
   (c7 (bK LK.nd (ZT (cX (YL FI BB (vv 2) dD))))))
  ·exact(cQ (ZS (WJ (K:=K) rfl) YG (ZS (WJ (K:=K) rfl) YG (ZS (K8 (K:=K) rfl) O7 (Z6 hu1 (vv 0) (YL U3 QI (vv 1) (Y0 T.n_len (vv 0)))) dD) (vv 1)) (ZS (K8 (K:=K) rfl) O7 (vv 2) dD)))
noncomputable abbrev Nx17:List Str:=["_law_script","_law_k","_law_bound","_law_drawn"]
noncomputable abbrev Qx17:List Str:=["_law_script","_law_k","_law_bound"]
theorem BD:cJ Nx17 Qx17 (cY (top 34)):=Y7
theorem zG9(F:WE K "_law_mixed" "_law_mixed" (top 34) f fd) (T:Txt K mg) (gk:b8 P w K mg base "_law_cell_at" 1 Qx16 [] aQ f_x16):
  aG P w K mg base CX0 2 f fd Qx17 (spV K [] 3 Y2):=
 TL P w K mg base Nx17 Qx17 1 UU [] F BD fun _ _ _ _ _ _ hr hu hu1=>by
  refine(dC ?_ (c7 ?_))
  ·exact(bK BD.nd (ZT (cX (YL U3 QI (ZS (WJ (K:=K) rfl) YG (ZS (WJ (K:=K) rfl) YG (ZS (K8 (K:=K) rfl) O7 (bP gk hr (c6 (vv 0) (c6 (vv 1) cZ))) dD) (ZS (K8 (K:=K) rfl) O7 dD (vv 1))) dD) dD))))
  ·exact(cQ (YL U3 QI (YL U3 QI (YL U3 QI (YL zFP zI2 (vv 3) dD) dD) dD) (vv 2)))
noncomputable abbrev Nx18:List Str:=["_law_script","_law_town","_law_bound"]
noncomputable abbrev HV:List Str:=["_law_script","_law_town","_law_bound"]
theorem zEQ:cJ Nx18 HV (cY (top 35)):=Y7
theorem zG8(F:WE K "_law_draw" "_law_draw" (top 35) f fd) (T:Txt K mg) (gj:b8 P w K mg base "_law_mixed" 2 Qx17 [] Y2 f_x17):
  aG P w K mg base CX0 3 f fd HV (spV K [1] 3 cG):=
 TL P w K mg base Nx18 HV 2 SY [1] F zEQ fun _ _ _ _ _ _ hr hu hu1=>by
  refine(dC ?_ (c7 ?_))
  ·exact(Y9 (K:=K) rfl Bh Bi bF YT (pv 1) (cM (dE dD cW)))
  ·exact(cQ (bP gj hr (c6 (vv 0) (c6 (cX (Y0 T.n_len (vo 1))) (c6 (vv 2) cZ)))))
noncomputable abbrev Nx19:List Str:=["_law_script","_law_town","_law_some"]
noncomputable abbrev M3:List Str:=["_law_script","_law_town","_law_some"]
theorem zEP:cJ Nx19 M3 (cY (top 36)):=Y7
theorem zG7(F:WE K "_law_pick" "_law_pick" (top 36) f fd) (T:Txt K mg) (aq:b8 P w K mg base "_law_draw" 3 HV [1] cG f_x18):
  aG P w K mg base CX0 4 f fd M3 (spV K [1] 3 bY):=
 TL P w K mg base Nx19 M3 3 S8 [1] F zEP fun _ _ _ _ _ _ hr hu hu1=>by exact(c7 (cQ (Z6 hu1 (vv 2) (bP aq hr (c6 (vv 0) (bL (pv 1) (c6 (cX (Y0 T.n_len (vv 2))) cZ)))))))
noncomputable abbrev Nx20:List Str:=["_law_script","_law_town","_law_seen","_law_deed","_law_room"]
noncomputable abbrev Qx20:List Str:=["_law_script","_law_town","_law_seen","_law_deed","_law_room"]
theorem zEO:cJ Nx20 Qx20 (cY (top 37)):=Y7
theorem zG6(F:WE K "_law_place" "_law_place" (top 37) f fd) (T:Txt K mg) (aq:b8 P w K mg base "_law_draw" 3 HV [1] cG f_x18) (ap:b8 P w K mg base "_law_pick" 4 M3 [1] bY f_x19):
  aG P w K mg base CX0 5 f fd Qx20 (spV K [1,2] 5 a8):=
 TL P w K mg base Nx20 Qx20 4 UV [1,2] F zEO fun _ _ _ _ _ _ hr hu hu1=>by
  refine(dC ?_ (c7 ?_))
  ·exact(PM hu1 (pv 2) (vv 3) (cX (YL U3 QI (ZS (WJ (K:=K) rfl) YG (BW hu1 (pv 2) (vv 3) (cX (bP aq hr (c6 (vv 0) (bL (pv 1) (c6 (vv 4) cZ))))) ⟨rfl,rfl,rfl,rfl⟩) (bP ap hr (c6 (vv 0) (bL (pv 1) (c6 (bZ (aW (cM (dE dD (dE dD (dE dD (dE dD (dE dD cW)))))))) cZ))))) (vv 4))) rfl)
  ·exact(cQ (Z6 hu1 (vo 2) (vv 3)))
noncomputable abbrev Nx21:List Str:=["_law_script","_law_town","_law_made","_law_seen","_law_room","_law_kind","_law_a","_law_b","_law_c"]
noncomputable abbrev Qx21:List Str:=["_law_script","_law_town","_law_made","_law_seen","_law_room"]
theorem OP:cJ Nx21 Qx21 (cY (top 38)):=Y7
theorem zG5(F:WE K "_law_row" "_law_row" (top 38) f fd) (T:Txt K mg) (aq:b8 P w K mg base "_law_draw" 3 HV [1] cG f_x18) (ap:b8 P w K mg base "_law_pick" 4 M3 [1] bY f_x19) (cf:b8 P w K mg base "_law_place" 5 Qx20 [1,2] a8 f_x20):
  aG P w K mg base CX0 6 f fd Qx21 (spV K [1,3] 5 XM):=
 TL P w K mg base Nx21 Qx21 5 QT [1,3] F OP fun _ _ _ _ _ _ hr hu hu1=>by
  refine(dC ?_ (dC ?_ (dC ?_ (dC ?_ (dC ?_ (dC ?_ (dC ?_ (dC ?_ (c7 ?_)))))))))
  ·exact(bK OP.nd (ZT (cX (bP aq hr (c6 (vv 0) (bL (pv 1) (c6 dD cZ)))))))
  ·exact(aZ (RB (VO (U8 hu (vv 2) (bZ (aW (cM cW)))) (W1 (U8 hu (vv 5) dD))))
   (dC (aZ (U8 hu (bP aq hr (c6 (vv 0) (bL (pv 1) (c6 dD cZ)))) dD)
   (c7 (cQ (bT (dE cV (dE (bP ap hr (c6 (vv 0) (bL (pv 1) (c6 (bZ (aW (cM (dE dD (dE dD (dE dD (dE dD (dE dD (dE (bP aq hr (c6 (vv 0) (bL (pv 1) (c6 dD cZ)))) cW))))))))) cZ)))) cW)))))
   cI)
   (c7 (cQ (bT (dE cV (dE (bP cf hr (c6 (vv 0) (bL (pv 1) (bL (pv 3) (c6 cV (c6 (vv 4) cZ)))))) cW))))))
   cI)
  ·exact(OV (bZ (aB ["_law_script","_law_town","_law_made","_law_k"] [0,1,2] 1 (YK (by rfl) T.n_range dD) (fun hn _ _ _ _=>⟨(cR hn),X2,(cX (Z6 hu1 (vv 2) (BU (C3 rfl) zI5 (by rfl) T.n_max zHA dD (YL TM ON (YL TM ON (Y0 T.n_len (vv 2)) dD) (bP aq hr (c6 (vv 0) (bL (pv 1) (c6 dD cZ))))))))⟩))) (X3 (K:=K) rfl rfl (cA (cR OP.nd) (cA (cR OP.nd) (cA (cR OP.nd) ZC)))))
  ·exact (aZ (bW (WI (K := K) rfl hu) (Z7 (neg := false)) (vv 5) (bT (dE dD (dE dD cW))) (by with_unfolding_all rfl))
   (c7 (cQ (bT (dE cV (dE (bP cf hr (c6 (vv 0) (bL (pv 1) (bL (pv 3) (c6 cV (c6 (vv 4) cZ)))))) cW)))))
   cI)
  ·exact(aZ (U8 hu (vv 5) dD)
   (c7 (cQ (bT (dE cV (dE (bP cf hr (c6 (vv 0) (bL (pv 1) (bL (pv 3) (c6 cV (c6 (vv 4) cZ)))))) (dE (vv 8) (dE (vv 6) cW)))))))
   cI)
  ·exact (aZ (bW (WI (K := K) rfl hu) (Z7 (neg := false)) (vv 5) (bT (dE dD (dE dD cW))) (by with_unfolding_all rfl))
   (c7 (cQ (bT (dE cV (dE (bP cf hr (c6 (vv 0) (bL (pv 1) (bL (pv 3) (c6 cV (c6 (vv 4) cZ)))))) (dE (vv 6) cW))))))
   cI)
  ·exact(aZ (U8 hu (vv 5) dD)
   (c7 (cQ (bT (dE cV (dE (bP cf hr (c6 (vv 0) (bL (pv 1) (bL (pv 3) (c6 cV (c6 (vv 4) cZ)))))) (dE (vv 6) (dE (vv 8) cW)))))))
   cI)
  ·exact(aZ (U8 hu (vv 5) dD)
   (c7 (cQ (bT (dE cV (dE (vv 8) (dE (vv 6) (dE (vv 7) cW)))))))
   cI)
  ·exact(cQ (bT (dE (Z6 hu1 (bZ (aW (cM (dE cV (dE cV (dE cV (dE cV (dE cV (dE cV (dE cV cW)))))))))) (bP aq hr (c6 (vv 0) (bL (pv 1) (c6 dD cZ))))) (dE (vv 6) (dE (vv 7) cW)))))
noncomputable abbrev Nx23:List Str:=["_law_script","_law_town","_law_rows_here","_law_made","_law_seen","_law_room","_law_last","_law_first","_law_names_here","_law_name","_law_at"]
noncomputable abbrev Qx23:List Str:=["_law_script","_law_town","_law_rows_here","_law_made","_law_seen","_law_room"]
theorem Q5:cJ Nx23 Qx23 (cY (top 40)):=Y7
theorem zG3(F:WE K "_law_next" "_law_next" (top 40) f fd) (T:Txt K mg) (ap:b8 P w K mg base "_law_pick" 4 M3 [1] bY f_x19):
  aG P w K mg base CX0 5 f fd Qx23 (spV K [1,4] 6 Z4):=
 TL P w K mg base Nx23 Qx23 4 VW [1,4] F Q5 fun _ _ _ _ _ _ hr hu hu1=>by
  refine(dC ?_ (dC ?_ (dC ?_ (dC ?_ (dC ?_ (dC ?_ (c7 ?_)))))))
  ·exact(bK Q5.nd (ZT (cX (Z6 hu1 (vv 2) (RA dD)))))
  ·exact(bK Q5.nd (ZT (cX (MX (bW (WI (K:=K) rfl hu) (Z7 (neg:=false)) (Z6 hu1 (vv 6) dD) (bT (dE cV (dE cV (dE cV (dE cV cW))))) (by with_unfolding_all rfl)) dD dD))))
  ·exact(bK Q5.nd (XJ (aW (cM cW))))
  ·exact(V9 Du rfl (W0 rfl (cX (SN rfl (vv 6) (SQ (vv 7)) SO))) (cR Q5.nd)
   (dC (bK Q5.nd (ZT (cX (ZS (WJ (K:=K) rfl) YG (BX rfl (vv 3) (vv 9)) (bP ap hr (c6 (vv 0) (bL (pv 1) (c6 (bZ (aW (cM (dE dD (dE dD (dE dD (dE dD (dE (RA dD) (dE dD (dE dD cW)))))))))) cZ))))))))
   (c7 (Y9 (K:=K) rfl Bh Bi bF YT (pv 8) (cM (dE (MX (RB (HQ (B6 zA3 FJ s_le s_lt dD (vv 10) (Y0 T.n_len (vv 3))) (LO (bW (N5 (K:=K) rfl hu) OM (Z6 hu1 (vv 3) (vv 10)) (YL TM ON (Y0 T.n_len (vv 2)) dD) (aK _))))) (Z6 hu1 (vv 3) (vv 10)) (vv 9)) cW))))))
  ·exact(aZ (U8 hu (vv 7) dD)
   (c7 (cQ (ZS (WJ (K:=K) rfl) YG (SN rfl (vv 6) SO (SQ dD)) (QK (W7 (K:=K) rfl) W4 (by rfl) T.n_tuple ZP (vo 8)))))
   cI)
  ·exact(PM hu1 (pv 4) (Z6 hu1 (vv 6) dD) (cX (YL U3 QI (ZS (WJ (K:=K) rfl) YG (Z6 hu1 (vv 6) dD) dD) (vv 5))) rfl)
  ·exact(cQ (ZS (WJ (K:=K) rfl) YG (bT (dE (Z6 hu1 (vv 6) dD) (dE (Z6 hu1 (vo 4) (Z6 hu1 (vv 6) dD)) cW))) (QK (W7 (K:=K) rfl) W4 (by rfl) T.n_tuple ZP (vo 8))))
noncomputable abbrev Nx22:List Str:=["_law_script","_law_town","_law_many","_law_room","_law_rows_here","_law_made","_law_seen","_law_again"]
noncomputable abbrev Qx22:List Str:=["_law_script","_law_town","_law_many","_law_room"]
theorem HH:cJ Nx22 Qx22 (cY (top 39)):=Y7
theorem zG4(F:WE K "_law_rows" "_law_rows" (top 39) f fd) (T:Txt K mg) (ap:b8 P w K mg base "_law_pick" 4 M3 [1] bY f_x19) (gh:b8 P w K mg base "_law_row" 6 Qx21 [1,3] XM f_x21) (gd:b8 P w K mg base "_law_next" 5 Qx23 [1,4] Z4 f_x23):
  aG P w K mg base CX0 7 f fd Qx22 (spV K [1] 4 YD):=
 TL P w K mg base Nx22 Qx22 6 S9 [1] F HH fun _ _ _ _ _ _ hr hu hu1=>by
  refine(dC ?_ (dC ?_ (c7 ?_)))
  ·exact(zBJ (i:=4) (j:=5) (k:=6) rfl HH.nd rfl rfl rfl (by decide) (by decide) (by decide) rfl rfl rfl (XJ (aW (cM cW))) (XJ (aW (cM cW))) (XJ OU) rfl)
  ·exact(J7 Du (bW FJ s_lt (Y0 T.n_len (vo 4)) (vv 2) (aK _))
   (dC (Y9 (K:=K) rfl Bh Bi bF YT (pv 4) (cM (dE (bP gh hr (c6 (vv 0) (bL (pv 1) (bL (pv 5) (bL (pv 6) (c6 (vv 3) cZ)))))) cW)))
   (dC (aZ (bW (UB (K:=K) rfl hu) (Z7 (neg:=true)) (Z6 hu1 (Z6 hu1 (vo 4) (RA dD)) dD) (bT (dE cV (dE cV cW))) (by with_unfolding_all rfl))
   (c7 (Y9 (K:=K) rfl Bh Bi bF YT (pv 5) (cM (dE (YL TM ON (Y0 T.n_len (vo 4)) dD) cW))))
   cI)
   (c7 (V9 Du rfl (YK (by rfl) T.n_range (bP ap hr (c6 (vv 0) (bL (pv 1) (c6 (bZ (aW (cM (dE dD (dE dD (dE dD (dE dD (dE dD cW)))))))) cZ))))) (cR HH.nd)
   (c7 (aZ (RB (HQ (bW FJ s_lt (Y0 T.n_len (vo 4)) (vv 2) (aK _)) (LO (bW (N5 (K:=K) rfl hu) OM (Z6 hu1 (Z6 hu1 (vo 4) (RA dD)) dD) cV (aK _)))))
   (dC (Y9 (K:=K) rfl Bh Bi bF YT (pv 4) (cM (dE (bP gd hr (c6 (vv 0) (bL (pv 1) (bL (pv 4) (bL (pv 5) (bL (pv 6) (c6 (vv 3) cZ))))))) cW)))
   (c7 (aZ (bW (UB (K:=K) rfl hu) (Z7 (neg:=true)) (Z6 hu1 (Z6 hu1 (vo 4) (RA dD)) dD) (bT (dE cV (dE cV cW))) (by with_unfolding_all rfl))
   (c7 (Y9 (K:=K) rfl Bh Bi bF YT (pv 5) (cM (dE (YL TM ON (Y0 T.n_len (vo 4)) dD) cW))))
   cI)))
   cI)))))))
  ·exact(cQ (QK (W7 (K:=K) rfl) W4 (by rfl) T.n_tuple ZP (vo 4)))
noncomputable abbrev Nx25:List Str:=["_law_row_here"]
noncomputable abbrev CT:List Str:=["_law_row_here"]
theorem zEN:cJ Nx25 CT (cY (top 42)):=Y7
theorem zG1(F:WE K "_law_names" "_law_names" (top 42) f fd) (T:Txt K mg):
  aG P w K mg base CX0 1 f fd CT (spV K [] 1 bU):=
 TL P w K mg base Nx25 CT 0 P9 [] F zEN fun _ _ _ _ _ _ hr hu hu1=>by
  refine(dC ?_ (c7 ?_))
  ·exact(aZ (U8 hu (Z6 hu1 (vv 0) dD) cV)
   (c7 (cQ (bZ (aW (cM cW)))))
   cI)
  ·exact(cQ (MX (bW (WI (K:=K) rfl hu) (Z7 (neg:=false)) (Z6 hu1 (vv 0) dD) (bT (dE cV (dE cV (dE cV (dE cV cW))))) (by with_unfolding_all rfl)) (bZ (zD9 (zAS (K:=K) rfl) TH (by rfl) T.TH O0 (GA (SN rfl (vv 0) (SQ dD) SO)))) (bZ (zD9 (zAS (K:=K) rfl) TH (by rfl) T.TH O0 (GA (SN rfl (vv 0) (SQ dD) SO))))))
noncomputable abbrev Nx26:List Str:=["_law_block_here","_law_row_here","_law_here"]
noncomputable abbrev CU:List Str:=["_law_block_here","_law_row_here"]
theorem BE:cJ Nx26 CU (cY (top 43)):=Y7
theorem zG0(F:WE K "_law_may" "_law_may" (top 43) f fd) (T:Txt K mg):
  aG P w K mg base CX0 1 f fd CU (spV K [] 2 aJ):=
 TL P w K mg base Nx26 CU 0 QS [] F BE fun _ _ _ _ _ _ hr hu hu1=>by
  refine(dC ?_ (dC ?_ (c7 ?_)))
  ·exact(bK BE.nd (ZT (cX (Z6 hu1 (Z6 hu1 (vv 0) dD) (vv 1)))))
  ·exact (aZ (bW (WI (K := K) rfl hu) (Z7 (neg := false)) (Z6 hu1 (vv 2) dD) (bT (dE cV (dE cV (dE cV (dE cV cW))))) (by with_unfolding_all rfl))
   (c7 (cQ (YW zDO s_ge (Z6 hu1 (vv 2) dD) (Z6 hu1 (vv 0) dD) (aK _))))
   cI)
  ·exact(cQ (XI (veq hu (Z6 hu1 (vv 2) dD) cV) (V8 (YW (UB (K:=K) rfl hu) (Z7 (neg:=true)) (SN rfl (Z6 hu1 (Z6 hu1 (vv 0) dD) (Z6 hu1 (vv 2) dD)) SO (SQ dD)) (bZ (aB ["_law_k"] [] 1 (EH (by rfl) T.n_range dD dD) (fun hn _ _ _ _=>⟨(cR hn),X2,(cX (bT (dE cV (dE (vv 0) cW))))⟩))) (by with_unfolding_all rfl)))))
noncomputable abbrev Nx27:List Str:=["_law_block_here","_law_made","_law_cells","_law_two","_law_there","_law_one","_law_here","_law_writes","_law_reasons"]
noncomputable abbrev Qx27:List Str:=["_law_block_here"]
theorem U5:cJ Nx27 Qx27 (cY (top 44)):=Y7
theorem zFZ(F:WE K "_law_must" "_law_must" (top 44) f fd) (T:Txt K mg) (cm:b8 P w K mg base "_law_names" 1 CT [] bU f_x25) (bo:b8 P w K mg base "_law_may" 1 CU [] aJ f_x26):
  aG P w K mg base CX0 2 f fd Qx27 (spV K [] 1 YC):=
 TL P w K mg base Nx27 Qx27 1 SZ [] F U5 fun _ _ _ _ _ _ hr hu hu1=>by
  refine(dC ?_ (dC ?_ (c7 ?_)))
  ·exact(zBK (i:=1) (j:=2) rfl U5.nd rfl rfl (by decide) rfl rfl (XJ (aW (cM cW))) (ZT (cX (bT (dE cV (dE cV (dE cV (dE cV cW))))))) rfl)
  ·exact (V9 Du rfl (PL rfl (by rfl) T.n_enumerate (cX (Z6 hu1 (vv 0) dD))) (X3 (K := K) rfl rfl (cA (cR U5.nd) (cA (cR U5.nd) ZC)))
   (c7 (V9 Du rfl (PL rfl (by rfl) T.n_enumerate (cX (SN rfl (Z6 hu1 (vv 0) dD) SO (SQ (vv 3))))) (X3 (K:=K) rfl rfl (cA (cR U5.nd) (cA (cR U5.nd) ZC)))
   (dC (J5 false U5.nd ["_law_row_here"] [] 1 (W0 rfl (cX (bT (dE (vv 6) (dE (vv 4) cW))))) (fun hn _ _ _ _=>⟨(cR hn),(TU (bW (WI (K:=K) rfl hu) (Z7 (neg:=false)) (Z6 hu1 (vv 0) dD) (bT (dE cV (dE cV cW))) (by with_unfolding_all rfl))),(vv 0)⟩))
   (dC (bK U5.nd (XJ (aW (cM (dE (YW (WI (K:=K) rfl hu) (Z7 (neg:=false)) (vv 5) (bP cm hr (c6 (vv 4) cZ)) (by with_unfolding_all rfl)) (dE (XI (bP bo hr (c6 (vv 0) (c6 (vv 5) cZ))) (V8 (bP bo hr (c6 (vv 0) (c6 (vv 3) cZ))))) cW))))))
   (dC (Y9 (K:=K) rfl Bh Bi bF YT (pv 8) (cM (dE (XI (YW (WI (K:=K) rfl hu) (Z7 (neg:=false)) (Z6 hu1 (vv 6) dD) (vv 2) (by with_unfolding_all rfl)) (XI (YW (WI (K:=K) rfl hu) (Z7 (neg:=false)) (Z6 hu1 (vv 4) dD) (vv 2) (by with_unfolding_all rfl)) (XI (veq hu (Z6 hu1 (vv 6) dD) (Z6 hu1 (vv 4) dD)) (V8 (YW (N5 (K:=K) rfl hu) OM (vv 7) (bZ (aW (cM cW))) (aK _)))))) cW)))
   (dC (Y9 (K:=K) rfl Bh Bi bF YT (pv 8) (cM (dE (XI (bP bo hr (c6 (vv 0) (c6 (vv 5) cZ))) (V8 (YW (WI (K:=K) rfl hu) (Z7 (neg:=false)) (Z6 hu1 (vv 4) dD) (bT (dE cV (dE cV cW))) (by with_unfolding_all rfl)))) cW)))
   (dC (Y9 (K:=K) rfl Bh Bi bF YT (pv 8) (cM (dE (XI (bP bo hr (c6 (vv 0) (c6 (vv 3) cZ))) (V8 (YW (WI (K:=K) rfl hu) (Z7 (neg:=false)) (Z6 hu1 (vv 6) dD) (bT (dE cV (dE cV cW))) (by with_unfolding_all rfl)))) cW)))
   (c7 (aZ (bW (WI (K:=K) rfl hu) (Z7 (neg:=false)) WQ (vo 8) (by with_unfolding_all rfl))
   (c7 (Y9 (K:=K) rfl Bh Bi bF YT (pv 1) (cM (dE (bT (dE (vv 5) (dE (vv 3) cW))) cW))))
   cI))))))))))
  ·exact(cQ (bZ (zDA (zGU (K:=K) rfl) zCM (by rfl) T.n_sorted QM (GA (vo 1)))))
noncomputable abbrev Nx28:List Str:=["_law_script","_law_town","_law_block_here","_law_pairs","_law_left","_law_made","_law_ready"]
noncomputable abbrev Qx28:List Str:=["_law_script","_law_town","_law_block_here"]
theorem HI:cJ Nx28 Qx28 (cY (top 45)):=Y7
theorem zFY(F:WE K "_law_mixed_order" "_law_mixed_order" (top 45) f fd) (T:Txt K mg) (ap:b8 P w K mg base "_law_pick" 4 M3 [1] bY f_x19) (gb:b8 P w K mg base "_law_must" 2 Qx27 [] YC f_x27):
  aG P w K mg base CX0 5 f fd Qx28 (spV K [1] 3 aY):=
 TL P w K mg base Nx28 Qx28 4 YR [1] F HI fun _ _ _ _ _ _ hr hu hu1=>by
  refine(dC ?_ (dC ?_ (c7 ?_)))
  ·exact(zBG (i:=3) (j:=4) (k:=5) rfl rfl HI.nd rfl rfl rfl (by decide) (by decide) (by decide) (Mi rfl) (Mi rfl) (Mh rfl) (ZT (cX (bP gb hr (c6 (vv 2) cZ)))) (XJ (MY rfl (by rfl) T.TH O0 (by rfl) T.n_range HY (Y0 T.n_len (Z6 hu1 (vv 2) dD)))) (XJ (aW (cM cW))))
  ·exact(J7 Du (bW (N5 (K:=K) rfl hu) OM (vo 4) (bZ (aW (cM cW))) (aK _))
   (dC (J6 false HI.nd ["_law_pairs","_law_left","_law_row_here"] [3,4] 1 (BY rfl (vo 4)) (fun hn _ _ _ _=>⟨(cR hn),(TU (U8 hu (bZ (aB ["_law_left","_law_row_here","_law_one","_law_two"] [1,2] 2 (W0 rfl (vv 0)) (fun hn _ _ _ _=>⟨(X3 (K:=K) rfl rfl (cA (cR hn) (cA (cR hn) ZC))),(TU (RB (HQ (U8 hu (vv 3) (vv 1)) (LO (bW (WI (K:=K) rfl hu) (Z7 (neg:=false)) (vv 2) (vo 0) (by with_unfolding_all rfl)))))),dD⟩))) (bZ (aW (cM cW))))),(vv 2)⟩))
   (dC (Y9 (K:=K) rfl Bh Bi bF YT (pv 5) (cM (dE (bP ap hr (c6 (vv 0) (bL (pv 1) (c6 (vv 6) cZ)))) cW)))
   (c7 (Y9 (K:=K) rfl PySem.F.slot_list_remove PySem.F.type_list_remove DP zGJ (pv 4) (cM (dE (Z6 hu1 (vo 5) (RA dD)) cW)))))))
  ·exact(zBI (pv 5))
noncomputable abbrev Nx29:List Str:=["_law_row_here","_law_names_here","_law_first"]
noncomputable abbrev CV:List Str:=["_law_row_here","_law_names_here"]
theorem BF:cJ Nx29 CV (cY (top 46)):=Y7
theorem zFX(F:WE K "_law_renamed" "_law_renamed" (top 46) f fd) (T:Txt K mg):
  aG P w K mg base CX0 1 f fd CV (spV K [] 2 cP):=
 TL P w K mg base Nx29 CV 0 bC [] F BF fun _ _ _ _ _ _ hr hu hu1=>by
  refine(dC ?_ (dC ?_ (c7 ?_)))
  ·exact(aZ (U8 hu (Z6 hu1 (vv 0) dD) cV)
   (c7 (cQ (vv 0)))
   cI)
  ·exact(bK BF.nd (ZT (cX (MX (bW (WI (K:=K) rfl hu) (Z7 (neg:=false)) (Z6 hu1 (vv 0) dD) (bT (dE cV (dE cV (dE cV (dE cV cW))))) (by with_unfolding_all rfl)) dD dD))))
  ·exact(cQ (ZS (WJ (K:=K) rfl) YG (SN rfl (vv 0) SO (SQ (vv 2))) (QK (W7 (K:=K) rfl) W4 (by rfl) T.n_tuple ZP (bZ (aB ["_law_names_here","_law_name"] [1] 1 (W0 rfl (cX (SN rfl (vv 0) (SQ (vv 2)) SO))) (fun hn _ _ _ _=>⟨(cR hn),X2,(cX (Z6 hu1 (vv 0) (vv 1)))⟩))))))
noncomputable abbrev Nx24:List Str:=["_law_script","_law_town","_law_most","_law_room","_law_sure","_law_block_here","_law_order_there","_law_names_here"]
noncomputable abbrev Qx24:List Str:=["_law_script","_law_town","_law_most"]
theorem Q6:cJ Nx24 Qx24 (cY (top 41)):=Y7
theorem zG2(F:WE K "_law_block" "_law_block" (top 41) f fd) (T:Txt K mg) (aq:b8 P w K mg base "_law_draw" 3 HV [1] cG f_x18) (ap:b8 P w K mg base "_law_pick" 4 M3 [1] bY f_x19) (gf:b8 P w K mg base "_law_rows" 7 Qx22 [1] YD f_x22) (ga:b8 P w K mg base "_law_mixed_order" 5 Qx28 [1] aY f_x28) (cj:b8 P w K mg base "_law_renamed" 1 CV [] cP f_x29):
  aG P w K mg base CX0 8 f fd Qx24 (spV K [1] 3 ZN):=
 TL P w K mg base Nx24 Qx24 7 W6 [1] F Q6 fun _ _ _ _ _ _ hr hu hu1=>by
  refine(dC ?_ (dC ?_ (dC ?_ (dC ?_ (dC ?_ (dC ?_ (c7 ?_)))))))
  ·exact(bK Q6.nd (ZT (cX (bP ap hr (c6 (vv 0) (bL (pv 1) (c6 (bZ (aW (cM (dE dD (dE dD (dE dD (dE dD cW))))))) cZ)))))))
  ·exact(bK Q6.nd (ZT (cX (bP ap hr (c6 (vv 0) (bL (pv 1) (c6 (bZ (aW (cM (dE dD (dE (vv 3) (dE (vv 3) (dE (bP aq hr (c6 (vv 0) (bL (pv 1) (c6 (cX (ZS (WJ (K:=K) rfl) YG (vv 3) dD)) cZ)))) cW))))))) cZ)))))))
  ·exact(bK Q6.nd (ZT (cX (bT (dE (vv 4) (dE (bP gf hr (c6 (vv 0) (bL (pv 1) (c6 (cX (bP aq hr (c6 (vv 0) (bL (pv 1) (c6 (cX (ZS (WJ (K:=K) rfl) YG (vv 2) dD)) cZ))))) (c6 (vv 3) cZ))))) cW))))))
  ·exact(aZ (bW zDN s_gt (bP aq hr (c6 (vv 0) (bL (pv 1) (c6 dD cZ)))) dD (aK _))
   (c7 (cQ (vv 5)))
   cI)
  ·exact(bK Q6.nd (ZT (cX (bP ga hr (c6 (vv 0) (bL (pv 1) (c6 (vv 5) cZ)))))))
  ·exact(bK Q6.nd (ZT (bZ (EJ rfl rfl (by rfl) T.n_dict zD3 (bZ (aB ["_law_number","_law_row_here"] [] 2 (PL rfl (by rfl) T.n_enumerate (vv 6)) (fun hn _ _ _ _=>⟨(X3 (K:=K) rfl rfl (cA (cR hn) (cA (cR hn) ZC))),X2,(cX (bT (dE (vv 1) (dE (vv 0) cW))))⟩)))))))
  ·exact(cQ (bT (dE (vv 4) (dE (QK (W7 (K:=K) rfl) W4 (by rfl) T.n_tuple ZP (bZ (aB ["_law_block_here","_law_names_here","_law_row_here"] [5,7] 1 (W0 rfl (vv 6)) (fun hn _ _ _ _=>⟨(cR hn),X2,(cX (bP cj hr (c6 (cX (Z6 hu1 (Z6 hu1 (vv 0) dD) (vv 2))) (c6 (vv 1) cZ))))⟩)))) cW))))
noncomputable abbrev Nx30:List Str:=["_law_script","_law_town","_law_block_here","_law_wanted","_law_row_here","_law_named_by","_law_less","_law_where","_law_due","_law_names_here"]
noncomputable abbrev Qx30:List Str:=["_law_script"]
theorem WZ:cJ Nx30 Qx30 (cY (top 47)):=Y7
theorem zFW(F:WE K "law" "law" (top 47) f fd) (T:Txt K mg) (du:b8 P w K mg base "needless" 7 Qx14 [] Y5 f_x14) (dr:b8 P w K mg base "pruned" 7 Qx15 [] XC f_x15) (gc:b8 P w K mg base "_law_block" 8 Qx24 [1] ZN f_x24) (cm:b8 P w K mg base "_law_names" 1 CT [] bU f_x25) (bo:b8 P w K mg base "_law_may" 1 CU [] aJ f_x26) (cj:b8 P w K mg base "_law_renamed" 1 CV [] cP f_x29):
  aG P w K mg base CX0 9 f fd Qx30 (spV K [] 1 LR):=
 TL P w K mg base Nx30 Qx30 8 zB1 [] F WZ fun _ _ _ _ _ _ hr hu hu1=>by
  refine(dC ?_ (dC ?_ (dC ?_ (dC ?_ (dC ?_ (dC ?_ (dC ?_ (dC ?_ (dC ?_ (c7 ?_))))))))))
  ·exact(bK WZ.nd (XJ (aW (cM cW))))
  ·exact(bK WZ.nd (ZT (cX (bP gc hr (c6 (vv 0) (bL (pv 1) (c6 dD cZ)))))))
  ·exact(bK WZ.nd (XJ (aW (cM cW))))
  ·exact (V9 Du rfl (BZ (by rfl) T.n_range (by rfl) T.n_reversed (Y0 T.n_len (Z6 hu1 (vv 2) dD))) (cR WZ.nd)
   (dC (J6 false WZ.nd ["_law_block_here","_law_row_here","_law_one"] [2,4] 1 (BY rfl (vo 3)) (fun hn _ _ _ _=>⟨(cR hn),(TU (bW (WI (K:=K) rfl hu) (Z7 (neg:=false)) (vv 1) (bP cm hr (c6 (cX (Z6 hu1 (Z6 hu1 (vv 0) dD) (vv 2))) cZ)) (by with_unfolding_all rfl))),(vv 2)⟩))
   (c7 (aZ (RB (VO (bW (WI (K:=K) rfl hu) (Z7 (neg:=false)) (Z6 hu1 (Z6 hu1 (Z6 hu1 (vv 2) dD) (vv 4)) dD) (bT (dE cV (dE cV cW))) (by with_unfolding_all rfl)) (VO (X4 (bP bo hr (c6 (vv 2) (c6 (vv 4) cZ)))) (W1 (bW (N5 (K:=K) rfl hu) OM (vv 5) (bZ (aW (cM cW))) (aK _))))))
   (c7 (Y9 (K:=K) rfl Bh Bi bF YT (pv 3) (cM (dE (vv 4) cW))))
   cI))))
  ·exact (aZ (bW (N5 (K := K) rfl hu) OM (bP du hr (c6 (vv 2) cZ)) (bZ (aB ["_law_wanted","_law_row_here"] [3] 1 (YK (by rfl) T.n_range (Y0 T.n_len (Z6 hu1 (vv 2) dD))) (fun hn _ _ _ _ => ⟨(cR hn),(TU (bW (UB (K := K) rfl hu) (Z7 (neg := true)) (vv 1) (vo 0) (by with_unfolding_all rfl))),(vv 1)⟩))) (aK _))
   (c7 (cQ WQ))
   cI)
  ·exact(OV (cX (bP dr hr (c6 (vv 2) cZ))) (X3 (K:=K) rfl rfl (cA (cR WZ.nd) (cA (cR WZ.nd) ZC))))
  ·exact(zBH (i:=8) (j:=9) rfl rfl WZ.nd rfl rfl (by decide) (Mh rfl) (Mi rfl) (XJ (aW (cM cW))) (XJ OU))
  ·exact (V9 Du rfl (W0 rfl (bZ (zDA (zGV (K := K) rfl) zCN (by rfl) T.n_sorted QM (GA (vo 3))))) (cR WZ.nd)
   (dC (PM hu1 (pv 9) (vv 4) (cX (Y0 T.n_len (vo 8))) rfl)
   (c7 (Y9 (K:=K) rfl Bh Bi bF YT (pv 8) (cM (dE (bP cj hr (c6 (cX (Z6 hu1 (Z6 hu1 (vv 2) dD) (vv 4))) (bL (pv 9) cZ))) cW))))))
  ·exact (aZ (RB (VO (bW (N5 (K := K) rfl hu) OM (vv 6) (bT (dE (Z6 hu1 (vv 2) dD) (dE (QK (W7 (K := K) rfl) W4 (by rfl) T.n_tuple ZP (vo 8)) cW))) (aK _)) (W1 (bW (N5 (K := K) rfl hu) OM (vv 7) (bZ (aB ["_law_names_here","_law_row_here"] [9] 1 (YK (by rfl) T.n_range (Y0 T.n_len (Z6 hu1 (vv 2) dD))) (fun hn _ _ _ _ => ⟨(cR hn),X2,(cX (J3 hu1 (pv 0) (vv 1) ⟨rfl,rfl,rfl,rfl⟩))⟩))) (aK _)))))
   (c7 (cQ WQ))
   cI)
  ·exact(cQ (XI (veq hu (bP du hr (c6 (vv 6) cZ)) (bZ (aW (cM cW)))) (V8 (veq hu (bP dr hr (c6 (vv 6) cZ)) (bT (dE (vv 6) (dE (bZ (MY rfl (by rfl) T.TH O0 (by rfl) T.n_range HY (Y0 T.n_len (vo 8)))) cW)))))))
end
end RR
namespace L2
open PySem
theorem aD(a b:String):At a=At b↔a=b:=by
 refine⟨fun h=> ?_,fun h=>by rw[h]⟩;rw[Ib,Ib] at h;injection h with h;have h2:a.toList.map Pc=b.toList.map Pc:=by simpa using h
 have h3:a.toList=b.toList:=by
  have inj: ∀(l m:List Char),l.map Pc=m.map Pc->l=m:=by
   intro l;induction l with
   |nil=>intro m h;cases m with
    |nil=>rfl
    |cons=>cases h
   | cons c l ih => intro m h;cases m with
    |nil=>cases h
    |cons e m=>
     simp only[Aq,Hw] at h;rw[ih m h.2,Char.toNat_inj.mp h.1]
  exact inj _ _ h2
 exact String.toList_inj.mp h3
theorem D9(a:String):Ry (At a)=true:=by
 unfold Ry;rw[Ib];simp only[List.all_toArray,Rx,Iz,Lk,decide_eq_true_eq];intro c _;have:=c.valid;rcases this with h|⟨_,h⟩
 ·show c.val.toNat<1114112
  have:c.val.toNat<55296:=h;lia
 ·exact h
def U2(k:Nat)(d:dF):Prop:=d.isD=true/\d.pd.canLay0=true/\d.pd.depth<=k
theorem ZY{k:Nat}{i:Int}:U2 k (.int i):=⟨rfl,rfl,Di _⟩
theorem zA5{k:Nat}{i:Bool}:U2 k (.bl i):=⟨rfl,rfl,Di _⟩
theorem FH{k:Nat}:U2 k .non:=⟨rfl,rfl,Di _⟩
theorem ZB{k:Nat}{a:String}:U2 k (.str (At a)):=⟨rfl,by simp[dF.pd,Gj,D9],Di _⟩
theorem LB{k:Nat}: ∀{ds:List dF},(∀d∈ds,U2 k d)->IN ds=true/\Im (CN ds)=true/\Fc (CN ds)<=k
 |[],_=>⟨rfl,rfl,Di _⟩
 |d::ds,h=>by
  obtain⟨a1,a2,a3⟩:=h d Au;obtain⟨b1,b2,b3⟩:=LB fun e he=>h e (Ap _ he);refine⟨by simp[IN,a1,b1],by simp[CN,Im,a2,b2],?_⟩;simp only[CN,Fc];lia
theorem V3{k:Nat}{ds:List dF}(h: ∀d∈ds,U2 k d):U2 (k+1) (.tup ds):=by
 obtain⟨a,b,c⟩:=LB h;exact⟨by simpa[dF.isD] using a,by simpa[dF.pd,Gj] using b,by simp only[dF.pd,Ix];lia⟩
theorem Z5{k:Nat}{ds:List dF}(h: ∀d∈ds,U2 k d):U2 (k+1) (.lst ds):=by
 obtain⟨a,b,c⟩:=LB h;exact⟨by simpa[dF.isD] using a,by simpa[dF.pd,Gj] using b,by simp only[dF.pd,Ix];lia⟩
theorem U2.ok{k:Nat}{d:dF}(h:U2 k d)(hk:k<=64:=by decide):MH d=true:=by
 unfold MH Er;simp only[h.1,h.2.1,Ln,Ae,decide_eq_true_eq];have:=h.2.2;lia
@[simp] theorem zKB{a:String}:MH (.str (At a))=true:=(ZB (k:=0)).ok
theorem ZZ{k:Nat}: ∀d∈([]:List dF),U2 k d:=fun _ h=>nomatch h
theorem bH{k:Nat}{d:dF}{ds:List dF}(h:U2 k d)(t: ∀d∈ds,U2 k d): ∀e∈d::ds,U2 k e:=fun e he=>by
 rcases Ai.mp he with z|z
 ·rw[z];exact h
 ·exact t e z
@[simp] theorem zB7{i j:Int}:HU (.int i) (.int j)=decide (i=j):=by show(i==j)=_;rw[Mo]
@[simp] theorem zH3{a b:String}:HU (.str (At a)) (.str (At b))=decide (a=b):=by
 show(At a==At b)=_;rw[Mo];simp only[aD]
@[simp] theorem zB4:HU (.tup []) (.tup [])=true:=(rfl)
@[simp] theorem zB5{d e:dF}{ds es:List dF}:HU (.tup (d::ds)) (.tup (e::es))=(HU d e && HU (.tup ds) (.tup es)):=(rfl)
@[simp] theorem zMQ{i j:Int}:W9 (.int i) (.int j)=some (.bl (decide (i=j))):=by unfold W9;simp
@[simp] theorem zMC{i j:Int}:P0 (.int i) (.int j)=some (.bl (!decide (i=j))):=by unfold P0;simp
@[simp] theorem zMP{a b:String}:W9 (.str (At a)) (.str (At b))=some (.bl (decide (a=b))):=by unfold W9;simp
@[simp] theorem zMB{a b:String}:P0 (.str (At a)) (.str (At b))=some (.bl (!decide (a=b))):=by unfold P0;simp
theorem zDR{j k:Nat}{d e:dF}(h:U2 j d)(h':U2 k e)(hj:j<=64:=by decide)(hk:k<=64:=by decide):W9 d e=some (.bl (HU d e)):=by
 unfold W9;rw[h.ok hj,h'.ok hk];rfl
theorem JG{j k:Nat}{d e:dF}(h:U2 j d)(h':U2 k e)(hj:j<=64:=by decide)(hk:k<=64:=by decide):P0 d e=some (.bl (!HU d e)):=by
 unfold P0;rw[h.ok hj,h'.ok hk];rfl
theorem zA7{j k:Nat}{neg:Bool}{d:dF}{ds:List dF}(h:U2 j d)(h': ∀e∈ds,U2 k e)(hj:j<=64:=by decide)(hk:k+1<=64:=by decide):bJ neg d (.tup ds)=some (.bl (if neg then !N3 d ds else N3 d ds)):=by
 unfold bJ;simp[h.ok hj,(V3 h').ok hk]
theorem QZ{j k:Nat}{neg:Bool}{d:dF}{ds:List dF}(h:U2 j d)(h': ∀e∈ds,U2 k e)(hj:j<=64:=by decide)(hk:k+1<=64:=by decide):bJ neg d (.lst ds)=some (.bl (if neg then !N3 d ds else N3 d ds)):=by
 unfold bJ;simp[h.ok hj,(Z5 h').ok hk]
@[simp] theorem zOM{d:dF}:N3 d []=false:=(rfl)
@[simp] theorem EZ{d e:dF}{ds:List dF}:N3 d (e::ds)=(HU e d || N3 d ds):=(rfl)
@[simp] theorem E2{neg:Bool}{a b c:String}:bJ neg (.str (At a)) (.tup [.str (At b),.str (At c)])=some (.bl (if neg then !(decide (b=a) || decide (c=a)) else decide (b=a) || decide (c=a))):=by
 rw[zA7 (j:=0) ZB (bH (ZB (k:=0)) (bH ZB ZZ))];simp
@[simp] theorem zDX{neg:Bool}{a b c d e:String}:bJ neg (.str (At a)) (.tup [.str (At b),.str (At c),.str (At d),.str (At e)])=some (.bl (if neg then !(decide (b=a) || (decide (c=a) || (decide (d=a) || decide (e=a)))) else decide (b=a) || (decide (c=a) || (decide (d=a) || decide (e=a))))):=by
 rw[zA7 (j:=0) ZB (bH (ZB (k:=0)) (bH ZB (bH ZB (bH ZB ZZ))))];simp
@[simp] theorem zOL{neg:Bool}{a b c:Int}:bJ neg (.int a) (.tup [.int b,.int c])=some (.bl (if neg then !(decide (b=a) || decide (c=a)) else decide (b=a) || decide (c=a))):=by
 rw[zA7 (j:=0) ZY (bH (ZY (k:=0)) (bH ZY ZZ))];simp
theorem zB6{k:Nat}{d:dF}(h:U2 k d):HU d d=true:=PySem.SeqAt.eqv_refl _ h.2.1
noncomputable def XW(ns:List Int):dF:= .lst (ns.map .int)
noncomputable def YM(n:Nat):dF:= .lst (Bd n (.int 0))
theorem MB: ∀ns:List Int,IN (ns.map dF.int)=true
 |[]=>rfl
 |n::ns=>by simp[IN,dF.isD,MB ns]
theorem JJ: ∀ns:List Int,CN (ns.map dF.int)=ns.map Op
 |[]=>rfl
 |n::ns=>by simp[CN,dF.pd,JJ ns]
theorem zA6(ns:List Int):MH (.lst (ns.map .int))=true:=by
 unfold MH;simp only[dF.isD,MB,dF.pd,JJ,Ln];exact JX ns
theorem SU(ns:List Int):W9 (.lst (ns.map .int)) (.lst [])=some (.bl ns.isEmpty):=by
 unfold W9;rw[zA6,show MH (.lst [])=true from by decide+kernel];cases ns<;>rfl
theorem MA: ∀n:Nat,UW (Bd n (.int 0))=true
 |0=>rfl
 |n+1=>by simp[List.replicate_succ,UW,dF.hard,MA n]
@[simp] theorem zJ8(n:Nat):UX (YM n)=true:=MA n
theorem L4: ∀(ds:List dF) (a b:dF) (r:Int) (s:Sl),∃r' s',XZ (gN 3) (Z9 2 (xV (f2 FG (fV 2) (fC (.int 1000003))))) ds [.va a,.va b,.va (.int r),s]=some (.nx [.va a,.va b,.va (.int r'),s'])
 |[],a,b,r,s=>⟨r,s,rfl⟩
 |d::ds,a,b,r,s=>by
  obtain⟨r',s',h⟩:=L4 ds a b (r/1000003) (.va d);exact⟨r',s',by simp[cDiv,h]⟩
theorem PD{ns:List Int}{i:Int}(h0:0<=i)(h1:i<ns.length): ∃r∈ns,VQ (ns.map dF.int) i=some (.int r):=by
 obtain⟨x,hx,e⟩:=GN (xs:=ns.map dF.int) h0 (by simpa using h1);obtain⟨r,hr,rfl⟩:=Bx.mp hx;exact⟨r,hr,e⟩
theorem zD1(ns:List Int)(k:Nat)(hl:ns.length<=63)(hk:k<1000000): ∃r,aQ [XW ns,.int k]=some (.int r,[]):=by
 unfold aQ;rw[b9];unfold WW VM XW;by_cases h:(k:Int)<ns.length
 ·obtain ⟨r,_,e⟩ := PD (ns := ns) (i := k) (by lia) h
  exact⟨r,by simp[bS,h,e]⟩
 ·cases ns with
  |nil=>
   have h0: ¬((k:Int)<0):=by lia
   have e:W9 (.lst []) (.lst [])=some (.bl true):=SU [];exact⟨0,by simp[bS,h0,e]⟩
  |cons m ms=>
   generalize hns:m::ms=ns at*;have df:(0:Int)<ns.length:=by rw[<- hns];simp
   have hb:=Hx (k:Int) (show(ns.length:Int)≠0 by lia);have hb2:=Et (k:Int) df;obtain⟨r,_,e⟩:=PD (ns:=ns) hb hb2;have he:ns.isEmpty=false:=by rw[<- hns];rfl
   have hq:0<=(k:Int)/ns.length:=Int.ediv_nonneg (by lia) (by lia);have hm: -4611686018427387904<=(if(60:Int)<(k:Int)/ns.length then 60 else(k:Int)/ns.length)/\(if(60:Int)<(k:Int)/ns.length then 60 else(k:Int)/ns.length)<4611686018427387904:=by split<;>lia
   obtain⟨r',s',e2⟩:=L4 (Z8 0 (if(60:Int)<(k:Int)/ns.length then 60 else(k:Int)/ns.length).toNat) (.lst (ns.map .int)) (.int k) r .no;have hp2:0<ns.length:=by lia
   have hp3:(ns.length:Int)<1073741824:=by lia
   exact⟨r*31+k+r'*101,by simp[bS,h,SU,he,df,hp2,hp3,e,cDiv,hm,e2,cMul]⟩
noncomputable def cel(ns:List Int)(k:Nat):Int:=match aQ [XW ns,.int k] with
 |some (.int r,_)=>r
 |_=>0
theorem zH6(ns:List Int)(k:Nat)(hl:ns.length<=63)(hk:k<1000000):aQ [XW ns,.int k]=some (.int (cel ns k),[]):=by
 obtain⟨r,e⟩:=zD1 ns k hl hk;unfold cel;rw[e]
noncomputable def KD(ns:List Int)(n:Nat)(b:Int):Int:=((cel ns (n+1)*1103515245+7919*(((n+1:Nat)):Int)+12345) % 2147483647) ^ 5 % 2147483647 % 999983 % b
theorem NP(ns:List Int)(n:Nat){b:Int}(h:0<b):0<=KD ns n b:=Hx _ (by lia)
theorem EU(ns:List Int)(n:Nat){b:Int}(h:0<b):KD ns n b<b:=Et _ h
theorem zGK(ns:List Int)(n:Nat)(b:Int)(hl:ns.length<=63)(hn:n<900000)(hb:0<b):Y2 [XW ns,.int ((n+1:Nat):Int),.int b]=some (.int (KD ns n b),[]):=by
 have e:=zH6 ns (n+1) hl (by lia);unfold Y2;rw[b9];unfold UU KD;have e1:=Hx (cel ns (n+1)*1103515245+7919*((n+1:Nat):Int)+12345) (show(2147483647:Int)≠0 by decide);have e2:=Et (cel ns (n+1)*1103515245+7919*((n+1:Nat):Int)+12345) (show(0:Int)<2147483647 by decide);generalize hz:(cel ns (n+1)*1103515245+7919*((n+1:Nat):Int)+12345) % 2147483647=z at*;have hz2:z.natAbs<18446744073709551616:=by lia
 generalize hk:((n+1:Nat):Int)=k at*;simp[bS,e,cMul,cPow,hz,hz2,hb]
theorem XT(ns:List Int)(n:Nat)(b:Int)(hl:ns.length<=63)(hn:n<900000)(hb:0<b):cG [XW ns,YM n,.int b]=some (.int (KD ns n b),[YM (n+1)]):=by
 have e:=zGK ns n b hl hn hb;unfold cG;rw[b9];unfold SY;have ht:YM n= .lst (Bd n (.int 0)):=rfl;have ht2:YM (n+1)= .lst (Bd n (.int 0)++[.int 0]):=by unfold YM;rw[List.replicate_succ']
 rw[ht2,ht];have hs:n<16777216:=by lia
 push_cast at e
 simp[bS,hs,e]
theorem V4(ns:List Int)(n:Nat)(xs:List dF)(hl:ns.length<=63)(hn:n<900000)(hx:0<xs.length): ∃x∈xs,bY [XW ns,YM n,.lst xs]=some (x,[YM (n+1)]):=by
 have hx':(0:Int)<xs.length:=by lia
 obtain⟨x,hm,e⟩:=GN (xs:=xs) (NP ns n hx') (EU ns n hx');refine⟨x,hm,?_⟩;unfold bY;rw[b9];unfold S8;simp[bS,XT ns n _ hl hn hx',e]
theorem ET(ns:List Int)(n:Nat)(b:Int)(hl:ns.length<=63)(hn:n<900000)(hb:0<b)(tl:Ev):cU 3 [1] cG (aE (fV 0) (aO 1 (aE (fC (.int b)) cC))) (.va (XW ns):: .ow (YM n)::tl)=some (.int (KD ns n b),.va (XW ns):: .ow (YM (n+1))::tl):=by simp[XT ns n b hl hn hb]
abbrev Sn(m:Nat)(d:dF):Prop:= ∃(ks:List bV) (vs:List Int),d= .dct ks (vs.map .int)/\ks.length=vs.length/\ks.Nodup/\ks.length<=m
abbrev NJ(n:Nat)(d:dF):Prop:=Sn (8*n) d
theorem NJ.mono{n m:Nat}{d:dF}(h:NJ n d)(hn:n<=m):NJ m d:=by
 obtain⟨ks,vs,h1,h2,h3,h4⟩:=h;exact⟨ks,vs,h1,h2,h3,by lia⟩
theorem zDU: ∀(ks:List bV) (vs:List Int) (k:bV) (q:Int),∃r,(cD ks (vs.map .int) k).getD (.int q)= .int r
 |[],_,_,q=>⟨q,by simp[cD]⟩
 |_::_,[],_,q=>⟨q,by simp[cD]⟩
 | k' :: ks,v :: vs,k,q => by
  by_cases h:k'=k
  ·exact⟨v,by simp[cD,h]⟩
  ·obtain⟨r,e⟩:=zDU ks vs k q
   exact⟨r,by simp only[Aq,cD,if_neg h];exact e⟩
theorem putI: ∀(ks:List bV) (vs:List Int) (k:bV) (p:Int),ks.length=vs.length->ks.Nodup-> ∃(ks':List bV) (vs':List Int),bB ks (vs.map .int) k (.int p)=(ks',vs'.map .int)/\ks'.length=vs'.length/\ks'.Nodup/\ks'.length<=ks.length+1/\(∀z∈ks',z=k∨z∈ks)/\cD ks' (vs'.map .int) k=some (.int p)
 |[],[],k,p,_,_=>⟨[k],[p],by simp[bB],rfl,by simp,by simp,by simp,by simp[cD]⟩
 | k' :: ks,v :: vs,k,p,hl,hn => by
  by_cases h:k'=k
  ·subst h
   exact⟨k'::ks,p::vs,by simp[bB],by simpa using hl,hn,by simp,by simp,by simp[cD]⟩
  ·obtain ⟨ks',vs',e,h1,h2,h3,h4,h5⟩ := putI ks vs k p (by simpa using hl) (Cq.mp hn).2
   refine⟨k'::ks',v::vs',by simp only[Aq,bB,if_neg h,e],by simp[h1],?_,by simp;lia,?_,by simp only[Aq,cD,if_neg h];exact h5⟩
   ·refine Cq.mpr ⟨fun z => ?_,h2⟩
    rcases h4 _ z with y|y
    ·exact h y
    ·exact(Cq.mp hn).1 y
   ·intro z hz
    rcases Ai.mp hz with y|y
    ·exact .inr (by rw[y];exact Au)
    ·exact(h4 z y).imp id (Ap _)
theorem JL(ns:List Int)(n:Nat)(sn:dF)(x:Str)(ab:Int)(hl:ns.length<=63)(hn:n<800000)(hs:NJ n sn)(hr:0<ab):
  ∃p sn',0<=p/\p<ab/\NJ (n+2) sn'/\a8 [XW ns,YM n,sn,.str x,.int ab]=some (.int p,[YM (n+2),sn']):=by
 obtain⟨ks,vs,rfl,h1,h2,h3⟩:=hs;obtain⟨a,ha⟩:=zDU ks vs (.inr x) (KD ns n ab);obtain⟨y,hy,ey⟩:=V4 ns (n+1) [.int 1,.int 1,.int 1,.int 0,.int 3] hl (by lia) (by simp);obtain⟨b,rfl⟩: ∃b,y= .int b:=by
  simp only[Ai,Ay,or_false] at hy;rcases hy with h|h|h|h|h<;>exact⟨_,h⟩
 obtain⟨ks',vs',e,h4,h5,h6,h7,h8⟩:=putI ks vs (.inr x) ((a+b) % ab) h1 h2;refine⟨(a+b) % ab,.dct ks' (vs'.map .int),Hx _ (by lia),Et _ hr,⟨ks',vs',rfl,h4,h5,by lia⟩,?_⟩;have hk:ks.length<16777216:=by lia
 unfold a8;rw[b9];unfold UV;simp[bS,XT ns n ab hl (by lia) hr,ha,ey,hr,hk,h2,e,h8]
inductive bM(M:Int->Prop):dF->Prop
 |number {n:Int}:0<=n->n<=999->bM M (.tup [.str "number",.int n])
 |two {x:String} {a b:Int}:x∈["over","plus","minus","times","least","most","less"]->M a->M b->bM M (.tup [.str x,.int a,.int b])
 |pick {c a b:Int}:M c->M a->M b->bM M (.tup [.str "pick",.int c,.int a,.int b])
 |load {p:Int}:0<=p->p<=63->bM M (.tup [.str "load",.int p])
 |take {p c a:Int}:0<=p->p<=63->M c->M a->bM M (.tup [.str "take",.int p,.int c,.int a])
 |store {p a:Int}:0<=p->p<=63->M a->bM M (.tup [.str "store",.int p,.int a])
 |put {p a c:Int}:0<=p->p<=63->M a->M c->bM M (.tup [.str "put",.int p,.int a,.int c])
theorem BM(ns:List Int)(n:Nat)(made:List Int)(hl:ns.length<=63)(hn:n<800000)(hm:0<made.length)(s:Sl): ∃a b c,a∈made/\b∈made/\c∈made∧
  aS 3 1 (gN 3) XX (f2 cN (fV 2) (f2 oMax (fC (.int 0)) (f2 NE (f2 NE (f1 aF (fV 2)) (fC (.int 1))) (cU 3 [1] cG (aE (fV 0) (aO 1 (aE (fC (.int 6)) cC))))))) [.int 0,.int 1,.int 2] [] [.va (XW ns),.ow (YM n),.va (.lst (made.map .int))]=
   some ([.int a,.int b,.int c],[.va (XW ns),.ow (YM (n+3)),.va (.lst (made.map .int))]):=by
 have one: ∀m,∃a∈made,VQ (made.map dF.int) (if(made.length:Int) - 1 - KD ns m 6>0 then(made.length:Int) - 1 - KD ns m 6 else 0)=some (.int a):=fun m=>by
  have:=NP ns m (b:=6) (by decide);exact PD (by split<;>lia) (by split<;>lia)
 obtain⟨a,ha,ea⟩:=one n;obtain⟨b,hb,eb⟩:=one (n+1);obtain⟨c,hc,ec⟩:=one (n+2);refine⟨a,b,c,ha,hb,hc,?_⟩;have d0:=XT ns n 6 hl (by lia) (by decide);have d1:=XT ns (n+1) 6 hl (by lia) (by decide);have d2:=XT ns (n+2) 6 hl (by lia) (by decide);simp only[gt_iff_lt,Int.sub_pos] at ea eb ec;simp[d0,d1,d2,ea,eb,ec]
def G6(x:String):Prop:=x= "load" ∨x= "take" ∨x= "store" ∨x= "put"
def PlOK(ab:Int)(row:dF):Prop:= ∀(x:String) (p:Int) (t:List dF),row= .tup (.str x:: .int p::t)->G6 x->p<ab
theorem R9{ab p:Int}{x:String}{t:List dF}(h:p<ab):PlOK ab (.tup (.str x:: .int p::t)):=fun y q u e _=>by
 simp only[dF.tup.injEq,Hw,dF.int.injEq] at e;lia
theorem HB{ab:Int}{x:String}{t:List dF}(h: ¬G6 x):PlOK ab (.tup (.str x::t)):=fun y q u e hy=>by
 simp only[dF.tup.injEq,Hw,dF.str.injEq,aD] at e;rw[<- e.1] at hy;exact absurd hy h
theorem F8{x:String}(hx:x∈["over","plus","minus","times","least","most","less"]): ¬G6 x:=fun h=>by
 simp only[Ai,Ay,or_false] at hx;rcases hx with rfl|rfl|rfl|rfl|rfl|rfl|rfl<;>rcases h with h|h|h|h<;>exact absurd h (by decide)
theorem aU{s1 s2:VS}{δ δ1:Ev}(h:s1 δ=some (.nx δ1)):cK s1 s2 δ=s2 δ1:=by rw[BA,h,qS_n]
theorem zF1(ns:List Int)(n:Nat)(made:List Int)(sn:dF)(ab:Int)(hl:ns.length<=63)(hn:n<700000)(hs:NJ n sn)(hr:0<ab)(hr2:ab<=64):
    ∃row n' sn',n<=n'/\n'<=n+10/\NJ n' sn'/\bM (· ∈made) row/\PlOK ab row/\XM [XW ns,YM n,.lst (made.map .int),sn,.int ab]=some (row,[YM n',sn']):=by
  have d0:=ET ns n 13 hl (by lia) (by decide);have k0:=NP ns n (b:=13) (by decide);have k1:=EU ns n (b:=13) (by decide);generalize KD ns n 13=kd at*;unfold XM;rw[b9];unfold QT;by_cases h0:made.isEmpty=true∨kd=0
  · have d1 := ET ns (n + 1) 2 hl (by lia) (by decide)
    have hor:made.isEmpty=true∨(made.isEmpty=false/\kd=0):=by
      cases hm:made.isEmpty with
      |true=>exact .inl rfl
      | false => rcases h0 with h | h
                 · rw[hm] at h;cases h
                 · exact .inr ⟨rfl,h⟩
    by_cases h2:KD ns (n+1) 2=0
    · have d2 := ET ns (n + 2) 1000 hl (by lia) (by decide)
      obtain⟨y,hy,ey⟩:=V4 ns (n+3) [.int 0,.int 1,.int 2,.int 5,.int 999,.int (KD ns (n+2) 1000)] hl (by lia) (by simp);obtain⟨b,rfl,hb0,hb1⟩: ∃b,y= .int b/\0<=b/\b<=999:=by
        have:=NP ns (n+2) (b:=1000) (by decide);have:=EU ns (n+2) (b:=1000) (by decide);simp only[Ai,Ay,or_false] at hy;rcases hy with h|h|h|h|h|h<;>exact⟨_,h,by lia,by lia⟩
      refine⟨.tup [.str "number",.int b],n+4,sn,by lia,by lia,hs.mono (by lia),.number hb0 hb1,HB (by unfold G6;decide),?_⟩;rcases hor with h|⟨h,h'⟩
      · simp[bS,↓d0,SU,h,↓d1,h2,↓d2,ey]
      · simp[bS,↓d0,SU,h,h',↓d1,h2,↓d2,ey]
    · obtain ⟨p,sn',p0,p1,hs',ep⟩ := JL ns (n + 2) sn "load" ab hl (by lia) (hs.mono (by lia)) hr
      refine⟨.tup [.str "load",.int p],n+4,sn',by lia,by lia,hs',.load p0 (by lia),R9 p1,?_⟩;rcases hor with h|⟨h,h'⟩
      · simp[bS,↓d0,SU,h,↓d1,h2,ep]
      · simp[bS,↓d0,SU,h,h',↓d1,h2,ep]
  · obtain⟨hm,hkd⟩:=not_or.mp h0
    have hm':made.isEmpty=false:=by simpa using hm
    have df:0<made.length:=by
      cases made with
      |nil=>cases hm'
      |cons=>simp
    obtain⟨a,b,c,ha,hb,hc,e3⟩:=BM ns (n+1) made hl (by lia) df .no;rw[show bS [1,3] 9 [XW ns,YM n,.lst (made.map .int),sn,.int ab]=[.va (XW ns),.ow (YM n),.va (.lst (made.map .int)),.ow sn,.va (.int ab),.no,.no,.no,.no] from rfl,
      aU (δ1:=[.va (XW ns),.ow (YM (n+1)),.va (.lst (made.map .int)),.ow sn,.va (.int ab),.va (.int kd),.no,.no,.no]) (by simp[↓d0]),
      aU (δ1:=[.va (XW ns),.ow (YM (n+1)),.va (.lst (made.map .int)),.ow sn,.va (.int ab),.va (.int kd),.no,.no,.no]) (by simp[SU,hm',hkd]),
      aU (δ1:=[.va (XW ns),.ow (YM (n+4)),.va (.lst (made.map .int)),.ow sn,.va (.int ab),.va (.int kd),.va (.int a),.va (.int b),.va (.int c)]) (by simp[bX,e3])]
    have l8:(kd=1∨kd=2)∨kd=3∨(kd=4∨kd=5)∨kd=6∨kd=7∨(8<=kd/\kd<=12):=by lia
    have pl: ∀x:Str,∃p sn',0<=p/\p<=63/\p<ab/\NJ (n+6) sn'/\ ∀s tl,cU 5 [1,2] a8 (aE (fV 0) (aO 1 (aO 3 (aE (fC (.str x)) (aE (fV 4) cC))))) (.va (XW ns):: .ow (YM (n+4))::s:: .ow sn:: .va (.int ab)::tl)=some (.int p,.va (XW ns):: .ow (YM (n+6))::s:: .ow sn':: .va (.int ab)::tl):=fun x=>by
      obtain⟨p,sn',p0,p1,hs',ep⟩:=JL ns (n+4) sn x ab hl (by lia) (hs.mono (by lia)) hr;exact⟨p,sn',p0,by lia,p1,hs',fun s tl=>by simp[ep]⟩
    rcases l8 with h|h|h|h|h|h
    · have t12 : (decide (1 = kd) || decide (2 = kd)) = true := by rcases h with rfl | rfl <;> decide
      obtain⟨p,sn',p0,p1,p2,hs',ep⟩:=pl "load";exact⟨.tup [.str "load",.int p],n+6,sn',by lia,by lia,hs',.load p0 p1,R9 p2,by simp[↓ep,t12]⟩
    · subst h
      obtain⟨p,sn',p0,p1,p2,hs',ep⟩:=pl "take";exact⟨.tup [.str "take",.int p,.int c,.int a],n+6,sn',by lia,by lia,hs',.take p0 p1 hc ha,R9 p2,by simp[↓ep]⟩
    · have t45 : (decide (4 = kd) || decide (5 = kd)) = true := by rcases h with rfl | rfl <;> decide
      have n3: ¬kd=3:=by lia
      have m1: ¬1=kd:=by lia
      have m2: ¬2=kd:=by lia
      obtain⟨p,sn',p0,p1,p2,hs',ep⟩:=pl "store";exact⟨.tup [.str "store",.int p,.int a],n+6,sn',by lia,by lia,hs',.store p0 p1 ha,R9 p2,by simp[↓ep,n3,m1,m2,t45]⟩
    · subst h
      obtain⟨p,sn',p0,p1,p2,hs',ep⟩:=pl "put";exact⟨.tup [.str "put",.int p,.int a,.int c],n+6,sn',by lia,by lia,hs',.put p0 p1 ha hc,R9 p2,by simp[↓ep]⟩
    · subst h
      exact⟨.tup [.str "pick",.int c,.int a,.int b],n+4,sn,by lia,by lia,hs.mono (by lia),.pick hc ha hb,HB (by unfold G6;decide),by simp⟩
    · have d4 := ET ns (n + 4) 7 hl (by lia) (by decide)
      have q0:=NP ns (n+4) (b:=7) (by decide);have q1:=EU ns (n+4) (b:=7) (by decide);obtain⟨y,hy,ey⟩:=GN (xs:=["over","plus","minus","times","least","most","less"].map fun s:String=>dF.str (At s)) q0 (by simpa using q1);obtain⟨x,hx,rfl⟩:=Bx.mp hy;simp only[Aq,Dg] at ey;have n1: ¬kd=1:=by lia
      have n2: ¬kd=2:=by lia
      have n3: ¬kd=3:=by lia
      have n4: ¬kd=4:=by lia
      have n5: ¬kd=5:=by lia
      have n6: ¬kd=6:=by lia
      have n7: ¬kd=7:=by lia
      have m1: ¬1=kd:=by lia
      have m2: ¬2=kd:=by lia
      have m4: ¬4=kd:=by lia
      have m5: ¬5=kd:=by lia
      exact⟨.tup [.str x,.int a,.int b],n+5,sn,by lia,by lia,hs.mono (by lia),.two hx ha hb,HB (F8 hx),by simp[n3,n6,n7,m1,m2,m4,m5,↓d4,ey]⟩
inductive Kd where
 |w|p|n
 deriving DecidableEq
def Nm(kds:List Kd)(k:Kd)(a:Int):Prop:=0<=a/\kds[a.toNat]? =some k
theorem Nm.lt{kds:List Kd}{k:Kd}{a:Int}(h:Nm kds k a):a<kds.length:=by
 have:=(Ag.mp h.2).1;have:=h.1;lia
theorem Nm.snoc{kds:List Kd}{k j:Kd}{a:Int}(h:Nm kds k a):Nm (kds++[j]) k a:=⟨h.1,by rw[Am (Ag.mp h.2).1];exact h.2⟩
theorem Nm.new{kds:List Kd}{k:Kd}:Nm (kds++[k]) k kds.length:=⟨by lia,by simp⟩
noncomputable def RY(k:Kd):dF->Kd
 | .tup (.str x::_)=>if x= "store" ∨x= "put" then .n else k
 |_=> .n
theorem bM.imp{M M':Int->Prop}{row:dF}(h:bM M row)(f: ∀a,M a->M' a):bM M' row:=by
 cases h with
 |number a b=>exact .number a b
 |two a b c=>exact .two a (f _ b) (f _ c)
 |pick a b c=>exact .pick (f _ a) (f _ b) (f _ c)
 |load a b=>exact .load a b
 |take a b c d=>exact .take a b (f _ c) (f _ d)
 |store a b c=>exact .store a b (f _ c)
 |put a b c d=>exact .put a b (f _ c) (f _ d)
theorem bM.hard{M:Int->Prop}{row:dF}(h:bM M row):row.hard=true:=by
 cases h<;>simp[dF.hard,UW]
@[simp] theorem zMA{i:Int}:JH (.int i)=some (.int (-i)):=(rfl)
theorem T7{ds:List dF}{k:Nat}(h:k<=ds.length):WG ds (some (k:Int)) none=ds.drop k:=by
 unfold WG;rw[HT.F3,HT.JU,Jz h,Cn (by simp)]
theorem RN{ds:List dF}{k:Nat}:WG ds none (some (k:Int))=ds.take k:=by
 unfold WG;rw[HT.F3,HT.JU];simp only[Mz,Nat.sub_zero];by_cases h:k<=ds.length
 ·rw[Jz h]
 ·rw[Nat.min_eq_right (by lia),Cn (by lia),Cn (by lia)]
@[simp] theorem zNA{d:dF}{ds:List dF}:WG (d::ds) (some 1) none=ds:=T7 (k:=1) (by simp)
@[simp] theorem zN9{d e:dF}{ds:List dF}:WG (d::e::ds) (some 2) none=ds:=T7 (k:=2) (by simp)
@[simp] theorem zKT{ds:List dF}:WG ds none (some 2)=ds.take 2:=RN (k:=2)
@[simp] theorem zKU{ds:List dF}:WG ds none (some 1)=ds.take 1:=RN (k:=1)
@[simp] theorem zL0{α:Type}{xs:List α}{x:α}:VQ (xs++[x]) (-1)=some x:=by
 unfold VQ ixN;rw[if_neg (by decide),if_pos (by simp;lia)];have e:(-1+((xs++[x]).length:Int)).toNat=xs.length:=by simp;lia
 show(xs++[x])[(-1+((xs++[x]).length:Int)).toNat]? =some x;rw[e];simp
@[simp] theorem zOV{α:Type}{x:α}{xs:List α}:VQ (x::xs) 0=some x:=by rw[WT (by decide) (by simp)];rfl
@[simp] theorem zOU{α:Type}{x y:α}{xs:List α}:VQ (x::y::xs) 1=some y:=by rw[WT (by decide) (by simp;lia)];rfl
@[simp] theorem zOT{α:Type}{x y z:α}{xs:List α}:VQ (x::y::z::xs) 2=some z:=by rw[WT (by decide) (by simp;lia)];rfl
theorem zJ5{k:Kd}{x:String}{t:List dF}(hx:x∉["store","put"]):RY k (.tup (.str x::t))=k:=by
 simp only[Ai,Ay,or_false,not_or] at hx;simp[RY,aD,hx]
theorem zJ4{k:Kd}{x:String}{t:List dF}(hx:x= "store" ∨x= "put"):RY k (.tup (.str x::t))= .n:=by
 rcases hx with rfl|rfl<;>simp[RY,aD]
theorem SF{M:Int->Prop}{row:dF}(h:bM M row): ∃(x:String) (t:List dF),row= .tup (.str x::t)/\x∉["wide","gather","shuffle"]:=by
 cases h with
 |two hx _ _=>
  simp only[Ai,Ay,or_false] at hx;rcases hx with rfl|rfl|rfl|rfl|rfl|rfl|rfl<;>exact⟨_,_,rfl,by decide⟩
 |_=>exact⟨_,_,rfl,by decide⟩
@[simp] theorem zHJ(n lo hi:Int):aM [.int n,.int lo,.int hi]=some (.bl (decide (lo<=n) && decide (n<=hi)),[]):=by
 unfold aM;rw[b9];unfold SX;simp[bS];by_cases h:lo<=n<;>simp[h]
theorem DT{x:String}(h:x∈["over","plus","minus","times","least","most","less"]):bD [.str x]=some (.tup [.str "row",.str "row"],[]):=by
 simp only[Ai,Ay,or_false] at h;rcases h with rfl|rfl|rfl|rfl|rfl|rfl|rfl<;>kernel_rfl
@[simp] theorem zKA:bD [.str "number"]=some (.tup [.str "word"],[]):=by kernel_rfl
@[simp] theorem zK9:bD [.str "pick"]=some (.tup [.str "row",.str "row",.str "row"],[]):=by kernel_rfl
@[simp] theorem zK8:bD [.str "load"]=some (.tup [.str "place"],[]):=by kernel_rfl
@[simp] theorem zK7:bD [.str "take"]=some (.tup [.str "place",.str "row",.str "row"],[]):=by kernel_rfl
@[simp] theorem zK6:bD [.str "store"]=some (.tup [.str "place",.str "row"],[]):=by kernel_rfl
@[simp] theorem zK5:bD [.str "put"]=some (.tup [.str "place",.str "row",.str "row"],[]):=by kernel_rfl
def Ab(able:List Bool)(a:Int):Prop:=0<=a/\able[a.toNat]? =some true
theorem zGM{able:List Bool}{a:Int}(h:Ab able a):YE [.int a,.lst (able.map .bl)]=some (.bl true,[]):=by
 have hlt:=(Ag.mp h.2).1;have h0:=h.1;have h1:a<=(able.length:Int) - 1:=by lia
 have h2:VQ (able.map dF.bl) a=some (.bl true):=by
  rw[WT h0 (by simp;lia)];simp[h.2]
 unfold YE;rw[b9];unfold TC;simp[bS,h0,h1,h2]
theorem ZD{able:List Bool}{a:Int}(h:Ab able a):WR [.str "row",.int a,.lst (able.map .bl)]=some (.bl true,[]):=by
 unfold WR;rw[b9];unfold NV;simp[bS,zGM h]
theorem DF{d:dF}{a:Int}(h:0<=a)(h':a<=999):WR [.str "word",.int a,d]=some (.bl true,[]):=by
 unfold WR;rw[b9];unfold NV;simp[bS,UQ,h,h']
theorem VV{d:dF}{a:Int}(h:0<=a)(h':a<=63):WR [.str "place",.int a,d]=some (.bl true,[]):=by
 unfold WR;rw[b9];unfold NV;simp[bS,VR,h,h']
@[simp] theorem zNB:M6 []=some []:=(rfl)
@[simp] theorem zNC{b:Bool}{ds:List dF}:M6 (.bl b::ds)=(M6 ds).map fun ks=>b::ks:=(rfl)
@[simp] theorem zKN{g:List Bool->Bool}{ds:List dF}:zA9 g (.lst ds)=(M6 ds).map fun ks=> .bl (g ks):=(rfl)
@[simp] theorem zK0{ds:List dF}:T3 ds []=[]:=by cases ds<;>rfl
@[simp] theorem zL7{d e:dF}{ds es:List dF}:T3 (d::ds) (e::es)= .tup [d,e]::T3 ds es:=(rfl)
theorem zAW{able:List Bool}{row:dF}(h:bM (Ab able) row):WC [row,.lst (able.map .bl)]=some (.bl true,[]):=by
 unfold WC;rw[b9];unfold NW;cases h with
 |number a b=>simp[bS,bX,DF a b]
 |two hx a b=>simp[bS,bX,DT hx,ZD a,ZD b]
 |pick a b c=>simp[bS,bX,ZD a,ZD b,ZD c]
 |load a b=>simp[bS,bX,VV a b]
 |take a b c d=>simp[bS,bX,VV a b,ZD c,ZD d]
 |store a b c=>simp[bS,bX,VV a b,ZD c]
 |put a b c d=>simp[bS,bX,VV a b,ZD c,ZD d]
theorem WF(nn:Nat)(fe:VF)(δ:Ev)(f:dF->dF)(hδ:δ.length=nn): ∀(ds acc:List dF),(∀d∈ds,fe (δ++[Sl.va d])=some (f d,δ++[Sl.va d]))->acc.length+ds.length<16777216->aS nn 1 (gN nn) XX fe ds acc δ=some (acc++ds.map f,δ)
 |[],acc,_,_=>by simp
 | d :: ds,acc,h,hl => by
  have de:(δ++[Sl.no]).set nn (.va d)=δ++[Sl.va d]:=by
   rw[Fs _ _ (by lia)];simp[hδ]
  have ay:(δ++[Sl.va d]).take nn=δ:=by rw[Dd (by lia),Cn (by lia)]
  have aw:acc.length<16777216:=by simp at hl;lia
  have ih:=WF nn fe δ f hδ ds (acc++[f d]) (fun e he=>h e (Ap _ he)) (by simp at hl⊢;lia);simp only[RL,zAB,K4,de,JP,zHF,AS,h d Au,AT,if_pos aw,ay,ih];simp
theorem A6(k:Nat):(Z8 0 k).length=k:=by simp[Z8]
theorem FU: ∀(ks:List bV) (ws:List dF) (k:bV) (d:dF),ks.length=ws.length->k∉ks->bB ks ws k d=(ks++[k],ws++[d])
 |[],[],k,d,_,_=>by simp[bB]
 |k'::ks,w::ws,k,d,hl,hn=>by
  have h1: ¬k'=k:=fun e=>hn (by rw[e];exact Au);have ih:=FU ks ws k d (by simpa using hl) fun h=>hn (Ap _ h);simp[bB,h1,ih]
theorem IT: ∀(ks:List bV) (ws:List dF) (i:Nat) (k:bV),ks.Nodup->ks.length=ws.length->ks[i]? =some k->cD ks ws k=ws[i]?
 |[],_,i,k,_,_,e=>by simp at e
 |k'::ks,[],i,k,_,hl,_=>by simp at hl
 |k'::ks,w::ws,0,k,_,_,e=>by simp at e;simp[cD,e]
 |k'::ks,w::ws,i+1,k,nd,hl,e=>by
  have e':ks[i]? =some k:=by simpa using e
  have hne: ¬k'=k:=fun z=>(Cq.mp nd).1 (by rw[z];exact Eh e');have:=IT ks ws i k (Cq.mp nd).2 (by simpa using hl) e';simp[cD,hne,this]
noncomputable def cnt:dF->Nat
 | .tup (.str x::_)=>if x= "number" ∨x= "load" then 0 else if x= "store" then 1 else if x= "pick" then 3 else 2
 |_=>0
theorem dne{x:String}(hx:x∈["over","plus","minus","times","least","most","less"]) {y:String} (hy:(["over","plus","minus","times","least","most","less"].contains y)=false):(¬x=y)/\¬y=x:=by
 have h: ¬x=y:=fun e=>by
  subst e;rw[List.contains_iff_mem.mpr hx] at hy;cases hy
 exact⟨h,fun e=>h e.symm⟩
theorem GY{M:Int->Prop}{row:dF}(h:bM M row): ∃as:List Int,(∀a∈as,M a)/\as.length=cnt row/\bU [row]=some (.lst (as.map .int),[])/\aN [row]=some (.lst (as.map .int),[]):=by
 cases h with
 | @number n _ _=>
  refine⟨[],(fun _ h=>nomatch h),by kernel_rfl,?_,?_⟩
  ·kernel_rfl
  ·kernel_rfl
 | @two x a b hx ha hb=>
  refine⟨[a,b],by simp[ha,hb],?_,?_,?_⟩
  ·simp only[Ai,Ay,or_false] at hx
   rcases hx with rfl|rfl|rfl|rfl|rfl|rfl|rfl<;>kernel_rfl
  ·simp only[Ai,Ay,or_false] at hx
   rcases hx with rfl|rfl|rfl|rfl|rfl|rfl|rfl<;>kernel_rfl
  ·simp only[Ai,Ay,or_false] at hx
   rcases hx with rfl|rfl|rfl|rfl|rfl|rfl|rfl<;>kernel_rfl
 | @pick c a b hc ha hb=>
  refine⟨[c,a,b],by simp[hc,ha,hb],by kernel_rfl,?_,?_⟩
  ·kernel_rfl
  ·kernel_rfl
 | @load p _ _=>
  refine⟨[],(fun _ h=>nomatch h),by kernel_rfl,?_,?_⟩
  ·kernel_rfl
  ·kernel_rfl
 | @take p c a _ _ hc ha=>
  refine⟨[c,a],by simp[hc,ha],by kernel_rfl,?_,?_⟩
  ·kernel_rfl
  ·kernel_rfl
 | @store p a _ _ ha=>
  refine⟨[a],by simp[ha],by kernel_rfl,?_,?_⟩
  ·kernel_rfl
  ·kernel_rfl
 | @put p a c _ _ ha hc=>
  refine⟨[a,c],by simp[ha,hc],by kernel_rfl,?_,?_⟩
  ·kernel_rfl
  ·kernel_rfl
inductive Bl:List Kd->List dF->List Kd->Prop
 |nil {kds:List Kd}:Bl kds [] kds
 |cons {kds aj:List Kd} {row:dF} {rows:List dF}:bM (Nm kds .w) row->Bl (kds++[RY .w row]) rows aj->Bl kds (row::rows) aj
theorem Bl.snoc{kds aj:List Kd}{rows:List dF}{row:dF}(h:Bl kds rows aj)(r:bM (Nm aj .w) row):Bl kds (rows++[row]) (aj++[RY .w row]):=by
 induction h with
 |nil=>exact .cons r .nil
 |cons a _ ih=>exact .cons a (ih r)
theorem Bl.len{kds aj:List Kd}{rows:List dF}(h:Bl kds rows aj):aj.length=kds.length+rows.length:=by
 induction h with
 |nil=>simp
 |cons _ _ ih=>simp only[ih,Cf,Bn,Ep];lia
theorem Bl.all{kds aj:List Kd}{rows:List dF}(h:Bl kds rows aj): ∀d∈rows,bM (Nm aj .w) d:=by
 induction h with
 |nil=>intro d hd;cases hd
 | @cons kds aj row rows a t ih=>
  intro d hd;rcases Ai.mp hd with rfl|hd
  ·refine a.imp fun x hx => ?_
   have: ∀{k k':List Kd} {rs:List dF},Bl k rs k'->Nm k .w x->Nm k' .w x:=by
    intro k k' rs h;induction h with
    |nil=>exact id
    |cons _ _ ih=>exact fun z=>ih z.snoc
   exact this t hx.snoc
  ·exact ih d hd
theorem QU: ∀ns:List Int,X7 (ns.map .int)=some ns
 |[]=>rfl
 |i::ns=>by
  show(X7 (ns.map .int)).map (fun ns=>i::ns)=_;rw[QU ns];rfl
theorem FN{n:Int}: ∀{ns:List Int},n∈ns-> ∃j:Nat,V5 n ns=some j/\j<ns.length
 | i :: ns,h => by
  unfold V5;by_cases e:i=n
  ·rw[if_pos e];exact⟨0,rfl,by simp⟩
  ·rw[if_neg e]
   obtain⟨j,h1,h2⟩:=FN (ns:=ns) (by
    rcases Ai.mp h with z|z
    ·exact absurd z.symm e
    ·exact z)
   exact⟨j+1,by rw[h1];rfl,by simp;lia⟩
noncomputable def CL(ns:List Int)(n:Nat)(rows:List dF)(made:List Int)(sn:dF)(ab:Int)(last:dF)(fi:Int)(bs:List Int)(s9 s10:Sl):Ev:=
 [.va (XW ns),.ow (YM n),.va (.lst rows),.va (.lst (made.map .int)),.ow sn,.va (.int ab),.va last,.va (.int fi),.ow (.lst (bs.map .int)),s9,s10]
theorem zGH(ns:List Int)(n:Nat)(rows:List dF)(made:List Int)(sn:dF)(ab:Int)(last:dF)(fi:Int)(bs:List Int)(a:Int)(s10:Sl)(hl:ns.length<=63)(hn:n<700000)(ha:a∈made)(hb:bs.length<100):
  ∃b∈made,∃fg,ZJ (CL ns n rows made sn ab last fi bs (.va (.int a)) s10)=some (.nx (CL ns (n+1) rows made sn ab last fi (bs++[b]) (.va (.int a)) fg)):=by
 obtain⟨j,hj,hj2⟩:=FN ha;obtain⟨x,hx,ex⟩:=V4 ns n [.int 1,.int 1,.int 1,.int 1,.int (-1),.int 0,.int 2] hl (by lia) (by simp);obtain⟨p,rfl⟩: ∃p,x= .int p:=by
  simp only[Ai,Ay,or_false] at hx;rcases hx with rfl|rfl|rfl|rfl|rfl|rfl|rfl<;>exact⟨_,rfl⟩
 have hi:G2 (.lst (made.map .int)) (.int a)=some (.int j):=by
  show(X7 (made.map .int)).bind (fun ns=>(V5 a ns).map fun j=>dF.int j)=_;rw[QU,Av,hj];rfl
 have hb':bs.length<16777216:=by lia
 by_cases h1:0<=(j:Int)+p/\(j:Int)+p<made.length
 ·obtain⟨q,hq,eq⟩:=PD (ns:=made) h1.1 h1.2
  by_cases h2:q=(rows.length:Int) - 1
  ·refine⟨a,ha,.va (.int (j+p)),?_⟩
   unfold ZJ;simp[CL,hi,ex,h1.1,h1.2,eq,h2,hb']
  ·refine⟨q,hq,.va (.int (j+p)),?_⟩
   unfold ZJ;simp[CL,hi,ex,h1.1,h1.2,eq,h2,hb']
 ·refine⟨a,ha,.va (.int (j+p)),?_⟩
  unfold ZJ;by_cases h3:0<=(j:Int)+p
  ·have h4 : ¬ (j : Int) + p < made.length := fun z => h1 ⟨h3,z⟩
   simp[CL,hi,ex,h3,h4,hb']
  ·simp[CL,hi,ex,h3,hb']
theorem G0(ns:List Int)(rows:List dF)(made:List Int)(sn:dF)(ab:Int)(last:dF)(fi:Int)(hl:ns.length<=63): ∀(as:List Int) (n:Nat) (bs:List Int) (s9 s10:Sl),n+as.length<700000->(∀a∈as,a∈made)->bs.length+as.length<100→
  ∃cs:List Int,(∀c∈cs,c∈made)/\cs.length=as.length/\ ∃s9' fg,XZ (gN 9) ZJ (as.map .int) (CL ns n rows made sn ab last fi bs s9 s10)=some (.nx (CL ns (n+as.length) rows made sn ab last fi (bs++cs) s9' fg))
 |[],n,bs,s9,s10,_,_,_=>⟨[],by simp,rfl,s9,s10,by simp⟩
 | a :: as,n,bs,s9,s10,hn,ha,hb => by
  simp only[Bn] at hn hb;obtain⟨b,hb1,u10,e⟩:=zGH ns n rows made sn ab last fi bs a s10 hl (by lia) (ha a Au) (by lia);obtain⟨cs,h1,h2,s9',fg,ih⟩:=G0 ns rows made sn ab last fi hl as (n+1) (bs++[b]) (.va (.int a)) u10 (by lia) (fun x hx=>ha x (Ap _ hx)) (by simp;lia);refine⟨b::cs,fun c hc=> ?_,by simp[h2],s9',fg,?_⟩
  ·rcases Ai.mp hc with rfl|hc
   ·exact hb1
   ·exact h1 c hc
  rw[Aq,US,K4,QG,show(CL ns n rows made sn ab last fi bs s9 s10).set 9 (.va (.int a))=CL ns n rows made sn ab last fi bs (.va (.int a)) s10 from rfl,e,QH,ih];simp[Ll,Nat.add_comm 1]
theorem cel4{x:String}(h:G6 x):(decide ("load"=x) || (decide ("take"=x) || (decide ("store"=x) || decide ("put"=x))))=true:=by
 rcases h with rfl|rfl|rfl|rfl<;>decide
theorem snM{m k:Nat}{d:dF}(h:Sn m d)(hk:m<=k):Sn k d:=by
 obtain⟨ks,vs,e,h1,h2,h3⟩:=h;exact⟨ks,vs,e,h1,h2,by lia⟩
theorem PH(ns:List Int)(n:Nat)(rows:List dF)(made:List Int)(sn:dF)(ab:Int){x:String}{p:Int}{as:List Int}{m:Nat}(hl:ns.length<=63)(hn:n<600000)(hm:m<8000000)(hs:Sn m sn)(hr:0<ab)(hx:G6 x)(au:VQ rows (-1)=some (.tup (.str x:: .int p::as.map .int)))(ha: ∀a∈as,a∈made)(h3:as.length<=3):
  ∃(q:Int) (cs:List Int) (sn':dF),0<=q/\q<ab/\(∀c∈cs,c∈made)/\cs.length=as.length/\Sn (m+1) sn'/\Z4 [XW ns,YM n,.lst rows,.lst (made.map .int),sn,.int ab]=some (.tup (.str x:: .int q::cs.map .int),[YM (n+as.length),sn']):=by
 obtain⟨cs,h1,h2,s9,s10,e⟩:=G0 ns rows made sn ab (.tup (.str x:: .int p::as.map .int)) 2 hl as n [] .no .no (by lia) ha (by simp;lia);simp only[CL,Dj,Dg] at e;obtain⟨ks,vs,rfl,k1,k2,k3⟩:=hs;obtain⟨ks',vs',pe,h4,h5,h6,h7,h8⟩:=putI ks vs (.inr (x:Str)) ((p+1) % ab) k1 k2;have hk:ks.length<16777216:=by lia
 refine⟨(p+1) % ab,cs,.dct ks' (vs'.map .int),Hx _ (by lia),Et _ hr,h1,h2,⟨ks',vs',rfl,h4,h5,by lia⟩,?_⟩;unfold Z4;rw[b9,VW.eq_1];have hin:=cel4 hx;have fw:WG (.str x:: .int p::as.map dF.int) (some 2) none=as.map dF.int:=by
  have:=T7 (ds:= .str x:: .int p::as.map dF.int) (k:=2) (by simp);simpa using this
 have hcl:2+cs.length<=16777216:=by lia
 simp[bS,au,hin,fw,e,hr,hk,k2,pe,h8,hcl]
theorem off4{x:String}(h: ¬G6 x):(¬x= "load" /\¬ "load"=x)/\(¬x= "take" /\¬ "take"=x)/\(¬x= "store" /\¬ "store"=x)/\¬x= "put" /\¬ "put"=x:=by refine⟨⟨fun z=>h (.inl z),fun z=>h (.inl z.symm)⟩,⟨fun z=>h (.inr (.inl z)),fun z=>h (.inr (.inl z.symm))⟩,⟨fun z=>h (.inr (.inr (.inl z))),fun z=>h (.inr (.inr (.inl z.symm)))⟩,fun z=>h (.inr (.inr (.inr z))),fun z=>h (.inr (.inr (.inr z.symm)))⟩
theorem JD(ns:List Int)(n:Nat)(rows:List dF)(made:List Int)(sn:dF)(ab:Int){x:String}{as:List Int}(hl:ns.length<=63)(hn:n<600000)(hx: ¬G6 x)(au:VQ rows (-1)=some (.tup (.str x::as.map .int)))(ha: ∀a∈as,a∈made)(h3:as.length<=3):
  ∃cs:List Int,(∀c∈cs,c∈made)/\cs.length=as.length/\Z4 [XW ns,YM n,.lst rows,.lst (made.map .int),sn,.int ab]=some (.tup (.str x::cs.map .int),[YM (n+as.length),sn]):=by
 obtain⟨cs,h1,h2,s9,s10,e⟩:=G0 ns rows made sn ab (.tup (.str x::as.map .int)) 1 hl as n [] .no .no (by lia) ha (by simp;lia);simp only[CL,Dj,Dg] at e;refine⟨cs,h1,h2,?_⟩;unfold Z4;rw[b9,VW.eq_1];obtain⟨⟨_,z1⟩,⟨_,z2⟩,⟨_,z3⟩,_,z4⟩:=off4 hx;have fw:WG (.str x::as.map dF.int) (some 1) none=as.map dF.int:=by
  have:=T7 (ds:= .str x::as.map dF.int) (k:=1) (by simp);simpa using this
 have l7:WG (.str x::as.map dF.int) none (some 1)=[.str x]:=by
  have:=RN (ds:= .str x::as.map dF.int) (k:=1);simpa using this
 have hcl:1+cs.length<=16777216:=by lia
 simp[bS,au,z1,z2,z3,z4,fw,l7,e,hcl]
theorem zCL(ns:List Int)(n:Nat)(rows:List dF)(made:List Int)(sn:dF)(ab:Int){last:dF}{m:Nat}(hl:ns.length<=63)(hn:n<600000)(hm:m<8000000)(hs:Sn m sn)(hr:0<ab)(hr2:ab<=64)(au:VQ rows (-1)=some last)(ok:bM (· ∈made) last)(nn: ∀k,last≠ .tup [.str "number",.int k]):
  ∃row n' sn',n<=n'/\n'<=n+3/\Sn (m+1) sn'/\bM (· ∈made) row/\Z4 [XW ns,YM n,.lst rows,.lst (made.map .int),sn,.int ab]=some (row,[YM n',sn']):=by
 cases ok with
 |number=>exact absurd rfl (nn _)
 | @two x a b hx ha hb=>
  obtain⟨cs,h1,h2,e⟩:=JD ns n rows made sn ab (x:=x) (as:=[a,b]) hl hn (F8 hx) au (by simp[ha,hb]) (by simp);match cs,h2 with
  |[c,d],_=>exact⟨_,n+2,sn,by lia,by lia,snM hs (by lia),.two hx (h1 c (by simp)) (h1 d (by simp)),e⟩
 | @pick c a b hc ha hb=>
  obtain⟨cs,h1,h2,e⟩:=JD ns n rows made sn ab (x:= "pick") (as:=[c,a,b]) hl hn (fun z=>by rcases z with z|z|z|z<;>exact absurd z (by decide)) au (by simp[ha,hb,hc]) (by simp);match cs,h2 with
  |[c,d,f],_=>exact⟨_,n+3,sn,by lia,by lia,snM hs (by lia),.pick (h1 c (by simp)) (h1 d (by simp)) (h1 f (by simp)),e⟩
 | @load p p0 p1=>
  obtain⟨q,cs,sn',q0,q1,h1,h2,hs',e⟩:=PH ns n rows made sn ab (x:= "load") (p:=p) (as:=[]) hl hn hm hs hr (.inl rfl) au (by simp) (by simp);match cs,h2 with
  |[],_=>exact⟨_,n+0,sn',by lia,by lia,hs',.load q0 (by lia),e⟩
 | @take p c a p0 p1 hc ha=>
  obtain⟨q,cs,sn',q0,q1,h1,h2,hs',e⟩:=PH ns n rows made sn ab (x:= "take") (p:=p) (as:=[c,a]) hl hn hm hs hr (.inr (.inl rfl)) au (by simp[hc,ha]) (by simp);match cs,h2 with
  |[c,d],_=>exact⟨_,n+2,sn',by lia,by lia,hs',.take q0 (by lia) (h1 c (by simp)) (h1 d (by simp)),e⟩
 | @store p a p0 p1 ha=>
  obtain⟨q,cs,sn',q0,q1,h1,h2,hs',e⟩:=PH ns n rows made sn ab (x:= "store") (p:=p) (as:=[a]) hl hn hm hs hr (.inr (.inr (.inl rfl))) au (by simp[ha]) (by simp);match cs,h2 with
  |[c],_=>exact⟨_,n+1,sn',by lia,by lia,hs',.store q0 (by lia) (h1 c (by simp)),e⟩
 | @put p a c p0 p1 ha hc=>
  obtain⟨q,cs,sn',q0,q1,h1,h2,hs',e⟩:=PH ns n rows made sn ab (x:= "put") (p:=p) (as:=[a,c]) hl hn hm hs hr (.inr (.inr (.inr rfl))) au (by simp[ha,hc]) (by simp);match cs,h2 with
  |[c,d],_=>exact⟨_,n+2,sn',by lia,by lia,hs',.put q0 (by lia) (h1 c (by simp)) (h1 d (by simp)),e⟩
structure RI(rows:List dF)(made:List Int)(kds:List Kd):Prop where
 bl:Bl [] rows kds
 ex: ∀a,a∈made↔Nm kds .w a
 ml:made.length<=rows.length
theorem RI.len{rows:List dF}{made:List Int}{kds:List Kd}(h:RI rows made kds):kds.length=rows.length:=by
 have:=h.bl.len;simpa using this
theorem zCK{kds:List Kd}{k:Kd}{a:Int}:Nm (kds++[k]) .w a↔Nm kds .w a∨(k= .w/\a=kds.length):=by
 constructor
 ·intro h
  have h0:=h.1;have hl:=h.lt;rw[Cf,Gx] at hl;by_cases hi:a.toNat<kds.length
  ·exact .inl ⟨h0,by have:=h.2;rwa[Am hi] at this⟩
  ·have hi : a.toNat = kds.length := by lia
   have e:=h.2;rw[hi] at e;simp at e;exact .inr ⟨e,by lia⟩
 ·rintro (h|⟨rfl,rfl⟩)
  ·exact h.snoc
  ·exact Nm.new
theorem RI.more{rows:List dF}{made:List Int}{kds:List Kd}{row:dF}(h:RI rows made kds)(r:bM (· ∈made) row):RI (rows++[row]) (if RY .w row= .w then made++[(rows.length:Int)] else made) (kds++[RY .w row]):=by
 refine⟨h.bl.snoc (r.imp fun a ha=>(h.ex a).mp ha),fun a=> ?_,?_⟩
 ·rw[zCK,<- h.ex a,h.len]
  split
  ·rename_i e
   simp[e]
  ·rename_i e
   simp[e]
 ·have:=h.ml
  split<;>simp<;>lia
theorem RI.last{rs:List dF}{last:dF}{made:List Int}{kds:List Kd}(h:RI (rs++[last]) made kds):bM (· ∈made) last:=(h.bl.all last (by simp)).imp fun a ha=>(h.ex a).mpr ha
noncomputable def P2(ns:List Int)(n:Nat)(ah ab:Int)(rows:List dF)(made:List Int)(sn:dF)(s7:Sl):Ev:=
 [.va (XW ns),.ow (YM n),.va (.int ah),.va (.int ab),.ow (.lst rows),.ow (.lst (made.map .int)),.ow sn,s7]
theorem L9: ∀vs:List Int,UW (vs.map .int)=true
 |[]=>rfl
 |_::vs=>by
  show((dF.int _).hard && UW (vs.map .int))=true;rw[L9 vs];rfl
theorem F4{m:Nat}{sn:dF}(h:Sn m sn):UX sn=true:=by
 obtain⟨ks,vs,rfl,_⟩:=h;exact L9 vs
theorem FA{row:dF}(x:String)(t:List dF)(e:row= .tup (.str x::t)):RY .w row= .w↔ ¬(x= "store" ∨x= "put"):=by
 subst e;by_cases h:x= "store" ∨x= "put"
 ·rw[zJ4 h];simp[h]
 ·have : x ∉ ["store","put"] := by simpa using h
  rw[zJ5 this];simp[h]
theorem zF0(ns:List Int)(n:Nat)(ah ab:Int){rows:List dF}{made:List Int}{kds:List Kd}{sn:dF}{m:Nat}(s7:Sl)(hl:ns.length<=63)(hn:n<600000)(hm:m<8000000)(hs:Sn m sn)(hr:0<ab)(hr2:ab<=64)(R:RI rows made kds)(h0:rows≠[])(af:rows.length<1000):
  ∃ag ar aj n' sn',RI ag ar aj/\rows.length<=ag.length/\((rows.length:Int)<=ah->(ag.length:Int)<=ah)/\ag.length<=rows.length+1/\n<=n'/\n'<=n+3/\Sn (m+1) sn'/\ZK (P2 ns n ah ab rows made sn s7)=some (.nx (P2 ns n' ah ab ag ar sn' s7)):=by
 obtain⟨rs,last,rfl⟩: ∃rs last,rows=rs++[last]:=⟨rows.dropLast,rows.getLast h0,(List.dropLast_concat_getLast h0).symm⟩;have ok:=R.last;have au:=RJ rs last;have hml:made.length<16777216:=by have:=R.ml;lia
 have hrl:(rs++[last]).length<16777216:=by lia
 generalize ng:rs++[last]=rows at*;obtain⟨x,t,e0,_⟩:=SF ok;by_cases h1:(rows.length:Int)<ah
 ·by_cases h2:x= "number"
  ·refine ⟨rows,made,kds,n,sn,R,Ah _,id,by lia,by lia,by lia,snM hs (by lia),?_⟩
   unfold ZK;simp[P2,h1,au,e0,h2]
  ·obtain ⟨row,n',sn',n0,n1,hs',okr,e⟩ := zCL ns n rows made sn ab hl hn hm hs hr hr2 au ok (fun k z => by rw [e0] at z;simp [aD] at z;exact h2 z.1)
   obtain⟨y,u,e1,_⟩:=SF okr;have hl2:=RJ rows row;refine⟨_,_,_,n',sn',R.more okr,by simp,by simp;lia,by simp,n0,n1,hs',?_⟩;unfold ZK;have key:=FA y u e1;have hrd:=okr.hard;rw[e1] at hrd;have hsn:=F4 hs';by_cases h3:y= "store" ∨y= "put"
   ·rw [if_neg (by rw [key];simp [h3])]
    rcases h3 with rfl|rfl
    ·simp[P2,h1,au,e0,h2,e,hl2,e1,hrl,hrd,hsn]
    ·simp[P2,h1,au,e0,h2,e,hl2,e1,hrl,hrd,hsn]
   ·rw [if_pos (by rw [key];exact h3)]
    have z1: ¬ "store"=y:=fun z=>h3 (.inl z.symm);have z2: ¬ "put"=y:=fun z=>h3 (.inr z.symm);simp[P2,h1,au,e0,h2,e,hl2,e1,hrl,hrd,hsn,z1,z2,hml]
 ·refine ⟨rows,made,kds,n,sn,R,Ah _,id,by lia,by lia,by lia,snM hs (by lia),?_⟩
  unfold ZK;simp[P2,h1]
theorem A7(ns:List Int)(ah ab:Int)(hl:ns.length<=63)(hr:0<ab)(hr2:ab<=64): ∀(ds:List dF) (n:Nat) {rows:List dF} {made:List Int} {kds:List Kd} {sn:dF} {m:Nat} (s7:Sl),n+3*ds.length<600000->m+ds.length<8000000->Sn m sn->RI rows made kds->rows≠[]->rows.length+ds.length<1000→
  ∃ag ar aj n' sn' s7',RI ag ar aj/\rows.length<=ag.length/\((rows.length:Int)<=ah->(ag.length:Int)<=ah)/\n<=n'/\n'<=n+3*ds.length/\Sn (m+ds.length) sn'/\XZ (gN 7) ZK ds (P2 ns n ah ab rows made sn s7)=some (.nx (P2 ns n' ah ab ag ar sn' s7'))
 |[],n,rows,made,kds,sn,m,s7,_,_,hs,R,_,_=>⟨rows,made,kds,n,sn,s7,R,Ah _,id,by lia,by simp,hs,by simp⟩
 |d::ds,n,rows,made,kds,sn,m,s7,hn,hm,hs,R,h0,hz=>by
  simp only[Bn] at hn hm hz;obtain⟨j9,kn,m6,n1,sn1,R1,a1,a2,a3,a4,a5,hs1,e1⟩:=zF0 ns n ah ab (.va d) hl (by lia) (by lia) hs hr hr2 R h0 (by lia);obtain⟨ag,ar,aj,n',sn',s7',R',b1,b2,b3,b4,hs',e⟩:=A7 ns ah ab hl hr hr2 ds n1 (.va d) (by lia) (by lia) hs1 R1 (fun z=>by rw[z] at a1;simp at a1;exact h0 a1) (by lia);refine⟨ag,ar,aj,n',sn',s7',R',by lia,fun z=>b2 (a2 z),by lia,by simp only[Bn];lia,snM hs' (by simp only[Bn];lia),?_⟩;rw[US,K4,QG,show(P2 ns n ah ab rows made sn s7).set 7 (.va d)=P2 ns n ah ab rows made sn (.va d) from rfl,e1,QH,e]
theorem zEZ(ns:List Int)(n:Nat)(ah ab:Int){rows:List dF}{made:List Int}{kds:List Kd}{sn:dF}(s7:Sl)(hl:ns.length<=63)(hn:n<500000)(hs:NJ n sn)(hr:0<ab)(hr2:ab<=64)(R:RI rows made kds)(hlt:(rows.length:Int)<ah)(h40:ah<=40):
  ∃ag ar aj n' sn' s7',RI ag ar aj/\rows.length<ag.length/\(ag.length:Int)<=ah/\n<=n'/\n'<=n+20/\NJ n' sn'/\XS (P2 ns n ah ab rows made sn s7)=some (.nx (P2 ns n' ah ab ag ar sn' s7')):=by
 obtain⟨row,n1,sn1,c1,c2,hs1,okr,_,e⟩:=zF1 ns n made sn ab hl (by lia) hs hr hr2;obtain⟨x,hx,ex⟩:=V4 ns n1 [.int 0,.int 1,.int 1,.int 2,.int 3] hl (by lia) (by simp);obtain⟨k,rfl,k0,k3⟩: ∃k:Nat,x= .int k/\0<=k/\k<=3:=by
  simp only[Ai,Ay,or_false] at hx;rcases hx with rfl|rfl|rfl|rfl|rfl
  ·exact⟨0,rfl,by lia,by lia⟩
  ·exact⟨1,rfl,by lia,by lia⟩
  ·exact⟨1,rfl,by lia,by lia⟩
  ·exact⟨2,rfl,by lia,by lia⟩
  ·exact⟨3,rfl,by lia,by lia⟩
 have R1:=R.more okr;have hrl:rows.length<16777216:=by lia
 have hml:made.length<16777216:=by have:=R.ml;lia
 have hdl:(Z8 0 k).length=k:=A6 k;obtain⟨ag,ar,aj,n',sn',s7',R',b1,b2,b3,b4,hs',ef⟩:=A7 ns ah ab hl hr hr2 (Z8 0 k) (n1+1) s7 (by lia) (by lia) hs1 R1 (by simp) (by simp;lia);refine⟨ag,ar,aj,n',sn',s7',R',by simp at b1;lia,b2 (by simp;lia),by lia,by lia,snM hs' (by lia),?_⟩;obtain⟨y,u,e1,_⟩:=SF okr;have hl2:=RJ rows row;have key:=FA y u e1;have hrd:=okr.hard;rw[e1] at hrd;have hsn:=F4 hs1;have hk1:(-4611686018427387904:Int)<=k/\(k:Int)<4611686018427387904:=by lia
 unfold XS;by_cases h3:y= "store" ∨y= "put"
 ·rw [if_neg (by rw [key];simp [h3])] at ef
  simp only[P2] at ef;rw[e1] at ef;rcases h3 with rfl|rfl
  ·simp[P2,e,hl2,e1,hrl,hrd,hsn,ex,hk1,ef]
  ·simp[P2,e,hl2,e1,hrl,hrd,hsn,ex,hk1,ef]
 ·rw [if_pos (by rw [key];exact h3)] at ef
  simp only[P2,Gc,Aq,Dg] at ef;rw[e1] at ef;have z1: ¬ "store"=y:=fun z=>h3 (.inl z.symm);have z2: ¬ "put"=y:=fun z=>h3 (.inr z.symm);simp[P2,e,hl2,e1,hrl,hrd,hsn,ex,hk1,z1,z2,hml,ef]
theorem J9{t:VB}{g:VS}{k:Nat}{δ δ1 δ2:Ev}(h:t δ=some (true,δ1))(h2:g δ1=some (.nx δ2)):bG t g (k+1) δ=bG t g k δ2:=by
 show((t δ).bind fun p=>if p.1=true then(g p.2).bind (again (bG t g k)) else some (.nx p.2))=_;rw[h,Av];show(if true=true then(g δ1).bind (again (bG t g k)) else _)=_;rw[if_pos rfl,h2];rfl
theorem OW{t:VB}{g:VS}{k:Nat}{δ δ1:Ev}(h:t δ=some (false,δ1)):bG t g (k+1) δ=some (.nx δ1):=by
 show((t δ).bind fun p=>if p.1=true then(g p.2).bind (again (bG t g k)) else some (.nx p.2))=_;rw[h];rfl
theorem A8(ns:List Int)(ah ab:Int)(hl:ns.length<=63)(hr:0<ab)(hr2:ab<=64)(h40:ah<=40): ∀(f:Nat) (n:Nat) {rows:List dF} {made:List Int} {kds:List Kd} {sn:dF} (s7:Sl),ah - rows.length<=f->(rows.length:Int)<=ah->n+20*f<500000->NJ n sn->RI rows made kds→
  ∃ag ar aj n' sn' s7',RI ag ar aj/\(ag.length:Int)=ah/\n<=n'/\n'<=n+20*f/\bG (fB (f2 oLt (f1 aF (fO 4)) (fV 2))) XS (f+1) (P2 ns n ah ab rows made sn s7)=some (.nx (P2 ns n' ah ab ag ar sn' s7'))
 |0,n,rows,made,kds,sn,s7,h1,h2,hn,hs,R=>by
  refine⟨rows,made,kds,n,sn,s7,R,by lia,by lia,by lia,OW ?_⟩;have: ¬(rows.length:Int)<ah:=by lia
  simp[P2,this]
 | f + 1,n,rows,made,kds,sn,s7,h1,h2,hn,hs,R => by
  by_cases hlt:(rows.length:Int)<ah
  ·obtain ⟨j9,kn,m6,n1,sn1,u7,R1,a1,a2,a3,a4,hs1,e1⟩ := zEZ ns n ah ab s7 hl (by lia) hs hr hr2 R hlt h40
   obtain⟨ag,ar,aj,n',sn',s7',R',b1,b2,b3,e⟩:=A8 ns ah ab hl hr hr2 h40 f n1 u7 (by lia) a2 (by lia) hs1 R1;refine⟨ag,ar,aj,n',sn',s7',R',b1,by lia,by lia,?_⟩;rw[J9 (δ1:=P2 ns n ah ab rows made sn s7) (by simp[P2,hlt]) e1,e]
  ·refine ⟨rows,made,kds,n,sn,s7,R,by lia,by lia,by lia,OW ?_⟩
   simp[P2,hlt]
theorem zBU(ns:List Int)(n:Nat)(ah ab:Int)(hl:ns.length<=63)(hn:n<400000)(hr:0<ab)(hr2:ab<=64)(h0:0<=ah)(h40:ah<=40):
  ∃rows kds n',Bl [] rows kds/\(rows.length:Int)=ah/\n<=n'/\n'<=n+20*40/\YD [XW ns,YM n,.int ah,.int ab]=some (.tup rows,[YM n']):=by
 obtain⟨rows,made,kds,n',sn,s7,R,a1,a2,a3,e⟩:=A8 ns ah ab hl hr hr2 h40 ah.toNat n (rows:=[]) (made:=[]) (kds:=[]) (sn:= .dct [] []) .no (by simp;lia) (by simpa using h0) (by lia) ⟨[],[],rfl,rfl,List.nodup_nil,Di _⟩ ⟨.nil,fun a=>by simp[Nm],by simp⟩;refine⟨rows,kds,n',R.bl,a1,a2,by lia,?_⟩;have e:=MP e;simp only[P2,Dg] at e;unfold YD;rw[b9,S9.eq_1];simp[bS,e]
theorem zJK{f g:VF}{δ δ1 δ2:Ev}{i j:Int}(h1:f δ=some (.int i,δ1))(h2:g δ1=some (.int j,δ2))(hb:(-4611686018427387904<=i/\i<4611686018427387904)/\ -4611686018427387904<=j/\j<4611686018427387904):iR2 f g δ=some (Z8 i (j - i).toNat,δ2):=by
 unfold iR2;rw[h1,Av,h2,Av];exact if_pos hb
theorem VU(nn:Nat)(tb:VB)(p:dF->Bool)(fe:VF)(f:dF->dF)(δ:Ev)(hδ:δ.length=nn): ∀(ds acc:List dF),(∀d∈ds,tb (δ++[Sl.va d])=some (p d,δ++[Sl.va d])/\(p d=true->fe (δ++[Sl.va d])=some (f d,δ++[Sl.va d])))->acc.length+ds.length<16777216->aS nn 1 (gN nn) tb fe ds acc δ=some (acc++(ds.filter p).map f,δ)
 |[],acc,_,_=>by simp
 | d :: ds,acc,h,hl => by
  have de:(δ++[Sl.no]).set nn (.va d)=δ++[Sl.va d]:=by
   rw[Fs _ _ (by lia)];simp[hδ]
  have ay:(δ++[Sl.va d]).take nn=δ:=by rw[Dd (by lia),Cn (by lia)]
  have aw:acc.length<16777216:=by simp at hl;lia
  obtain⟨h1,h2⟩:=h d Au;cases hp:p d with
  |true=>
   have ih:=VU nn tb p fe f δ hδ ds (acc++[f d]) (fun e he=>h e (Ap _ he)) (by simp at hl⊢;lia);have h2:=h2 hp;rw[hp] at h1;simp only[RL,zAB,K4,de,JP,h1,AS,h2,AT,if_pos aw,ay,ih];simp[hp]
  |false=>
   have ih:=VU nn tb p fe f δ hδ ds acc (fun e he=>h e (Ap _ he)) (by simp at hl⊢;lia);rw[hp] at h1;simp only[RL,zAB,K4,de,JP,h1,zDK,ay,ih];simp[hp]
theorem bM.ints{M:Int->Prop}{row:dF}(h:bM M row): ∃(x:String) (a:Int) (as:List Int),row= .tup (.str x:: .int a::as.map .int)/\(x= "over" -> ∃b,as=[b]/\M b):=by
 cases h with
 | @number n _ _=>exact⟨"number",n,[],rfl,fun z=>absurd z (by decide)⟩
 | @two x a b hx ha hb=>exact⟨x,a,[b],rfl,fun _=>⟨b,rfl,hb⟩⟩
 | @pick c a b _ _ _=>exact⟨"pick",c,[a,b],rfl,fun z=>absurd z (by decide)⟩
 | @load p _ _=>exact⟨"load",p,[],rfl,fun z=>absurd z (by decide)⟩
 | @take p c a _ _ _ _=>exact⟨"take",p,[c,a],rfl,fun z=>absurd z (by decide)⟩
 | @store p a _ _ _=>exact⟨"store",p,[a],rfl,fun z=>absurd z (by decide)⟩
 | @put p a c _ _ _ _=>exact⟨"put",p,[a,c],rfl,fun z=>absurd z (by decide)⟩
theorem ZE{k:Nat}: ∀as:List Int,∀d∈as.map dF.int,U2 k d
 |[],d,h=>nomatch h
 |a::as,d,h=>by
  rcases Ai.mp h with rfl|h
  ·exact ZY
  ·exact ZE as d h
theorem LI{M:Int->Prop}{row:dF}(h:bM M row):U2 1 row:=by
 obtain⟨x,a,as,rfl,_⟩:=h.ints;exact V3 (bH ZB (bH ZY (ZE as)))
theorem DX{x:String}(h: ¬G6 x){t:List dF}:ZO [.tup (.str x::t)]=some (.non,[]):=by
 obtain⟨⟨_,z1⟩,⟨_,z2⟩,⟨_,z3⟩,_,z4⟩:=off4 h;unfold ZO;rw[b9];unfold VZ;simp[bS,T6,Z1,z1,z2,z3,z4]
theorem AI{x:String}(h:G6 x){d:dF}{t:List dF}:ZO [.tup (.str x::d::t)]=some (d,[]):=by
 unfold ZO;rw[b9];unfold VZ;rcases h with rfl|rfl|rfl|rfl<;>simp[bS,T6,Z1]
theorem zBT{x:String}{a:Int}{t:List dF}:aP [.tup (.str x:: .int a::t)]=some (.bl (decide (x= "number") && !decide (a=0)),[]):=by
 unfold aP;rw[b9];unfold YH;by_cases h:x= "number"
 ·subst h
  simp[bS]
 ·simp[bS,h]
theorem D2(lo:Int)(n:Nat):Z8 lo (n+1)= .int lo::Z8 (lo+1) n:=by
 unfold Z8;rw[Gk];simp only[Aq,Fp];refine congr (congrArg List.cons (by simp)) (Fb fun k _=> ?_);simp only[Lk];congr 1;push_cast
 lia
theorem zAA{x:String}{a:Int}: ∀(n:Nat) (l:Int),N3 (.tup [.str x,.int a]) ((Z8 l n).map fun d=> .tup [.str "number",d])=(decide (x= "number") && decide (l<=a/\a<l+n))
 |0,l=>by
  have: ¬(l<=a/\a<l+(0:Nat)):=by lia
  simp[Z8,this]
 | n + 1,l => by
  rw[D2,Aq,EZ,zAA n (l+1)];by_cases hx:x= "number"
  ·subst hx
   simp only[zB5,zH3,zB7,zB4,decide_true,Ln,Bool.and_true];rw[<- Bool.decide_or];exact decide_eq_decide.mpr (by push_cast;lia)
  ·simp[hx,Dr hx]
noncomputable def onB(x:Str):Bool:=decide (At "load"=x) || (decide (At "take"=x) || (decide (At "store"=x) || decide (At "put"=x)))
theorem zIQ{x:String}(h:G6 x):onB (At x)=true:=by
 have:=cel4 h;simpa[onB,aD] using this
theorem zDP{x:String}(h: ¬G6 x):onB (At x)=false:=by
 obtain⟨⟨_,z1⟩,⟨_,z2⟩,⟨_,z3⟩,_,z4⟩:=off4 h;simp[onB,aD,z1,z2,z3,z4]
noncomputable def sfT:dF->Bool
 | .tup (.str x:: .int a::_)=>decide (x=At "number") && !decide (a=0)
 |_=>false
noncomputable def PV(sure:Int)(rows:List dF):dF->Bool
 | .tup (.str x:: .int a::t)=>if onB x=true then decide (sure<=a) else if x=At "over" then(match t with
  |[.int b]=> !sfT ((VQ rows b).getD .non)
  |_=>false) else false
 |_=>false
theorem N8{sure:Int}{rows:List dF}{kds:List Kd}(hb:Bl [] rows kds){i:Int}(h0:0<=i)(h1:i<rows.length){row:dF}(e0:VQ rows i=some row):aJ [.tup [.int sure,.tup rows],.int i]=some (.bl (PV sure rows row),[])/\Y1 [.tup [.int sure,.tup rows],.int i]=some (.bl (PV sure rows row),[]):=by
 have af:kds.length=rows.length:=by simpa using hb.len
 have fo:row∈rows:=by rw[WT h0 h1] at e0;exact Eh e0
 have ok:=hb.all row fo;obtain⟨x,a,as,rfl,hov⟩:=ok.ints;unfold aJ Y1;rw[b9,b9];unfold QS UT;by_cases hx:G6 x
 ·have m1:=cel4 hx
  have hp:=AI hx (d:= .int a) (t:=as.map .int);have ho: ¬x= "over":=fun z=>by subst z;exact absurd hx (by unfold G6;decide)
  have hc:PV sure rows (.tup (.str x:: .int a::as.map .int))=decide (sure<=a):=if_pos (zIQ hx);rw[hc];exact⟨by simp[bS,e0,m1],by simp[bS,e0,hp,ho]⟩
 ·have hp:=DX hx (t:= .int a::as.map .int)
  obtain⟨⟨_,z1⟩,⟨_,z2⟩,⟨_,z3⟩,_,z4⟩:=off4 hx;by_cases ho:x= "over"
  ·obtain⟨b,rfl,hbn⟩:=hov ho
   subst ho;have b0:=hbn.1;have b1:=hbn.lt;obtain⟨jc,hr2,e2⟩: ∃row∈rows,VQ rows b=some row:=by
    have hi:b.toNat<rows.length:=by lia
    exact⟨rows[b.toNat],Gi hi,by rw[WT b0 (by lia)];simp[hi]⟩
   obtain⟨x2,a2,as2,e3,mh⟩: ∃(x:String) (a:Int) (as:List Int),jc= .tup (.str x:: .int a::as.map .int)/\(x= "number" ->0<=a/\a<1000):=by
    cases hb.all jc hr2 with
    | @number n n0 n1=>exact⟨"number",n,[],rfl,fun _=>by lia⟩
    | @two x a b hx ha hb=>exact⟨x,a,[b],rfl,fun z=>by subst z;simp at hx⟩
    | @pick c a b _ _ _=>exact⟨"pick",c,[a,b],rfl,fun z=>absurd z (by decide)⟩
    | @load p _ _=>exact⟨"load",p,[],rfl,fun z=>absurd z (by decide)⟩
    | @take p c a _ _ _ _=>exact⟨"take",p,[c,a],rfl,fun z=>absurd z (by decide)⟩
    | @store p a _ _ _=>exact⟨"store",p,[a],rfl,fun z=>absurd z (by decide)⟩
    | @put p a c _ _ _ _=>exact⟨"put",p,[a,c],rfl,fun z=>absurd z (by decide)⟩
   subst e3;have fw:WG (.str x2:: .int a2::as2.map dF.int) none (some 2)=[.str x2,.int a2]:=by
    have:=RN (ds:= .str x2:: .int a2::as2.map dF.int) (k:=2);simpa using this
   have ei: ∀δ,iR2 (fC (.int 1)) (fC (.int 1000)) δ=some (Z8 1 ((1000:Int) - 1).toNat,δ):=fun δ=>zJK (f:=fC (.int 1)) (g:=fC (.int 1000)) (δ:=δ) (δ1:=δ) (δ2:=δ) (i:=1) (j:=1000) rfl rfl (by lia);have ec:=WF 0 (Z3 (c9 (fC (.str "number")) (c9 (fV 0) cF))) [] (fun d=> .tup [.str "number",d]) rfl (Z8 1 ((1000:Int) - 1).toNat) [] (fun d _=>by simp) (by simp[Z8]);have hbb:bJ true (.tup [.str x2,.int a2]) (.lst ((Z8 1 ((1000:Int) - 1).toNat).map fun d=> .tup [.str "number",d]))=some (.bl (!(decide (x2= "number") && !decide (a2=0)))):=by
    rw[QZ (j:=1) (k:=1) (V3 (bH ZB (bH ZY ZZ))) (fun e he=>by
     obtain⟨d,hd,rfl⟩:=Bx.mp he;obtain⟨q,rfl⟩: ∃q,d= .int q:=by
      unfold Z8 at hd;obtain⟨q,_,rfl⟩:=Bx.mp hd;exact⟨_,rfl⟩
     exact V3 (bH ZB (bH ZY ZZ))),zAA,if_pos rfl]
    congr 3;by_cases hx:x2= "number"
    ·have:=mh hx
     simp only[hx,decide_true,Ln,<- decide_not];exact decide_eq_decide.mpr (by lia)
    ·simp[hx]
   simp only[Dj] at ec;generalize (Z8 1 ((1000:Int) - 1).toNat).map (fun d=>dF.tup [.str "number",d])=big at*;generalize Z8 1 ((1000:Int) - 1).toNat=rg at*;have hc:PV sure rows (.tup (.str "over":: .int a::[b].map .int))= !(decide (x2= "number") && !decide (a2=0)):=by
    show(if onB (At "over")=true then decide (sure<=a) else if At "over"=At "over" then !sfT ((VQ rows b).getD .non) else false)=_;rw[zDP hx,if_neg (by decide),if_pos rfl,e2];show(!(decide (At x2=At "number") && !decide (a2=0)))=_;rw[show decide (At x2=At "number")=decide (x2= "number") by simp[aD]]
   rw[hc];have e3:=zBT (x:=x2) (a:=a2) (t:=as2.map .int);generalize (decide (x2= "number") && !decide (a2=0))=bb at*;refine⟨by simp -implicitDefEqProofs [bS,e0,e2,fw,bX,ei,ec,hbb],?_⟩;cases bb<;>simp[bS,e0,e2,e3]
  ·have hc:PV sure rows (.tup (.str x:: .int a::as.map .int))=false:=by
    show(if onB (At x)=true then decide (sure<=a) else if At x=At "over" then _ else false)=_;rw[zDP hx,if_neg (by decide),if_neg (by rw[aD];exact ho)]
   rw[hc];exact⟨by simp[bS,e0,z1,z2,z3,z4,ho],by simp[bS,e0,hp,ho]⟩
theorem zAH{sure:Int}{rows:List dF}{kds:List Kd}(hb:Bl [] rows kds){i:Int}(h0:0<=i)(h1:i<rows.length): ∃b,aJ [.tup [.int sure,.tup rows],.int i]=some (.bl b,[]):=
 ⟨_,(N8 (sure:=sure) hb h0 h1 (row:=rows[i.toNat]'(by lia)) (by rw[WT h0 h1];simp)).1⟩
noncomputable def aI(p:Int×Int):dF:= .tup [.int p.1,.int p.2]
noncomputable def NM:dF:= .tup [.str "load",.str "take",.str "store",.str "put"]
noncomputable def QX(blk:dF)(ps:List (Int×Int))(j:Int)(there:Sl)(s5 s6 s7 s8:Sl):Ev:=
 [.va blk,.ow (.lst (ps.map aI)),.va NM,.va (.int j),there,s5,s6,s7,s8]
theorem zJV{bs:List Bool}:bJ false (.bl true) (.lst (bs.map .bl))=some (.bl (bs.any id)):=by
 rw[QZ (j:=0) (k:=0) zA5 (fun e he=>by
  obtain⟨b,_,rfl⟩:=Bx.mp he;exact zA5)]
 induction bs with
 |nil=>rfl
 |cons b bs ih=>
  have e:HU (.bl b) (.bl true)=b:=by cases b<;>rfl
  simp only[Aq,EZ,Jg,id,e];simp only[Fn,if_false,Option.some.injEq,dF.bl.injEq] at ih⊢;rw[ih]
theorem E1{i:Int}: ∀{as:List Int},i∈as->N3 (.int i) (as.map .int)=true
 |q::as,h=>by
  simp only[Aq,EZ];rcases Ai.mp h with rfl|h
  ·simp
  ·simp[E1 h]
noncomputable def GC:dF->Bool
 | .tup (.str x::_)=>decide (At "store"=x) || decide (At "put"=x)
 |_=>false
theorem OQ{s1 s2:VS}{δ δ1:Ev}{r:Option Ou}(h1:s1 δ=some (.nx δ1))(h2:s2 δ1=r):cK s1 s2 δ=r:=by rw[BA,h1,qS_n,h2]
theorem zGI{sure:Int}{rows:List dF}{kds:List Kd}(hb:Bl [] rows kds)(ps:List (Int×Int)){i j:Int}{here there:dF}(i0:0<=i)(i1:i<rows.length)(j0:0<=j)(j1:j<rows.length)(hh:here∈rows)(ht:there∈rows){as:List Int}(hn:bU [there]=some (.lst (as.map .int),[]))(s7 s8:Sl)(hp:ps.length<1000000):
  ∃(c:Bool) (t7 t8:Sl),(i∈as->c=true)/\XQ (QX (.tup [.int sure,.tup rows]) ps j (.va there) (.va (.int i)) (.va here) s7 s8)=some (.nx (QX (.tup [.int sure,.tup rows]) (ps++if c then[(i,j)] else[]) j (.va there) (.va (.int i)) (.va here) t7 t8)):=by
 obtain⟨b1,e1⟩:=zAH (sure:=sure) hb i0 i1;obtain⟨b2,e2⟩:=zAH (sure:=sure) hb j0 j1;have okh:=hb.all here hh;have okt:=hb.all there ht;have kh:=LI okh;have kt:=LI okt;obtain⟨x,a,xs,eh,_⟩:=okh.ints;obtain⟨y,b,ys,et,_⟩:=okt.ints;have hin:bJ false (.int i) (.lst (as.map .int))=some (.bl (N3 (.int i) (as.map .int))):=by
  rw[QZ (j:=0) (k:=0) ZY (ZE as)];simp
 have mn:=E1 (i:=i) (as:=as);generalize N3 (.int i) (as.map .int)=bi at*;have ew: ∃w:List dF,aS 0 1 (gN 0) (fB (f2 (bJ false) (f2 cN (fV 0) (fC (.int 0))) (Z3 (c9 (fC (.str "store")) (c9 (fC (.str "put")) cF))))) (fV 0) [here,there] [] []=some (w,[])/\ ∀d∈w,U2 1 d:=by
  have c:=VU 0 (fB (f2 (bJ false) (f2 cN (fV 0) (fC (.int 0))) (Z3 (c9 (fC (.str "store")) (c9 (fC (.str "put")) cF))))) GC (fV 0) id [] rfl [here,there] [] (fun d hd=>by
   simp only[Ai,Ay,or_false] at hd;rcases hd with rfl|rfl
   ·rw[eh];simp[GC,aD]
   ·rw[et];simp[GC,aD]) (by simp)
  refine⟨_,c,fun d hd=> ?_⟩;simp only[Dj,List.map_id_fun,id,Fw,Ai,Ay,or_false] at hd;rcases hd.1 with rfl|rfl
  ·exact kh
  ·exact kt
 obtain⟨w,ew,kw⟩:=ew;have hne:P0 (.lst w) (.lst [])=some (.bl (!HU (.lst w) (.lst []))):=JG (j:=2) (k:=0+1) (Z5 kw) (Z5 ZZ);generalize (!HU (.lst w) (.lst []))=bw at*;have hp':ps.length<16777216:=by lia
 have x4: ∃bx,bJ false (.str x) NM=some (.bl bx):=⟨_,zDX⟩;have y4: ∃by',bJ false (.str y) NM=some (.bl by'):=⟨_,zDX⟩;have x2: ∃bx,bJ false (.str x) (.tup [.str "store",.str "put"])=some (.bl bx):=⟨_,E2⟩;have y2: ∃by',bJ false (.str y) (.tup [.str "store",.str "put"])=some (.bl by'):=⟨_,E2⟩;obtain⟨bx,x4⟩:=x4;obtain⟨by',y4⟩:=y4;obtain⟨wx,x2⟩:=x2;obtain⟨wy,y2⟩:=y2;subst eh et;have hbl:=zJV (bs:=[bi,b1 && b2,bx && (by' && (decide (a=b) && bw)),b1 && wy,b2 && wx]);simp only[Aq,Dg] at hbl;refine⟨[bi,b1 && b2,bx && (by' && (decide (a=b) && bw)),b1 && wy,b2 && wx].any id,.va (.lst w),.ow (.lst [.bl bi,.bl (b1 && b2),.bl (bx && (by' && (decide (a=b) && bw))),.bl (b1 && wy),.bl (b2 && wx)]),?_,?_⟩
 ·intro hi
  rw[mn hi];rfl
 ·unfold XQ
  refine OQ (δ1:=QX (.tup [.int sure,.tup rows]) ps j (.va (.tup (.str y:: .int b::ys.map .int))) (.va (.int i)) (.va (.tup (.str x:: .int a::xs.map .int))) (.va (.lst w)) s8) (by simp[QX,bX,ew]) ?_;refine OQ (δ1:=QX (.tup [.int sure,.tup rows]) ps j (.va (.tup (.str y:: .int b::ys.map .int))) (.va (.int i)) (.va (.tup (.str x:: .int a::xs.map .int))) (.va (.lst w)) (.ow (.lst [.bl bi,.bl (b1 && b2)]))) ?_ ?_
  ·clear hbl
   cases b1<;>simp[QX,hn,hin,e1,e2]
  refine OQ (δ1:=QX (.tup [.int sure,.tup rows]) ps j (.va (.tup (.str y:: .int b::ys.map .int))) (.va (.int i)) (.va (.tup (.str x:: .int a::xs.map .int))) (.va (.lst w)) (.ow (.lst [.bl bi,.bl (b1 && b2),.bl (bx && (by' && (decide (a=b) && bw)))]))) ?_ ?_
  ·clear hbl
   cases bx<;>cases by'<;>by_cases hab:a=b<;>simp[QX,x4,y4,hne,hab]
  refine OQ (δ1:=QX (.tup [.int sure,.tup rows]) ps j (.va (.tup (.str y:: .int b::ys.map .int))) (.va (.int i)) (.va (.tup (.str x:: .int a::xs.map .int))) (.va (.lst w)) (.ow (.lst [.bl bi,.bl (b1 && b2),.bl (bx && (by' && (decide (a=b) && bw))),.bl (b1 && wy)]))) ?_ ?_
  ·clear hbl
   generalize (bx && (by' && (decide (a=b) && bw)))=q3;cases b1<;>simp[-E2,QX,e1,y2]
  refine OQ (δ1:=QX (.tup [.int sure,.tup rows]) ps j (.va (.tup (.str y:: .int b::ys.map .int))) (.va (.int i)) (.va (.tup (.str x:: .int a::xs.map .int))) (.va (.lst w)) (.ow (.lst [.bl bi,.bl (b1 && b2),.bl (bx && (by' && (decide (a=b) && bw))),.bl (b1 && wy),.bl (b2 && wx)]))) ?_ ?_
  ·clear hbl
   generalize (bx && (by' && (decide (a=b) && bw)))=q3;cases b2<;>simp[-E2,QX,e2,x2]
  generalize (bx && (by' && (decide (a=b) && bw)))=q3 at*;generalize hq1:(b1 && b2)=q1 at*;generalize hq4:(b1 && wy)=q4 at*;generalize hq5:(b2 && wx)=q5 at*;generalize hc:[bi,q1,q3,q4,q5].any id=c at*;cases c
  ·simp[QX,hbl]
  ·simp[QX,hbl,hp',aI]
theorem T9(i:Nat)(d:dF)(ds:List dF):YX i (d::ds)= .tup [.int i,d]::YX (i+1) ds:=rfl
noncomputable abbrev GP(a b:Nat):VG:=NB 2 (b7 (gN a) (b7 (gN b) YS))
theorem zAG{sure:Int}{rows:List dF}{kds:List Kd}(hb:Bl [] rows kds){j:Int}{there:dF}(j0:0<=j)(j1:j<rows.length)(ht:there∈rows){as:List Int}(hn:bU [there]=some (.lst (as.map .int),[])): ∀(hs:List dF) (k:Nat) (ps:List (Int×Int)) (s5 s6 s7 s8:Sl),(∀d∈hs,d∈rows)->k+hs.length<=rows.length->ps.length+hs.length<1000000→
  ∃(qs:List (Int×Int)) (t5 t6 t7 t8:Sl),(∀p∈qs,p.2=j/\(k:Int)<=p.1/\p.1<k+hs.length)/\(∀i∈as,(k:Int)<=i->i<k+hs.length->(i,j)∈qs)/\qs.length<=hs.length∧
   XZ (GP 5 6) XQ (YX k hs) (QX (.tup [.int sure,.tup rows]) ps j (.va there) s5 s6 s7 s8)=some (.nx (QX (.tup [.int sure,.tup rows]) (ps++qs) j (.va there) t5 t6 t7 t8))
 |[],k,ps,s5,s6,s7,s8,_,_,_=>⟨[],s5,s6,s7,s8,by simp,fun i _ h1 h2=>by simp at h2;lia,by simp,by simp[YX]⟩
 | h :: hs,k,ps,s5,s6,s7,s8,hm,hk,hp => by
  simp only[Bn] at hk hp;obtain⟨c,t7,t8,c1,e⟩:=zGI (sure:=sure) hb ps (i:=(k:Int)) (j:=j) (here:=h) (there:=there) (by lia) (by lia) j0 j1 (hm h Au) ht hn s7 s8 (by lia);obtain⟨qs,u5,u6,u7,u8,q1,q2,q3,ih⟩:=zAG hb j0 j1 ht hn hs (k+1) (ps++if c then[((k:Int),j)] else[]) (.va (.int k)) (.va h) t7 t8 (fun d hd=>hm d (Ap _ hd)) (by lia) (by cases c<;>simp<;>lia);refine⟨(if c then[((k:Int),j)] else[])++qs,u5,u6,u7,u8,?_,?_,?_,?_⟩
  ·intro p hp
   simp only[Bn];rcases Bk.mp hp with z|z
   ·cases c
    ·simp at z
    ·simp at z;subst z;exact⟨rfl,by simp,by simp;lia⟩
   ·obtain⟨z1,z2,z3⟩:=q1 p z
    exact⟨z1,by lia,by lia⟩
  ·intro i hi h1 h2
   simp only[Bn] at h2;by_cases h3:i=k
   ·subst h3
    rw[c1 hi];simp
   ·exact Bk.mpr (.inr (q2 i hi (by lia) (by lia)))
  ·cases c<;>simp<;>lia
  ·rw[T9,US]
   have s1:GP 5 6 (.tup [.int k,h]) (QX (.tup [.int sure,.tup rows]) ps j (.va there) s5 s6 s7 s8)=some (QX (.tup [.int sure,.tup rows]) ps j (.va there) (.va (.int k)) (.va h) s7 s8):=by simp[QX]
   rw[s1,QG,e,QH,ih,Ba]
structure Prs(rows:List dF)(ps:List (Int×Int)):Prop where
 lt: ∀p∈ps,0<=p.1/\p.1<p.2/\p.2<rows.length
 nm: ∀(j:Nat) (row:dF) (as:List Int),rows[j]? =some row->bU [row]=some (.lst (as.map .int),[])-> ∀i∈as,0<=i->i<j->(i,(j:Int))∈ps
theorem zAX{as bs:List Int}(h:as.map dF.int=bs.map dF.int):as=bs:=by
 induction as generalizing bs with
 |nil=>cases bs with
  |nil=>rfl
  |cons=>simp at h
 | cons a as ih => cases bs with
  |nil=>simp at h
  |cons b bs=>
   simp only[Aq,Hw,dF.int.injEq] at h;rw[h.1,ih h.2]
theorem zAF{sure:Int}{rows:List dF}{kds:List Kd}(hb:Bl [] rows kds)(h40:rows.length<=40): ∀(ts:List dF) (k:Nat) (ps:List (Int×Int)) (s3:Int) (s4 s5 s6 s7 s8:Sl) (x3:Sl),rows.drop k=ts->k+ts.length=rows.length->ps.length+40*ts.length<10000→
  ∃(qs:List (Int×Int)) (t3 t4 t5 t6 t7 t8:Sl),(∀p∈qs,0<=p.1/\p.1<p.2/\p.2<rows.length)/\(∀(j:Nat) (row:dF) (as:List Int),k<=j->rows[j]? =some row->bU [row]=some (.lst (as.map .int),[])-> ∀i∈as,0<=i->i<j->(i,(j:Int))∈qs)/\qs.length<=40*ts.length∧
   XZ (GP 3 4) XR (YX k ts) [.va (.tup [.int sure,.tup rows]),.ow (.lst (ps.map aI)),.va NM,x3,s4,s5,s6,s7,s8]=some (.nx [.va (.tup [.int sure,.tup rows]),.ow (.lst ((ps++qs).map aI)),.va NM,t3,t4,t5,t6,t7,t8])
 |[],k,ps,s3,s4,s5,s6,s7,s8,x3,h1,h2,_=>by
  refine⟨[],x3,s4,s5,s6,s7,s8,by simp,fun j row as h3 h4=> ?_,by simp,by simp[YX]⟩;have:=(Ag.mp h4).1;simp at h2;lia
 | t :: ts,k,ps,s3,s4,s5,s6,s7,s8,x3,h1,h2,hp => by
  simp only[Bn] at h2 hp;have ht:t∈rows:=Mu (by rw[h1];exact Au);have hk:rows[k]? =some t:=by
   have:(rows.drop k)[0]? =some t:=by rw[h1];rfl
   simpa using this
  obtain⟨as,_,_,hn,_⟩:=GY (hb.all t ht);have af:(rows.take k).length=k:=by rw[Bu];lia
  obtain⟨qs1,t5,t6,t7,t8,q1,q2,q3,e⟩:=zAG (sure:=sure) hb (j:=(k:Int)) (by lia) (by lia) ht hn (rows.take k) 0 ps s5 s6 s7 s8 (fun d hd=>Mv hd) (by lia) (by lia);obtain⟨qs2,u3,u4,u5,u6,u7,u8,r1,r2,r3,ih⟩:=zAF hb h40 ts (k+1) (ps++qs1) 0 (.va t) t5 t6 t7 t8 (.va (.int k)) (by rw[<- Qx,h1];rfl) (by lia) (by simp;lia);refine⟨qs1++qs2,u3,u4,u5,u6,u7,u8,?_,?_,?_,?_⟩
  ·intro p hp
   rcases Bk.mp hp with z|z
   ·obtain⟨z1,z2,z3⟩:=q1 p z
    rw[af] at z3;exact⟨by lia,by lia,by lia⟩
   ·exact r1 p z
  ·intro j row bs hj hr hbs i hi i0 i1
   by_cases hjk:j=k
   ·subst hjk
    rw[hk] at hr;injection hr with hr;subst hr;rw[hn] at hbs;have:as=bs:=zAX (by simpa using hbs);subst this;exact Bk.mpr (.inl (q2 i hi (by lia) (by rw[af];lia)))
   ·exact Bk.mpr (.inr (r2 j row bs (by lia) hr hbs i hi i0 i1))
  ·simp only[Cf,Bn];lia
  ·rw[T9,US]
   have s1:GP 3 4 (.tup [.int k,t]) [.va (.tup [.int sure,.tup rows]),.ow (.lst (ps.map aI)),.va NM,x3,s4,s5,s6,s7,s8]=some (QX (.tup [.int sure,.tup rows]) ps k (.va t) s5 s6 s7 s8):=by simp[QX]
   have s2:XR (QX (.tup [.int sure,.tup rows]) ps k (.va t) s5 s6 s7 s8)=some (.nx (QX (.tup [.int sure,.tup rows]) (ps++qs1) k (.va t) t5 t6 t7 t8)):=by
    unfold XR;have hc:=RN (ds:=rows) (k:=k);rw[zEX];have:RS (EV (f2 cN (fV 0) (fC (.int 1))) CM (FM (fV 3))) (QX (.tup [.int sure,.tup rows]) ps k (.va t) s5 s6 s7 s8)=some (YX 0 (rows.take k),QX (.tup [.int sure,.tup rows]) ps k (.va t) s5 s6 s7 s8):=by simp[QX,hc]
    rw[this,qF_s];exact e
   rw[s1,QG,s2,QH];simp only[QX];rw[ih,Ba]
theorem FO: ∀ps:List (Int×Int),LD (ps.map aI)=some ps
 |[]=>rfl
 |p::ps=>by
  show(prD (aI p)).bind (fun q=>(LD (ps.map aI)).map fun qs=>q::qs)=_;rw[FO ps];rfl
theorem BH(ps:List (Int×Int)): ∃qs:List (Int×Int),qs.Perm ps/\G5 (.lst (ps.map aI))=some (.lst (qs.map aI)):=by
 refine⟨(JZ ps).map fun i=>ps.getD i (0,0),?_,?_⟩
 ·have h := (UL ps).map fun i => ps.getD i (0,0)
  refine h.trans ?_;have:(Az ps.length).map (fun i=>ps.getD i (0,0))=ps:=by
   refine Pw (by simp) fun i h1 h2=> ?_;simp at h1;simp[h1]
  rw[this]
 ·show (LD (ps.map aI)).bind (fun qs => some (dF.lst ((JZ qs).map fun i => (ps.map aI).getD i dF.non))) = _
  rw[FO,Av,Fp];congr 2;refine Fb fun i hi=> ?_;have:i<ps.length:=Dm.mp ((UL ps).mem_iff.mp hi);simp[this]
theorem zCP{sure:Int}{rows:List dF}{kds:List Kd}(hb:Bl [] rows kds)(h40:rows.length<=40): ∃ps:List (Int×Int),Prs rows ps/\ps.length<=1600/\YC [.tup [.int sure,.tup rows]]=some (.lst (ps.map aI),[]):=by
 obtain⟨qs,t3,t4,t5,t6,t7,t8,q1,q2,q3,e⟩:=zAF (sure:=sure) hb h40 rows 0 [] 0 .no .no .no .no .no .no (by simp) (by simp) (by simp;lia);simp only[Dg,Dj,NM] at e;obtain⟨ps,hp,es⟩:=BH qs;refine⟨ps,⟨fun p h=>q1 p (hp.mem_iff.mp h),fun j row as h1 h2 i hi i0 i1=>hp.mem_iff.mpr (q2 j row as (by lia) h1 h2 i hi i0 i1)⟩,by rw[hp.length_eq];lia,?_⟩;unfold YC;rw[b9,SZ.eq_1];simp[bS,e,es]
theorem RM(nn:Nat)(tb:VB)(p:dF->Bool)(fe:VF)(f:dF->dF)(δ:Ev)(hδ:δ.length=nn): ∀(ds acc:List dF),(∀d∈ds,∃a b,d= .tup [a,b]/\tb (δ++[Sl.va a,Sl.va b])=some (p d,δ++[Sl.va a,Sl.va b])/\(p d=true->fe (δ++[Sl.va a,Sl.va b])=some (f d,δ++[Sl.va a,Sl.va b])))->acc.length+ds.length<16777216->aS nn 2 (GP nn (nn+1)) tb fe ds acc δ=some (acc++(ds.filter p).map f,δ)
 |[],acc,_,_=>by simp
 | d :: ds,acc,h,hl => by
  obtain⟨a,b,rfl,h1,h2⟩:=h d Au;have de:GP nn (nn+1) (.tup [a,b]) (δ++[Sl.no,Sl.no])=some (δ++[Sl.va a,Sl.va b]):=by
   have e1:(δ++[Sl.no,Sl.no]).set nn (.va a)=δ++[Sl.va a,Sl.no]:=by
    rw[Fs _ _ (by lia)];simp[hδ]
   have e2:(δ++[Sl.va a,Sl.no]).set (nn+1) (.va b)=δ++[Sl.va a,Sl.va b]:=by
    rw[Fs _ _ (by lia),hδ,show nn+1 - nn=1 by lia];rfl
   simp[e1,e2]
  have ay:(δ++[Sl.va a,Sl.va b]).take nn=δ:=by rw[Dd (by lia),Cn (by lia)]
  have aw:acc.length<16777216:=by simp at hl;lia
  cases hp:p (.tup [a,b]) with
  |true=>
   have ih:=RM nn tb p fe f δ hδ ds (acc++[f (.tup [a,b])]) (fun e he=>h e (Ap _ he)) (by simp at hl⊢;lia);have h2:=h2 hp;rw[hp] at h1;simp only[RL,zDS,de,JP,h1,AS,h2,AT,if_pos aw,ay,ih];simp[hp]
  |false=>
   have ih:=RM nn tb p fe f δ hδ ds acc (fun e he=>h e (Ap _ he)) (by simp at hl⊢;lia);rw[hp] at h1;simp only[RL,zDS,de,JP,h1,zDK,ay,ih];simp[hp]
noncomputable def ost(ns:List Int)(n:Nat)(blk:dF)(ps:List (Int×Int))(left made:List Int)(s6:Sl):Ev:=
 [.va (XW ns),.ow (YM n),.va blk,.va (.lst (ps.map aI)),.ow (.lst (left.map .int)),.ow (.lst (made.map .int)),s6]
noncomputable def pw(left:List Int)(r:Int):dF->Bool
 | .tup [.int a,.int b]=>decide (b=r) && N3 (.int a) (left.map .int)
 |_=>false
theorem RT{i:Int}: ∀{as:List Int},N3 (.int i) (as.map .int)=true↔i∈as
 |[]=>by simp
 |a::as=>by
  rw[Aq,EZ,Hv,zB7,decide_eq_true_eq,RT (as:=as),Ai];exact⟨fun h=>h.imp Eq.symm id,fun h=>h.imp Eq.symm id⟩
theorem zBF(ps:List (Int×Int))(left:List Int)(r:Int)(hp:ps.length<16777216):
  aS 2 2 (GP 2 3) (NL (fB (f2 W9 (fV 3) (fV 1))) (fB (f2 (bJ false) (fV 2) (fO 0)))) (fC (.int 1)) (ps.map aI) [] [.ow (.lst (left.map .int)),.va (.int r)]=some (((ps.map aI).filter (pw left r)).map fun _=> .int 1,[.ow (.lst (left.map .int)),.va (.int r)]):=by
 have hin: ∀a:Int,bJ false (.int a) (.lst (left.map .int))=some (.bl (N3 (.int a) (left.map .int))):=fun a=>by
  rw[QZ (j:=0) (k:=0) ZY (ZE left)];simp
 have:=RM 2 (NL (fB (f2 W9 (fV 3) (fV 1))) (fB (f2 (bJ false) (fV 2) (fO 0)))) (pw left r) (fC (.int 1)) (fun _=> .int 1) [.ow (.lst (left.map .int)),.va (.int r)] rfl (ps.map aI) [] (fun d hd=>by
  obtain⟨⟨a,b⟩,_,rfl⟩:=Bx.mp hd;refine⟨.int a,.int b,rfl,?_,fun _=>by simp⟩;have hi:=hin a;have hpw:pw left r (aI (a,b))=(decide (b=r) && N3 (.int a) (left.map .int)):=rfl;rw[hpw];generalize left.map dF.int=L at*;by_cases hb:b=r
  ·simp[hb,hi]
  ·simp[hb]) (by simpa using hp)
 simpa using this
theorem K0{ds:List dF}:HU (.lst ds) (.lst [])=ds.isEmpty:=by cases ds<;>rfl
noncomputable def rdD(ps:List (Int×Int))(left:List Int):dF->Bool
 | .int r=>((ps.map aI).filter (pw left r)).isEmpty
 |_=>false
theorem OH{x:Int}: ∀{ns:List Int},x∈ns-> ∃j,V5 x ns=some j/\ns.eraseIdx j=ns.erase x
 | i :: ns,h => by
  unfold V5;by_cases e:i=x
  ·rw[if_pos e];exact⟨0,rfl,by simp[e]⟩
  ·rw[if_neg e]
   obtain⟨j,h1,h2⟩:=OH (ns:=ns) (by
    rcases Ai.mp h with z|z
    ·exact absurd z.symm e
    ·exact z)
   refine⟨j+1,by rw[h1];rfl,?_⟩;rw[List.eraseIdx_cons_succ,h2,List.erase_cons_tail (by simpa using e)]
theorem zCR{x:Int}{ns:List Int}(h:x∈ns):mRem (ns.map .int) [.int x]=some ((ns.erase x).map .int):=by
 obtain⟨j,h1,h2⟩:=OH h;show(X7 (ns.map .int)).bind (fun ns=>(V5 x ns).map fun j=>(ns.eraseIdx j).map dF.int)=_;rw[QU,Av,h1,Ka,h2]
theorem FZ{ps:List (Int×Int)}{left:List Int}{r:Int}:rdD ps left (.int r)=true↔ ∀p∈ps,p.2=r->p.1∉left:=by
 show((ps.map aI).filter (pw left r)).isEmpty=true↔_;rw[Lr,Ic];constructor
 ·intro h p hp he hl
  have:=h (aI p) (Bx.mpr ⟨p,hp,rfl⟩);refine this ?_;show(decide (p.2=r) && N3 (.int p.1) (left.map .int))=true;rw[RT.mpr hl,he];simp
 ·intro h d hd z
  obtain⟨p,hp,rfl⟩:=Bx.mp hd;have z:(decide (p.2=r) && N3 (.int p.1) (left.map .int))=true:=z;rw[Ae,decide_eq_true_eq,RT] at z;exact h p hp z.1 z.2
theorem A1(ps:List (Int×Int))(left:List Int)(hp:ps.length<16777216)(hll:left.length<16777216):
  aS 2 1 (gN 2) (fB (f2 W9 (aL [1,2] 2 (XA (fV 0)) (NB 2 (b7 (gN 2) (b7 (gN 3) YS))) (NL (fB (f2 W9 (fV 3) (fV 1))) (fB (f2 (bJ false) (fV 2) (fO 0)))) (fC (.int 1))) (YY cF))) (fV 2) (left.map .int) [] [.va (.lst (ps.map aI)),.ow (.lst (left.map .int))]=some ((left.filter fun r=>rdD ps left (.int r)).map .int,[.va (.lst (ps.map aI)),.ow (.lst (left.map .int))]):=by
 have:=VU 2 (fB (f2 W9 (aL [1,2] 2 (XA (fV 0)) (NB 2 (b7 (gN 2) (b7 (gN 3) YS))) (NL (fB (f2 W9 (fV 3) (fV 1))) (fB (f2 (bJ false) (fV 2) (fO 0)))) (fC (.int 1))) (YY cF))) (rdD ps left) (fV 2) id [.va (.lst (ps.map aI)),.ow (.lst (left.map .int))] rfl (left.map .int) [] (fun d hd=>by
  obtain⟨r,_,rfl⟩:=Bx.mp hd;refine⟨?_,fun _=>by simp⟩;have w:=zBF ps left r hp;have hq:W9 (.lst (((ps.map aI).filter (pw left r)).map fun _=>dF.int 1)) (.lst [])=some (.bl (rdD ps left (.int r))):=by
   rw[zDR (j:=1) (k:=1) (Z5 fun d hd=>by
    obtain⟨_,_,rfl⟩:=Bx.mp hd;exact ZY) (Z5 ZZ),K0,List.isEmpty_map]
   rfl
  generalize ((ps.map aI).filter (pw left r)).map (fun _=>dF.int 1)=W at*;generalize rdD ps left (.int r)=B at*;generalize left.map dF.int=L at*;generalize ps.map aI=Q at*;simp[bX,w,hq]) (by simpa using hll)
 rw[this,List.filter_map];simp[Function.comp_def]
theorem zCF(ns:List Int)(n:Nat)(blk:dF)(ps:List (Int×Int))(left made:List Int)(s6:Sl)(hl:ns.length<=63)(hn:n<800000)(hne:left≠[])(hs:left.Pairwise (· < ·))(hlt: ∀p∈ps,p.1<p.2)(hll:left.length<1000)(hml:made.length<1000)(hpl:ps.length<10000):
  ∃x∈left,(∀p∈ps,p.2=x->p.1∉left)/\ ∃s6',aC (ost ns n blk ps left made s6)=some (.nx (ost ns (n+1) blk ps (left.erase x) (made++[x]) s6')):=by
 have hr:=A1 ps left (by lia) (by lia);have h0:0<((left.filter fun r=>rdD ps left (.int r)).map dF.int).length:=by
  match left,hne,hs with
  |a::t,_,hs=>
   have:a∈((a::t).filter fun r=>rdD ps (a::t) (.int r)):=by
    refine Fw.mpr ⟨Au,FZ.mpr fun p hp he hi=> ?_⟩;have h1:=hlt p hp;rw[he] at h1;rcases Ai.mp hi with z|z
    ·lia
    ·have:=(Gs.mp hs).1 _ z
     lia
   rw[Bt];exact List.length_pos_of_mem this
 obtain⟨d,hd,ed⟩:=V4 ns n ((left.filter fun r=>rdD ps left (.int r)).map .int) hl (by lia) h0;obtain⟨x,hx,rfl⟩:=Bx.mp hd;obtain⟨hx1,hx2⟩:=Fw.mp hx;have hm:=zCR hx1;have hla:=RJ (made.map dF.int) (.int x);have mj:made.length<16777216:=by lia
 refine⟨x,hx1,FZ.mp hx2,.va (.lst ((left.filter fun r=>rdD ps left (.int r)).map .int)),?_⟩;unfold aC;simp only[ost,Gc,Aq,Dg];generalize (left.filter fun r=>rdD ps left (.int r)).map dF.int=R at*;generalize (left.erase x).map dF.int=E at*;generalize left.map dF.int=L at*;generalize ps.map aI=Q at*;have mi:(made.map dF.int).length<16777216:=by simpa using mj
 generalize made.map dF.int=D at*;simp[bX,hr,ed,hm,hla,mi]
theorem FL(ns:List Int)(blk:dF)(ps:List (Int×Int))(hl:ns.length<=63)(hlt: ∀p∈ps,p.1<p.2)(hpl:ps.length<10000): ∀(f n:Nat) (left made:List Int) (s6:Sl),left.length=f->n+f<700000->left.Pairwise (· < ·)->made.length+left.length<1000->(∀p∈ps,p.1∈made∨p.1∈left)->(∀p∈ps,∀k:Nat,made[k]? =some p.2->p.1∈made.take k)→
  ∃(order:List Int) (s6':Sl),order.Perm (made++left)/\(∀p∈ps,∀k:Nat,order[k]? =some p.2->p.1∈order.take k)/\bG (fB (f2 P0 (fO 4) (YY cF))) aC (f+1) (ost ns n blk ps left made s6)=some (.nx (ost ns (n+f) blk ps [] order s6'))
 | 0,n,left,made,s6,hf,hn,hs,hm,h1,h2 => by
  have:left=[]:=Gg.mp hf;subst this;refine⟨made,s6,by simp,h2,OW ?_⟩;have e:P0 (.lst []) (.lst [])=some (.bl false):=by
   rw[JG (j:=1) (k:=1) (Z5 ZZ) (Z5 ZZ),K0];rfl
  simp[ost,e]
 | f + 1,n,left,made,s6,hf,hn,hs,hm,h1,h2 => by
  have hne:left≠[]:=fun z=>by rw[z] at hf;simp at hf
  obtain⟨x,hx,hp,u6,e1⟩:=zCF ns n blk ps left made s6 hl (by lia) hne hs hlt (by lia) (by lia) hpl;have hle:=List.length_erase_of_mem hx;obtain⟨order,s6',o1,o2,e2⟩:=FL ns blk ps hl hlt hpl f (n+1) (left.erase x) (made++[x]) u6 (by lia) (by lia) (hs.sublist (List.erase_sublist)) (by simp;lia) (fun p hp'=>by
   rcases h1 p hp' with z|z
   ·exact .inl (Bk.mpr (.inl z))
   ·by_cases hxx:p.1=x
    ·exact .inl (by simp[hxx])
    ·exact .inr ((List.mem_erase_of_ne hxx).mpr z)) (fun p hp' k hk=>by
   by_cases hkl:k<made.length
   ·rw[Am hkl] at hk
    rw[Dd (by lia)];exact h2 p hp' k hk
   ·have gu:=(Ag.mp hk).1
    simp at gu;have:k=made.length:=by lia
    subst this;simp at hk;have hnl:=hp p hp' hk.symm;rw[Ra];exact(h1 p hp').resolve_right hnl)
  refine⟨order,s6',?_,o2,?_⟩
  ·refine o1.trans ?_
   rw[Ba,Mp];exact(List.perm_cons_erase hx).symm.append_left made
  ·have e:P0 (.lst (left.map .int)) (.lst [])=some (.bl true):=by
    rw[JG (j:=1) (k:=1) (Z5 (ZE left)) (Z5 ZZ),K0];cases left with
    |nil=>exact absurd rfl hne
    |cons=>rfl
   rw[J9 (δ1:=ost ns n blk ps left made s6) (by simp[ost,e]) e1,e2,show n+1+f=n+(f+1) by lia]
theorem L8{f:VF}{δ δ1:Ev}{j:Int}(h:f δ=some (.int j,δ1))(h0:0<=j)(h1:j<=16777216):W5 f δ=some (.lst (Z8 0 j.toNat),δ1):=by
 unfold W5;rw[h,Av];exact if_pos ⟨h0,h1⟩
noncomputable def WB(k:Nat):List Int:=(Az k).map fun i:Nat=>(i:Int)
theorem UJ(k:Nat):Z8 0 k=(WB k).map .int:=by simp[Z8,WB]
theorem PJ{k:Nat}{a:Int}:a∈WB k↔0<=a/\a<k:=by
 unfold WB;rw[Bx];constructor
 ·rintro ⟨i,hi,rfl⟩
  have:=Dm.mp hi;lia
 ·rintro ⟨h0,h1⟩
  exact⟨a.toNat,Dm.mpr (by lia),by lia⟩
theorem Q3(k:Nat):(WB k).Pairwise (· < ·):=Iq _ (fun a b h=>by lia) (List.pairwise_lt_range)
theorem YA(k:Nat):(WB k).length=k:=by simp[WB]
theorem zA2(ns:List Int)(n:Nat){sure:Int}{rows:List dF}{kds:List Kd}(hl:ns.length<=63)(hn:n<500000)(hb:Bl [] rows kds)(h40:rows.length<=40):
  ∃(ps:List (Int×Int)) (order:List Int),Prs rows ps/\order.Perm (WB rows.length)/\(∀p∈ps,∀k:Nat,order[k]? =some p.2->p.1∈order.take k)/\aY [XW ns,YM n,.tup [.int sure,.tup rows]]=some (.lst (order.map .int),[YM (n+rows.length)]):=by
 obtain⟨ps,P,hpl,em⟩:=zCP (sure:=sure) hb h40;obtain⟨order,s6,o1,o2,e⟩:=FL ns (.tup [.int sure,.tup rows]) ps hl (fun p hp=>(P.lt p hp).2.1) (by lia) rows.length n (WB rows.length) [] .no (YA _) (by lia) (Q3 _) (by simp[YA];lia) (fun p hp=> .inr (PJ.mpr ⟨(P.lt p hp).1,by have:=P.lt p hp;lia⟩)) (fun p hp k hk=>by simp at hk);refine⟨ps,order,P,by simpa using o1,o2,?_⟩;have e:=MP e;simp only[ost,Dg] at e;have er:W5 (f1 aF (f2 cN (fV 2) (fC (.int 1)))) [.va (XW ns),.ow (YM n),.va (.tup [.int sure,.tup rows]),.no,.no,.no,.no]=some (.lst ((WB rows.length).map .int),[.va (XW ns),.ow (YM n),.va (.tup [.int sure,.tup rows]),.no,.no,.no,.no]):=by
  rw[<- UJ,L8 (j:=(rows.length:Int)) (δ1:=[.va (XW ns),.ow (YM n),.va (.tup [.int sure,.tup rows]),.no,.no,.no,.no]) (by simp) (by lia) (by lia)];simp
 unfold aY;rw[b9,YR.eq_1];generalize (WB rows.length).map dF.int=L at*;generalize order.map dF.int=O at*;generalize ps.map aI=Q at*;simp[bS,em,er,e]
theorem bM.strong{M:Int->Prop}{row:dF}(h:bM M row): ∃as:List Int,(∀a∈as,M a)/\bM (· ∈as) row/\bU [row]=some (.lst (as.map .int),[]):=by
 cases h with
 | @number n h0 h1=>exact⟨[],(fun _ h=>nomatch h),.number h0 h1,by kernel_rfl⟩
 | @two x a b hx ha hb=>
  refine⟨[a,b],by simp[ha,hb],.two hx (by simp) (by simp),?_⟩;simp only[Ai,Ay,or_false] at hx;rcases hx with rfl|rfl|rfl|rfl|rfl|rfl|rfl<;>kernel_rfl
 | @pick c a b hc ha hb=>exact⟨[c,a,b],by simp[hc,ha,hb],.pick (by simp) (by simp) (by simp),by kernel_rfl⟩
 | @load p h0 h1=>exact⟨[],(fun _ h=>nomatch h),.load h0 h1,by kernel_rfl⟩
 | @take p c a h0 h1 hc ha=>exact⟨[c,a],by simp[hc,ha],.take h0 h1 (by simp) (by simp),by kernel_rfl⟩
 | @store p a h0 h1 ha=>exact⟨[a],by simp[ha],.store h0 h1 (by simp),by kernel_rfl⟩
 | @put p a c h0 h1 ha hc=>exact⟨[a,c],by simp[ha,hc],.put h0 h1 (by simp) (by simp),by kernel_rfl⟩
inductive CW(μ:Int->Int):dF->dF->Prop
 |number {n:Int}:CW μ (.tup [.str "number",.int n]) (.tup [.str "number",.int n])
 |two {x:String} {a b:Int}:x∈["over","plus","minus","times","least","most","less"]->CW μ (.tup [.str x,.int a,.int b]) (.tup [.str x,.int (μ a),.int (μ b)])
 |pick {c a b:Int}:CW μ (.tup [.str "pick",.int c,.int a,.int b]) (.tup [.str "pick",.int (μ c),.int (μ a),.int (μ b)])
 |load {p:Int}:CW μ (.tup [.str "load",.int p]) (.tup [.str "load",.int p])
 |take {p c a:Int}:CW μ (.tup [.str "take",.int p,.int c,.int a]) (.tup [.str "take",.int p,.int (μ c),.int (μ a)])
 |store {p a:Int}:CW μ (.tup [.str "store",.int p,.int a]) (.tup [.str "store",.int p,.int (μ a)])
 |put {p a c:Int}:CW μ (.tup [.str "put",.int p,.int a,.int c]) (.tup [.str "put",.int p,.int (μ a),.int (μ c)])
theorem TQ{as:List Int}{row:dF}(h:bM (· ∈as) row){ks:List bV}{vs:List dF}(μ:Int->Int)(hk: ∀a∈as,cD ks vs (.inl a)=some (.int (μ a))):
  ∃am,cP [row,.dct ks vs]=some (am,[])/\bM (fun b=> ∃a∈as,b=μ a) am/\RY .w am=RY .w row/\CW μ row am:=by
 cases h with
 | @number n h0 h1=>
  refine⟨_,?_,.number h0 h1,rfl,.number⟩;unfold cP;rw[b9];unfold bC;simp[bS]
 | @two x a b hx ha hb=>
  have z0:=(dne hx (y:= "number") (by decide)).1;have z1:=(dne hx (y:= "load") (by decide)).2;have z2:=(dne hx (y:= "take") (by decide)).2;have z3:=(dne hx (y:= "store") (by decide)).2;have z4:=(dne hx (y:= "put") (by decide)).2;refine⟨.tup [.str x,.int (μ a),.int (μ b)],?_,.two hx ⟨a,ha,rfl⟩ ⟨b,hb,rfl⟩,?_,.two hx⟩
  ·unfold cP
   rw[b9];unfold bC;simp[bS,z0,z1,z2,z3,z4,bX,hk a ha,hk b hb]
  ·simp only[Ai,Ay,or_false] at hx
   rcases hx with rfl|rfl|rfl|rfl|rfl|rfl|rfl<;>rfl
 | @pick c a b hc ha hb=>
  refine⟨.tup [.str "pick",.int (μ c),.int (μ a),.int (μ b)],?_,.pick ⟨c,hc,rfl⟩ ⟨a,ha,rfl⟩ ⟨b,hb,rfl⟩,rfl,.pick⟩;unfold cP;rw[b9];unfold bC;simp[bS,bX,hk a ha,hk b hb,hk c hc]
 | @load p h0 h1=>
  refine⟨.tup [.str "load",.int p],?_,.load h0 h1,rfl,.load⟩;unfold cP;rw[b9];unfold bC;simp[bS,bX]
 | @take p c a h0 h1 hc ha=>
  refine⟨.tup [.str "take",.int p,.int (μ c),.int (μ a)],?_,.take h0 h1 ⟨c,hc,rfl⟩ ⟨a,ha,rfl⟩,rfl,.take⟩;unfold cP;rw[b9];unfold bC;simp[bS,bX,hk a ha,hk c hc]
 | @store p a h0 h1 ha=>
  refine⟨.tup [.str "store",.int p,.int (μ a)],?_,.store h0 h1 ⟨a,ha,rfl⟩,rfl,.store⟩;unfold cP;rw[b9];unfold bC;simp[bS,bX,hk a ha]
 | @put p a c h0 h1 ha hc=>
  refine⟨.tup [.str "put",.int p,.int (μ a),.int (μ c)],?_,.put h0 h1 ⟨a,ha,rfl⟩ ⟨c,hc,rfl⟩,rfl,.put⟩;unfold cP;rw[b9];unfold bC;simp[bS,bX,hk a ha,hk c hc]
theorem Bl.at{kds aj:List Kd}{rows:List dF}(h:Bl kds rows aj): ∀{j:Nat} {row:dF},rows[j]? =some row->bM (fun a=>Nm aj .w a/\a<kds.length+j) row/\aj[kds.length+j]? =some (RY .w row)/\ ∀a,Nm kds .w a->Nm aj .w a:=by
 have keep: ∀{k k':List Kd} {rs:List dF},Bl k rs k'-> ∀(i:Nat) (x:Kd),k[i]? =some x->k'[i]? =some x:=by
  intro k k' rs h;induction h with
  |nil=>exact fun _ _ z=>z
  |cons _ _ ih=>exact fun i x z=>ih i x (by rw[Am (Ag.mp z).1];exact z)
 induction h with
 |nil=>intro j row hr;simp at hr
 | @cons kds aj r rows a t ih=>
  intro j row hr;cases j with
  |zero=>
   simp at hr;subst hr;refine⟨a.imp fun x hx=>⟨⟨hx.1,keep t _ _ (hx.snoc (j:=RY .w r)).2⟩,by have:=hx.lt;lia⟩,keep t _ _ (by simp),fun x hx=>⟨hx.1,keep t _ _ (hx.snoc (j:=RY .w r)).2⟩⟩
  |succ j=>
   obtain⟨h1,h2,h3⟩:=ih (by simpa using hr);rw[Cf,Gx] at h1 h2;refine⟨h1.imp fun x hx=>⟨hx.1,by have:=hx.2;lia⟩,by rw[show kds.length+(j+1)=kds.length+1+j by lia];exact h2,fun x hx=>h3 x hx.snoc⟩
noncomputable def swD:dF->dF
 | .tup [a,b]=> .tup [b,a]
 |_=> .non
noncomputable def XB:Nat->List Int->List (bV×dF)
 |_,[]=>[]
 |k,x::xs=>(.inl x,.int (k:Int))::XB (k+1) xs
theorem IP: ∀(xs:List Int) (k:Nat),RW ((YX k (xs.map .int)).map swD)=some (XB k xs)
 |[],_=>rfl
 |x::xs,k=>by
  rw[Aq,T9,Aq];show(kprD (.tup [.int x,.int (k:Int)])).bind (fun p=>(RW ((YX (k+1) (xs.map .int)).map swD)).map fun ps=>p::ps)=_;rw[IP xs (k+1)];rfl
theorem UC: ∀(xs:List Int) (k:Nat),(XB k xs).map Bg=xs.map .inl
 |[],_=>rfl
 |x::xs,k=>by rw[XB,Aq,UC xs (k+1)];rfl
theorem E7: ∀(xs:List Int) (k i:Nat),i<xs.length->((XB k xs).map Cj)[i]? =some (.int ((k+i:Nat):Int))
 |[],_,i,h=>by simp at h
 |x::xs,k,0,_=>rfl
 |x::xs,k,i+1,h=>by
  have:=E7 xs (k+1) i (by simpa using h);rw[XB,Aq,List.getElem?_cons_succ,this];congr 3;lia
theorem K9: ∀(xs:List Int) (k:Nat),(XB k xs).length=xs.length
 |[],_=>rfl
 |_::xs,k=>by rw[XB,Bn,K9 xs (k+1)];rfl
theorem RX{order:List Int}(nd:order.Nodup){a:Int}(ha:a∈order):cD ((XB 0 order).map Bg) ((XB 0 order).map Cj) (.inl a)=some (.int (order.idxOf a:Int)):=by
 have hi:order.idxOf a<order.length:=Fd ha;rw[IT _ _ (order.idxOf a) (.inl a) ?_ (by simp) ?_,E7 _ _ _ hi]
 ·simp
 ·rw[UC]
  exact Iq _ (fun a b h e=>h (by injection e)) nd
 ·rw[UC,Co,Ct hi,Hy hi]
  rfl
noncomputable def cL(rows:List dF)(r:Int):dF:=(rows[r.toNat]?).getD .non
noncomputable def HE(rows:List dF)(names:dF):dF->dF
 | .int r=>match cP [cL rows r,names] with
  |some (d,_)=>d
  |none=> .non
 |_=> .non
theorem F0{rows os:List dF}{names am:dF}{r:Int}(e:cP [cL rows r,names]=some (am,os)):HE rows names (.int r)=am:=by simp only[HE,e]
noncomputable def Y6(order:List Int):dF:= .dct ((XB 0 order).map Bg) ((XB 0 order).map Cj)
theorem zDF{rows:List dF}{kds:List Kd}(hb:Bl [] rows kds){ps:List (Int×Int)}(P:Prs rows ps){order:List Int}(o1:order.Perm (WB rows.length))(o2: ∀p∈ps,∀k:Nat,order[k]? =some p.2->p.1∈order.take k){pre rest:List Int}{r:Int}(ho:order=pre++r::rest):
  ∃am,cP [cL rows r,Y6 order]=some (am,[])/\VQ rows r=some (cL rows r)/\bM (Nm (pre.map fun a=>RY .w (cL rows a)) .w) am/\RY .w am=RY .w (cL rows r)/\CW (fun a=>(order.idxOf a:Int)) (cL rows r) am:=by
 have nd:order.Nodup:=o1.nodup_iff.mpr ((Q3 _).imp fun h=>by lia);have hr:r∈order:=by rw[ho];simp
 have hr2:=PJ.mp (o1.mem_iff.mp hr);have fo:rows[r.toNat]? =some (cL rows r):=by
  unfold cL;rw[Ct (by lia)];rfl
 obtain⟨h1,h2,_⟩:=hb.at fo;obtain⟨as,a1,a2,a3⟩:=h1.strong;have df: ∀a∈as,a∈pre:=fun a ha=>by
  have h3:=a1 a ha;have h4:a<r:=by have:=h3.2;simp at this;lia
  have hp:=P.nm r.toNat _ as fo a3 a ha h3.1.1 (by lia);have:=o2 _ hp pre.length (by rw[ho];simp;lia);rw[ho,Ra] at this;exact this
 obtain⟨am,e,ok,mk,rn⟩:=TQ a2 (ks:=(XB 0 order).map Bg) (vs:=(XB 0 order).map Cj) (fun a=>(order.idxOf a:Int)) (fun a ha=>RX nd (by rw[ho];exact Bk.mpr (.inl (df a ha))));refine⟨am,e,by rw[WT hr2.1 (by lia)];exact fo,ok.imp fun b hb'=> ?_,mk,rn⟩;obtain⟨a,ha,rfl⟩:=hb';have hap:=df a ha;have hi:pre.idxOf a<pre.length:=Fd hap;have hio:order.idxOf a=pre.idxOf a:=by rw[ho,Lb,if_pos hap]
 refine⟨by lia,?_⟩;rw[hio,El,Co,Ct hi,Hy hi];have h3:=(a1 a ha).1;have hlt:=h3.lt;have af:kds.length=rows.length:=by simpa using hb.len
 have l4:rows[a.toNat]? =some (cL rows a):=by
  unfold cL;rw[Ct (by have:=h3.1;lia)];rfl
 obtain⟨_,h5,_⟩:=hb.at l4;simp only[Ep,Ew] at h5;have:=h3.2;rw[h5] at this;injection this with this;rw[Ka,this]
theorem A2{rows:List dF}{kds:List Kd}(hb:Bl [] rows kds){ps:List (Int×Int)}(P:Prs rows ps){order:List Int}(o1:order.Perm (WB rows.length))(o2: ∀p∈ps,∀k:Nat,order[k]? =some p.2->p.1∈order.take k): ∀(rest pre:List Int),order=pre++rest->Bl (pre.map fun a=>RY .w (cL rows a)) ((rest.map .int).map (HE rows (Y6 order))) (order.map fun a=>RY .w (cL rows a))
 |[],pre,ho=>by rw[ho,Db];exact .nil
 |r::rest,pre,ho=>by
  obtain⟨am,e,_,ok,mk,_⟩:=zDF hb P o1 o2 ho;have er:=F0 e;have ih:=A2 hb P o1 o2 rest (pre++[r]) (by rw[ho,Ba];rfl);rw[Aq,Aq,er];refine .cons ok ?_;rw[mk];simpa using ih
theorem zBB(ns:List Int)(n:Nat)(most:Int)(hl:ns.length<=63)(hn:n<100000)(h0:0<=most)(h40:most<=40):
  ∃(sure:Int) (rows:List dF) (kds:List Kd) (n':Nat),Bl [] rows kds/\(rows.length:Int)<=most/\0<=sure/\sure<=64/\n'<=n+1000/\ZN [XW ns,YM n,.int most]=some (.tup [.int sure,.tup rows],[YM n']):=by
 obtain⟨x,hx,ex⟩:=V4 ns n [.int 3,.int 6,.int 9,.int 64] hl (by lia) (by simp);obtain⟨ab,rfl,r0,r1⟩: ∃q:Int,x= .int q/\0<q/\q<=64:=by
  simp only[Ai,Ay,or_false] at hx;rcases hx with rfl|rfl|rfl|rfl<;>exact⟨_,rfl,by lia,by lia⟩
 have d1:=XT ns (n+1) (ab+1) hl (by lia) (by lia);have d1a:=NP ns (n+1) (b:=ab+1) (by lia);have d1b:KD ns (n+1) (ab+1)<ab+1:=Et _ (by lia);obtain⟨y,hy,ey⟩:=V4 ns (n+2) [.int 0,.int ab,.int ab,.int (KD ns (n+1) (ab+1))] hl (by lia) (by simp);obtain⟨sure,rfl,s0,s1⟩: ∃q:Int,y= .int q/\0<=q/\q<=64:=by
  simp only[Ai,Ay,or_false] at hy;rcases hy with rfl|rfl|rfl|rfl<;>exact⟨_,rfl,by lia,by lia⟩
 have d2:=XT ns (n+3) (most+1) hl (by lia) (by lia);have d2a:=NP ns (n+3) (b:=most+1) (by lia);have d2b:KD ns (n+3) (most+1)<most+1:=Et _ (by lia);obtain⟨rows,kds,n1,hb,af,m1,m2,e1⟩:=zBU ns (n+4) (KD ns (n+3) (most+1)) ab hl (by lia) r0 r1 d2a (by lia);have d3:=XT ns n1 3 hl (by lia) (by decide);have hrl:rows.length<=40:=by lia
 by_cases h3:0<KD ns n1 3
 ·refine ⟨sure,rows,kds,n1 + 1,hb,by lia,s0,s1,by lia,?_⟩
  unfold ZN;rw[b9];unfold W6;simp[bS,ex,d1,ey,d2,e1,d3,h3]
 ·obtain ⟨ps,order,P,o1,o2,e2⟩ := zA2 ns (n1 + 1) (sure := sure) hl (by lia) hb hrl
  have hol:order.length=rows.length:=by rw[o1.length_eq,YA]
  have nd:order.Nodup:=o1.nodup_iff.mpr ((Q3 _).imp fun h=>by lia);have c1:=RM 0 XX (fun _=>true) (Z3 (c9 (fV 1) (c9 (fV 0) cF))) swD [] rfl (YX 0 (order.map .int)) [] (fun d hd=>by
   obtain⟨i,hi,e⟩:=Nh hd;obtain⟨z,_,rfl⟩:=NR (Ag.mpr ⟨hi,e⟩);exact⟨_,_,rfl,by simp,fun _=>by simp[swD]⟩) (by rw[NS];simp;lia)
  have f1:(YX 0 (order.map dF.int)).filter (fun _=>true)=YX 0 (order.map .int):=List.filter_eq_self.mpr fun _ _=>rfl;rw[f1,Dj] at c1;have hd:FF (.lst ((YX 0 (order.map .int)).map swD))=some (Y6 order):=by
   show(RW ((YX 0 (order.map .int)).map swD)).bind (fun kds=>if(kds.map Bg).Nodup then some (dF.dct (kds.map Bg) (kds.map Cj)) else none)=_;rw[IP,Av,if_pos]
   ·rfl
   ·rw[UC]
    exact Iq _ (fun a b h e=>h (by injection e)) nd
  have c2:=WF 2 (cU 2 [] cP (aE (f2 cN (f2 cN (fV 0) (fC (.int 1))) (fV 2)) (aE (fV 1) cC))) [.va (.tup [.int sure,.tup rows]),.va (Y6 order)] (HE rows (Y6 order)) rfl (order.map .int) [] (fun d hd=>by
   obtain⟨r,hr,rfl⟩:=Bx.mp hd;obtain⟨pre,rest,ho⟩:=List.append_of_mem hr;obtain⟨am,e,ea,_,_,_⟩:=zDF hb P o1 o2 ho;have er:=F0 e;rw[er];simp[ea,e]) (by simp;lia)
  rw[Dj] at c2;have B:=A2 hb P o1 o2 order [] rfl;refine⟨sure,(order.map .int).map (HE rows (Y6 order)),_,n1+1+rows.length,B,by simp;lia,s0,s1,by lia,?_⟩;have h3': ¬0<KD ns n1 3:=h3;unfold ZN;rw[b9];unfold W6;have hln:((order.map dF.int).map (HE rows (Y6 order))).length<=16777216:=by simp;lia
  generalize (order.map dF.int).map (HE rows (Y6 order))=R at*;generalize (YX 0 (order.map dF.int)).map swD=S at*;generalize Y6 order=D at*;simp[bS,ex,d1,ey,d2,e1,d3,h3',e2,bX,c1,hd,c2]
noncomputable def CK:Kd->Bool
 | .w=>true
 |_=>false
theorem zJX{kds:List Kd}{a:Int}(h:Nm kds .w a):Ab (kds.map CK) a:=⟨h.1,by rw[Co,h.2];rfl⟩
theorem mkw{x:String}{t:List dF}:ZH [.tup (.str x::t)]=some (.bl (CK (RY .w (.tup (.str x::t)))),[]):=by
 unfold ZH;rw[b9];unfold VY;by_cases h:x= "store"
 ·subst h
  simp[bS,Z1,RY,aD,CK]
 ·by_cases h2:x= "put"
  ·subst h2
   simp[bS,Z1,RY,aD,CK]
  ·have h3 : ¬ "store" = x := fun z => h z.symm
   have h4: ¬ "put"=x:=fun z=>h2 z.symm;simp[bS,Z1,RY,aD,CK,h,h2,h3,h4]
theorem zD6(rest:List dF)(blk rws:dF)(sure:Int){kds aj:List Kd}{rows:List dF}(h:Bl kds rows aj):kds.length+rows.length<1000-> ∀s:Sl,∃s',XZ (gN 4) YO (rows++rest) [.va blk,.va (.int sure),.va rws,.ow (.lst ((kds.map CK).map .bl)),s]=XZ (gN 4) YO rest [.va blk,.va (.int sure),.va rws,.ow (.lst ((aj.map CK).map .bl)),s']:=by
 induction h with
 |nil=>exact fun _ s=>⟨s,rfl⟩
 | @cons kds aj row rows ok h ih=>
  intro hk s;obtain⟨s',ih⟩:=ih (by simp at hk⊢;lia) (.va row);refine⟨s',?_⟩;have e:=zAW (ok.imp fun a=>zJX);obtain⟨x,t,rfl,_⟩:=SF ok;have hk':kds.length<16777216:=by simp at hk;lia
  rw[Gc,Gc] at ih;simp only[Aq,Dg] at ih;rw[Fj,US,K4,QG];have b1:YO [.va blk,.va (.int sure),.va rws,.ow (.lst ((kds.map CK).map .bl)),.va (.tup (.str x::t))]=some (.nx [.va blk,.va (.int sure),.va rws,.ow (.lst ((kds.map CK).map .bl++[.bl (CK (RY .w (.tup (.str x::t))))])),.va (.tup (.str x::t))]):=by
   unfold YO;simp only[Fp] at e;simp[e,mkw,hk',dF.hard]
  have s1:([.va blk,.va (.int sure),.va rws,.ow (.lst ((kds.map CK).map .bl)),s]:Ev).set 4 (.va (.tup (.str x::t)))=[.va blk,.va (.int sure),.va rws,.ow (.lst ((kds.map CK).map .bl)),.va (.tup (.str x::t))]:=rfl;rw[s1,b1,QH];exact ih
theorem GX{sure:Int}{rows:List dF}{kds:List Kd}(h:Bl [] rows kds)(s0:0<=sure)(s1:sure<=64)(r40:rows.length<=40):YB [.tup [.int sure,.tup rows]]=some (.bl true,[]):=by
 obtain⟨s',e1⟩:=zD6 [] (.tup [.int sure,.tup rows]) (.tup rows) sure h (by simp;lia) .no;rw[Db] at e1;simp only[Dg] at e1;have h40: ¬(40:Int)<(rows.length:Int):=by lia
 unfold YB;rw[b9,SW.eq_1];simp[bS,UP,UO,s0,s1,h40,e1]
noncomputable def WY:dF->Int
 | .int a=>a
 |_=>0
noncomputable def UD:dF->List Int
 | .tup (.str x::t)=>if x=At "number" then[] else if onB x=true then(t.drop 1).map WY else t.map WY
 |_=>[]
noncomputable def fnD(μ:Int->Int)(d:dF):dF:= .int (μ (WY d))
noncomputable def NH(μ:Int->Int):dF->dF
 | .tup (.str x::t)=>if x=At "number" then .tup (.str x::t) else if onB x=true then .tup (.str x::(t.take 1++(t.drop 1).map (fnD μ))) else .tup (.str x::t.map (fnD μ))
 |d=>d
theorem G1{x:String}(hx:x∈["over","plus","minus","times","least","most","less"]) {a b:Int}:UD (.tup [.str x,.int a,.int b])=[a,b]:=by
 simp only[Ai,Ay,or_false] at hx;rcases hx with rfl|rfl|rfl|rfl|rfl|rfl|rfl<;>kernel_rfl
theorem CW.rn{μ:Int->Int}{row am:dF}(h:CW μ row am):am=NH μ row:=by
 cases h with
 |two hx=>
  simp only[Ai,Ay,or_false] at hx;rcases hx with rfl|rfl|rfl|rfl|rfl|rfl|rfl<;>kernel_rfl
 |_=>kernel_rfl
theorem R7{M:Int->Prop}{row:dF}(h:bM M row):(∀a∈UD row,M a)/\(UD row).length<=3/\bM (· ∈UD row) row/\bU [row]=some (.lst ((UD row).map .int),[])/\aN [row]=some (.lst ((UD row).map .int),[]):=by
 cases h with
 | @number n h0 h1=>rw[show UD (.tup [.str "number",.int n])=[] by kernel_rfl];exact⟨fun _ h=>(nomatch h),by simp,.number h0 h1,by kernel_rfl,by kernel_rfl⟩
 | @two x a b hx ha hb=>
  rw[G1 hx];refine⟨by simp[ha,hb],by simp,.two hx (by simp) (by simp),?_⟩;simp only[Ai,Ay,or_false] at hx;rcases hx with rfl|rfl|rfl|rfl|rfl|rfl|rfl<;>exact⟨by kernel_rfl,by kernel_rfl⟩
 | @pick c a b hc ha hb=>
  rw[show UD (.tup [.str "pick",.int c,.int a,.int b])=[c,a,b] by kernel_rfl];exact⟨by simp[hc,ha,hb],by simp,.pick (by simp) (by simp) (by simp),by kernel_rfl,by kernel_rfl⟩
 | @load p h0 h1=>rw[show UD (.tup [.str "load",.int p])=[] by kernel_rfl];exact⟨fun _ h=>(nomatch h),by simp,.load h0 h1,by kernel_rfl,by kernel_rfl⟩
 | @take p c a h0 h1 hc ha=>
  rw[show UD (.tup [.str "take",.int p,.int c,.int a])=[c,a] by kernel_rfl];exact⟨by simp[hc,ha],by simp,.take h0 h1 (by simp) (by simp),by kernel_rfl,by kernel_rfl⟩
 | @store p a h0 h1 ha=>
  rw[show UD (.tup [.str "store",.int p,.int a])=[a] by kernel_rfl];exact⟨by simp[ha],by simp,.store h0 h1 (by simp),by kernel_rfl,by kernel_rfl⟩
 | @put p a c h0 h1 ha hc=>
  rw[show UD (.tup [.str "put",.int p,.int a,.int c])=[a,c] by kernel_rfl];exact⟨by simp[ha,hc],by simp,.put h0 h1 (by simp) (by simp),by kernel_rfl,by kernel_rfl⟩
structure RenF(μ:Int->Int)(row am:dF):Prop where
 nm:UD am=(UD row).map μ
 wn:ZI [row,.lst (((UD row).map μ).map .int)]=some (am,[])
 kd:RY .w am=RY .w row
 wr:GC am=GC row
 sf:sfT am=sfT row
 can: ∀(sure:Int) (rows ag:List dF),(∀b∈UD row,sfT ((VQ ag (μ b)).getD .non)=sfT ((VQ rows b).getD .non))->PV sure ag am=PV sure rows row
 same:(∀a∈UD row,μ a=a)->am=row
theorem CW.facts{μ:Int->Int}{row am:dF}(h:CW μ row am):RenF μ row am:=by
 cases h with
 | @number n=>exact⟨by kernel_rfl,by kernel_rfl,rfl,rfl,rfl,fun _ _ _ _=>by kernel_rfl,fun _=>rfl⟩
 | @two x a b hx=>
  have e:=G1 hx (a:=a) (b:=b);have e':=G1 hx (a:=μ a) (b:=μ b);refine⟨by rw[e,e'];rfl,by rw[e];kernel_rfl,?_,rfl,?_,fun sure rows ag h=> ?_,fun h=>by rw[e] at h;rw[h a (by simp),h b (by simp)]⟩
  ·simp only[Ai,Ay,or_false] at hx
   rcases hx with rfl|rfl|rfl|rfl|rfl|rfl|rfl<;>rfl
  ·simp only[Ai,Ay,or_false] at hx
   rcases hx with rfl|rfl|rfl|rfl|rfl|rfl|rfl<;>kernel_rfl
  ·rw[e] at h
   have h:=h b (by simp);simp only[Ai,Ay,or_false] at hx;rcases hx with rfl|rfl|rfl|rfl|rfl|rfl|rfl
   ·exact congrArg not h
   all_goals kernel_rfl
 | @pick c a b => exact ⟨by kernel_rfl,by kernel_rfl,rfl,rfl,by kernel_rfl,fun _ _ _ _ => by kernel_rfl,fun h => by
   rw[show UD (.tup [.str "pick",.int c,.int a,.int b])=[c,a,b] by kernel_rfl] at h;rw[h a (by simp),h b (by simp),h c (by simp)]⟩
 | @load p=>exact⟨by kernel_rfl,by kernel_rfl,rfl,rfl,rfl,fun _ _ _ _=>rfl,fun _=>rfl⟩
 | @take p c a => exact ⟨by kernel_rfl,by kernel_rfl,rfl,rfl,rfl,fun _ _ _ _ => rfl,fun h => by
   rw[show UD (.tup [.str "take",.int p,.int c,.int a])=[c,a] by kernel_rfl] at h;rw[h a (by simp),h c (by simp)]⟩
 | @store p a => exact ⟨by kernel_rfl,by kernel_rfl,rfl,rfl,rfl,fun _ _ _ _ => rfl,fun h => by
   rw[show UD (.tup [.str "store",.int p,.int a])=[a] by kernel_rfl] at h;rw[h a (by simp)]⟩
 | @put p a c => exact ⟨by kernel_rfl,by kernel_rfl,rfl,rfl,rfl,fun _ _ _ _ => rfl,fun h => by
   rw[show UD (.tup [.str "put",.int p,.int a,.int c])=[a,c] by kernel_rfl] at h;rw[h a (by simp),h c (by simp)]⟩
theorem bM.ren{M:Int->Prop}{row:dF}(h:bM M row)(μ:Int->Int):RenF μ row (NH μ row)/\(∀M':Int->Prop,(∀a∈UD row,M' (μ a))->bM M' (NH μ row))/\ ∀(ks:List bV) (vs:List dF),(∀a∈UD row,cD ks vs (.inl a)=some (.int (μ a)))->cP [row,.dct ks vs]=some (NH μ row,[]):=by
 have h0:=(R7 h).2.2.1;have go: ∀bs:List Int,∀a∈bs,cD (bs.map .inl) (bs.map fun a=> .int (μ a)) (.inl a)=some (.int (μ a)):=fun bs=>by
  induction bs with
  |nil=>exact fun _ ha=>nomatch ha
  |cons b bs ih=>
   intro a ha;simp only[Aq,cD];by_cases e:b=a
   ·rw[if_pos (by rw[e]),e]
   ·rw [if_neg fun z => e (by injection z)]
    rcases Ai.mp ha with z|z
    ·exact absurd z.symm e
    ·exact ih a z
 have nd:=go (UD row);obtain⟨am,e1,ok,_,rn⟩:=TQ h0 μ nd;have:=rn.rn;subst this;refine⟨rn.facts,fun M' hm=>ok.imp fun b hb=> ?_,fun ks vs hk=> ?_⟩
 ·obtain⟨a,ha,rfl⟩:=hb
  exact hm a ha
 ·obtain⟨am,e1,_,_,rn⟩:=TQ h0 μ hk
  rw[e1,rn.rn]
theorem YU{rows:List dF}{i:Int}(h0:0<=i)(h1:i<rows.length):VQ rows i=some (cL rows i)/\rows[i.toNat]? =some (cL rows i):=by
 have e:rows[i.toNat]? =some (cL rows i):=by
  unfold cL;rw[Ct (by lia)];rfl
 exact⟨by rw[WT h0 h1,e],e⟩
theorem XG{rows:List dF}{kds:List Kd}(hb:Bl [] rows kds){i:Int}(h0:0<=i)(h1:i<rows.length):bM (fun a=>(0<=a/\a<i)/\Nm kds .w a) (cL rows i):=
 (hb.at (YU h0 h1).2).1.imp fun a h=>⟨⟨h.1.1,by have:=h.2;simp at this;lia⟩,h.1⟩
noncomputable def D3(sure:Int)(rows:List dF)(i:Int):Bool:=GC (cL rows i) || PV sure rows (cL rows i)
noncomputable def SS(rows:List dF)(i:Int):List Int:=UD (cL rows i)
noncomputable def QJ(sure:Int)(rows:List dF)(w:List Int)(k:Int):List Int:=if D3 sure rows k=true∨ ∃i∈w,k∈SS rows i then k::w else w
noncomputable def NO:Nat->List Int
 |0=>[]
 |n+1=>(n:Int)::NO n
theorem zBW(n:Nat):HF n=(NO n).map .int:=by
 induction n with
 |zero=>rfl
 |succ n ih=>
  rw[NO,Aq,<- ih];unfold HF;rw[Gk,Aq,Fp];refine congr (congrArg List.cons (congrArg dF.int (by push_cast;lia))) (Fb fun k _=>congrArg dF.int ?_);push_cast
  lia
noncomputable def YN(sure:Int)(rows:List dF):List Int:=(NO rows.length).foldl (QJ sure rows) []
theorem nlt{rows:List dF}{kds:List Kd}(hb:Bl [] rows kds){i a:Int}(h0:0<=i)(h1:i<rows.length)(h:a∈SS rows i):0<=a/\a<i:=((R7 (XG hb h0 h1)).1 a h).1
structure Wn(sure:Int)(rows:List dF)(k:Nat)(w W:List Int):Prop where
 lt:W.Pairwise (· < ·)
 rng: ∀i∈W,0<=i/\i<rows.length
 pre: ∃p,W=p++w/\ ∀i∈p,i<k
 iff: ∀j:Int,0<=j->j<k->(j∈W↔D3 sure rows j=true∨ ∃i∈W,j∈SS rows i)
 len:W.length<=w.length+k
theorem CD{sure:Int}{rows:List dF}{kds:List Kd}(hb:Bl [] rows kds): ∀(k:Nat) (w:List Int),k<=rows.length->w.Pairwise (· < ·)->(∀i∈w,(k:Int)<=i/\i<rows.length)->Wn sure rows k w ((NO k).foldl (QJ sure rows) w)
 |0,w,_,h1,h2=>⟨h1,fun i hi=>by have:=h2 i hi;lia,⟨[],rfl,fun _ z=>nomatch z⟩,fun j _ _=>by lia,Ah _⟩
 | k + 1,w,hk,h1,h2 => by
  rw[NO,Fe];have hin: ∀i∈QJ sure rows w k,((k:Nat):Int)<=i/\i<rows.length:=fun i hi=>by
   unfold QJ at hi;split at hi
   ·rcases Ai.mp hi with rfl|z
    ·lia
    ·have:=h2 i z;lia
   ·have:=h2 i hi;lia
  have hlt:(QJ sure rows w k).Pairwise (· < ·):=by
   unfold QJ;split
   ·exact Gs.mpr ⟨fun i hi=>by have:=h2 i hi;lia,h1⟩
   ·exact h1
  obtain⟨a1,a2,⟨p,a3,a4⟩,a5,a6⟩:=CD (sure:=sure) hb k (QJ sure rows w k) (by lia) hlt hin;generalize (NO k).foldl (QJ sure rows) (QJ sure rows w k)=W at*;have hst: ∃q,QJ sure rows w k=q++w/\(∀i∈q,i=(k:Int))/\q.length<=1:=by
   unfold QJ;split
   ·exact⟨[(k:Int)],rfl,fun i hi=>by simpa using hi,by simp⟩
   ·exact⟨[],rfl,fun _ z=>(nomatch z),by simp⟩
  obtain⟨q,b1,b2,b3⟩:=hst;refine⟨a1,a2,⟨p++q,by rw[a3,b1,Ba],fun i hi=> ?_⟩,fun j j0 j1=> ?_,?_⟩
  ·rcases Bk.mp hi with z|z
   ·have:=a4 i z;lia
   ·have:=b2 i z;lia
  ·by_cases hj:j<k
   ·exact a5 j j0 hj
   ·obtain rfl : j = (k : Int) := by lia
    have e1:(k:Int)∈W↔(k:Int)∈QJ sure rows w k:=by
     rw[a3];refine⟨fun z=> ?_,fun z=>Bk.mpr (.inr z)⟩;rcases Bk.mp z with z|z
     ·have:=a4 _ z;lia
     ·exact z
    have e2:(∃i∈W,(k:Int)∈SS rows i)↔ ∃i∈w,(k:Int)∈SS rows i:=by
     constructor
     ·rintro ⟨i,hi,hn⟩
      have hr:=a2 i hi;have:=nlt hb hr.1 hr.2 hn;rw[a3,b1] at hi;rcases Bk.mp hi with z|z
      ·have:=a4 i z;lia
      ·rcases Bk.mp z with z|z
       ·have:=b2 i z;lia
       ·exact⟨i,z,hn⟩
     ·rintro ⟨i,hi,hn⟩
      exact⟨i,by rw[a3,b1];simp[hi],hn⟩
    rw[e1,e2];unfold QJ;split
    ·rename_i h
     exact⟨fun _=>h,fun _=>Au⟩
    ·rename_i h
     refine⟨fun z=> ?_,fun z=>absurd z h⟩;have:=h2 _ z;lia
  ·rw[b1,Cf] at a6
   lia
theorem WA{sure:Int}{rows:List dF}{kds:List Kd}(hb:Bl [] rows kds):Wn sure rows rows.length [] (YN sure rows):=CD hb rows.length [] (Ah _) .nil fun _ z=>nomatch z
noncomputable def ZU:List Int->Int->List Int
 |[],k=>[k]
 |d::D,k=>if d=k then d::D else d::ZU D k
theorem RE{j k:Int}: ∀{D:List Int},j∈ZU D k↔j∈D∨j=k
 |[]=>by simp[ZU]
 | d :: D => by
  unfold ZU;split
  ·rename_i h
   subst h;simp only[Ai];exact⟨.inl,fun z=>z.elim id .inl⟩
  ·rw[Ai,RE,Ai,or_assoc]
theorem RF{k:Int}: ∀{D:List Int},D.Nodup->(ZU D k).Nodup
 |[],_=>by simp[ZU]
 | d :: D,h => by
  unfold ZU;split
  ·exact h
  ·rename_i hk
   obtain⟨h1,h2⟩:=Cq.mp h;exact Cq.mpr ⟨fun z=>(RE.mp z).elim h1 hk,RF h2⟩
theorem UN{k:Int}: ∀{D:List Int},(ZU D k).length<=D.length+1
 |[]=>by simp[ZU]
 | d :: D => by
  unfold ZU;split
  ·simp
  ·have:=UN (k:=k) (D:=D)
   simp;lia
theorem NK{j:Int}: ∀{as D:List Int},j∈as.foldl ZU D↔j∈D∨j∈as
 |[],D=>by simp
 |a::as,D=>by rw[Fe,NK,RE,Ai,or_assoc]
theorem EN: ∀{as D:List Int},D.Nodup->(as.foldl ZU D).Nodup
 |[],_,h=>h
 |a::as,D,h=>EN (as:=as) (D:=ZU D a) (RF h)
theorem RG: ∀{as D:List Int},(as.foldl ZU D).length<=D.length+as.length
 |[],_=>Ah _
 |a::as,D=>by
  have h1:=RG (as:=as) (D:=ZU D a);have h2:=UN (k:=a) (D:=D);simp only[Fe,Bn];lia
noncomputable def tD(D:List Int):List dF:=D.map fun _=> .bl true
theorem JO{k:Int}: ∀{D:List Int},bB (D.map .inl) (tD D) (.inl k) (.bl true)=((ZU D k).map .inl,tD (ZU D k))
 |[]=>rfl
 | d :: D => by
  unfold tD;rw[Aq,Aq,bB];unfold ZU;by_cases h:d=k
  ·rw [if_pos (by rw [h]),if_pos h]
   rfl
  ·rw [if_neg fun z => h (by injection z),if_neg h]
   have:=JO (k:=k) (D:=D);unfold tD at this;rw[this];rfl
theorem FC: ∀{E D:List Int},V1 (D.map .inl) (tD D) (E.map .inl) (tD E)=((E.foldl ZU D).map .inl,tD (E.foldl ZU D))
 |[],D=>by cases D<;>rfl
 |e::E,D=>by
  show V1 (bB (D.map .inl) (tD D) (.inl e) (.bl true)).1 (bB (D.map .inl) (tD D) (.inl e) (.bl true)).2 (E.map .inl) (tD E)=_;rw[JO];exact FC
theorem K6{D:List Int}(h:D.Nodup):(D.map (Ig:Int->bV)).Nodup:=Iq _ (fun a b h e=>h (by injection e)) h
theorem zBA: ∀{as D:List Int},D.Nodup->D.length+as.length<1000->XY 0 1 (gN 0) XX (fV 0) (fC (.bl true)) (as.map .int) (D.map .inl) (tD D) []=some (((as.foldl ZU D).map .inl,tD (as.foldl ZU D)),[])
 |[],D,_,_=>by simp[XY]
 |a::as,D,hd,hl=>by
  have hl':D.length<16777216:=by simp at hl;lia
  have:=UN (k:=a) (D:=D);have ih:=zBA (as:=as) (RF hd (k:=a)) (by simp at hl;lia);rw[Aq,XY,Fe,<- ih,show(ZU D a).map Ig=(bB (D.map .inl) (tD D) (.inl a) (.bl true)).1 by rw[JO],show tD (ZU D a)=(bB (D.map .inl) (tD D) (.inl a) (.bl true)).2 by rw[JO]];simp[scB,hl',K6 hd]
theorem CF{M:Int->Prop}{row:dF}(h:bM M row):WD [row]=some (.bl (GC row),[]):=by
 obtain⟨x,a,as,rfl,_⟩:=h.ints;unfold WD;rw[b9];unfold N2;simp[bS,Z1,GC,aD]
theorem zAK{k:Int}: ∀{D:List Int},(cD (D.map .inl) (tD D) (.inl k)).isSome=decide (k∈D)
 |[]=>rfl
 | d :: D => by
  show(if(Ig d:bV)= .inl k then some (dF.bl true) else cD (D.map .inl) (tD D) (.inl k)).isSome=_;by_cases h:d=k
  ·subst h
   simp
  ·rw [if_neg fun z => h (by injection z),zAK]
   exact decide_eq_decide.mpr ⟨Ap _,fun z=>(Ai.mp z).elim (fun e=>absurd e.symm h) id⟩
noncomputable def P5(sure:Int)(rows:List dF)(D:List Int)(k:Int):List Int:=if k∈D∨D3 sure rows k=true then((SS rows k).foldl ZU []).foldl ZU (ZU D k) else D
noncomputable def dT(D:List Int):dF:= .dct (D.map .inl) (tD D)
theorem BJ{sure:Int}{rows:List dF}{kds:List Kd}(hb:Bl [] rows kds){k:Int}(h0:0<=k)(h1:k<rows.length){D:List Int}:(P5 sure rows D k).length<=D.length+4:=by
 have e3:=(R7 (XG hb h0 h1)).2.1;have l1:=UN (k:=k) (D:=D);have l2:=RG (as:=SS rows k) (D:=[]);have l3:=RG (as:=(SS rows k).foldl ZU []) (D:=ZU D k);unfold P5;unfold SS at*;simp only[Ep] at l2;split
 ·lia
 ·lia
theorem F5{sure:Int}{rows:List dF}{k:Int}{D:List Int}(h:D.Nodup):(P5 sure rows D k).Nodup:=by
 unfold P5;split
 ·exact EN (RF h)
 ·exact h
theorem zAC{sure:Int}{rows:List dF}{kds:List Kd}(hb:Bl [] rows kds){k:Int}(h0:0<=k)(h1:k<rows.length){D:List Int}(nd:D.Nodup)(hl:D.length<900):
  ZA [.va (.tup [.int sure,.tup rows]),.va (.tup rows),.ow (dT D),.va (.int k)]=some (.nx [.va (.tup [.int sure,.tup rows]),.va (.tup rows),.ow (dT (P5 sure rows D k)),.va (.int k)]):=by
 have ok:=XG hb h0 h1;obtain⟨_,e3,_,_,e5⟩:=R7 ok;have ea:=(YU h0 h1).1;have e1:=CF ok;have e2:=(N8 (sure:=sure) hb h0 h1 ea).2;have ei:DE 2 (fV 3) [.va (.tup [.int sure,.tup rows]),.va (.tup rows),.ow (dT D),.va (.int k)]=some (.bl (decide (k∈D)),[.va (.tup [.int sure,.tup rows]),.va (.tup rows),.ow (dT D),.va (.int k)]):=by
  unfold DE dT;simp[zAK]
 have ep:SG 2 (fV 3) (fC (.bl true)) [.va (.tup [.int sure,.tup rows]),.va (.tup rows),.ow (dT D),.va (.int k)]=some (.nx [.va (.tup [.int sure,.tup rows]),.va (.tup rows),.ow (dT (ZU D k)),.va (.int k)]):=by
  have:D.length<16777216:=by lia
  unfold dT;simp[JO,this,K6 nd]
 have l1:=UN (k:=k) (D:=D);have l2:=RG (as:=UD (cL rows k)) (D:=[]);simp only[Ep] at l2;have eu:MM 2 (WV [] 1 (XA (cU 1 [] aN (aE (f2 cN (fV 1) (fV 3)) cC))) (gN 0) XX (fV 0) (fC (.bl true))) [.va (.tup [.int sure,.tup rows]),.va (.tup rows),.ow (dT (ZU D k)),.va (.int k)]=some (.nx [.va (.tup [.int sure,.tup rows]),.va (.tup rows),.ow (dT (((SS rows k).foldl ZU []).foldl ZU (ZU D k))),.va (.int k)]):=by
  have ec:=zBA (as:=UD (cL rows k)) (D:=[]) .nil (by simp;lia);have hz:(ZU D k).length+((UD (cL rows k)).foldl ZU []).length<=16777216:=by lia
  unfold MM WV dT SS;simp only[Dg,show tD []=[] from rfl] at ec;simp[ea,e5,bX,ec,hz,K6 (RF nd (k:=k)),FC]
 have e12:=(aU ep (s2:=MM 2 (WV [] 1 (XA (cU 1 [] aN (aE (f2 cN (fV 1) (fV 3)) cC))) (gN 0) XX (fV 0) (fC (.bl true))))).trans eu;clear ep eu;unfold ZA P5 D3;generalize GC (cL rows k)=b1 at*;generalize PV sure rows (cL rows k)=b2 at*;by_cases hd:k∈D
 ·simp[ei,hd,↓e12]
 ·cases b1<;>cases b2<;>simp[ei,hd,↓e12,ea,e1,e2]
theorem JC{sure:Int}{rows:List dF}{kds:List Kd}(hb:Bl [] rows kds): ∀(m:Nat) (D:List Int) (s:Sl),m<=rows.length->D.Nodup->D.length+4*m<900→
  ∃s',XZ (gN 3) ZA ((NO m).map .int) [.va (.tup [.int sure,.tup rows]),.va (.tup rows),.ow (dT D),s]=some (.nx [.va (.tup [.int sure,.tup rows]),.va (.tup rows),.ow (dT ((NO m).foldl (P5 sure rows) D)),s'])
 |0,D,s,_,_,_=>⟨s,by simp[NO]⟩
 |m+1,D,s,hm,nd,hl=>by
  have h1:(m:Int)<rows.length:=by lia
  have l1:=BJ (sure:=sure) hb (by lia) h1 (D:=D);obtain⟨s',ih⟩:=JC hb m (P5 sure rows D m) (.va (.int m)) (by lia) (F5 nd) (by lia);refine⟨s',?_⟩;rw[NO,Aq,US,K4,QG,Fe];have e:=zAC (sure:=sure) hb (k:=(m:Int)) (by lia) h1 nd (by lia);have hs:([.va (.tup [.int sure,.tup rows]),.va (.tup rows),.ow (dT D),s]:Ev).set 3 (.va (.int m))=[.va (.tup [.int sure,.tup rows]),.va (.tup rows),.ow (dT D),.va (.int m)]:=rfl;rw[hs,e,QH,ih]
theorem N9{sure:Int}{rows:List dF}{kds:List Kd}(hb:Bl [] rows kds): ∀(m:Nat) (w D:List Int),m<=rows.length->(∀i∈w,(m:Int)<=i)->D.Nodup->(∀j,j∈D↔j∈w∨ ∃i∈w,j∈SS rows i)→
  ((NO m).foldl (P5 sure rows) D).Nodup/\ ∀j,j∈(NO m).foldl (P5 sure rows) D↔j∈(NO m).foldl (QJ sure rows) w∨ ∃i∈(NO m).foldl (QJ sure rows) w,j∈SS rows i
 |0,_,_,_,_,nd,h=>⟨nd,h⟩
 | m + 1,w,D,hm,hw,nd,h => by
  have hmw:(m:Int)∉w:=fun z=>by have:=hw _ z;lia
  have hc:((m:Int)∈D∨D3 sure rows m=true)↔(D3 sure rows m=true∨ ∃i∈w,(m:Int)∈SS rows i):=by
   rw[h];constructor
   ·rintro ((z|z)|z)
    ·exact absurd z hmw
    ·exact .inr z
    ·exact .inl z
   ·rintro (z|z)
    ·exact .inr z
    ·exact .inl (.inr z)
  rw[NO,Fe,Fe];refine N9 hb m _ _ (by lia) (fun i hi=> ?_) (F5 nd) fun j=> ?_
  ·unfold QJ at hi
   split at hi
   ·rcases Ai.mp hi with rfl|z
    ·exact Int.le_refl _
    ·have:=hw i z;lia
   ·have:=hw i hi;lia
  ·unfold QJ P5
   by_cases c:D3 sure rows m=true∨ ∃i∈w,(m:Int)∈SS rows i
   ·rw[if_pos c,if_pos (hc.mpr c),NK,RE,NK,h]
    simp only[Ai,Ay,false_or,exists_eq_or_imp];constructor
    ·rintro (((z|z)|z)|z)
     ·exact .inl (.inr z)
     ·exact .inr (.inr z)
     ·exact .inl (.inl z)
     ·exact .inr (.inl z)
    ·rintro ((z|z)|z|z)
     ·exact .inl (.inr z)
     ·exact .inl (.inl (.inl z))
     ·exact .inr z
     ·exact .inl (.inl (.inr z))
   ·rw [if_neg c,if_neg fun z => c (hc.mp z)]
    exact h j
theorem IL: ∀D:List Int,IK (D.map .inl)=some D
 |[]=>rfl
 |d::D=>by rw[Aq,IK,IL D];rfl
theorem zDZ{f:VF}{δ δ1:Ev}{j:Int}(h:f δ=some (.int j,δ1))(h0:0<=j)(h1:j<=1000):iRB f δ=some ((NO j.toNat).map .int,δ1):=by
 unfold iRB;rw[h,Av,<- zBW];exact if_pos (by lia)
theorem MF{sure:Int}{rows:List dF}{kds:List Kd}(hb:Bl [] rows kds)(s0:0<=sure)(s1:sure<=64)(r40:rows.length<=40):aR [.tup [.int sure,.tup rows]]=some (.lst ((YN sure rows).map .int),[]):=by
 have ib:=GX hb s0 s1 r40;obtain⟨s',e1⟩:=JC (sure:=sure) hb rows.length [] .no (Ah _) .nil (by simp;lia);obtain⟨i1,i2⟩:=N9 (sure:=sure) hb rows.length [] [] (Ah _) (fun _ z=>nomatch z) .nil (by simp);have W:=WA (sure:=sure) hb;have er:=zDZ (f:=f1 aF (fV 1)) (δ:=[.va (.tup [.int sure,.tup rows]),.va (.tup rows),.ow (dT []),.no]) (δ1:=[.va (.tup [.int sure,.tup rows]),.va (.tup rows),.ow (dT []),.no]) (j:=(rows.length:Int)) (by simp) (by lia) (by lia);generalize (NO rows.length).foldl (P5 sure rows) []=D at*;have hp:(YN sure rows).Perm D:=(Kg (W.lt.imp fun h=>by lia) i1).mpr fun j=>by
  rw[i2];refine⟨.inl,fun z=> ?_⟩;rcases z with z|⟨i,hi,hj⟩
  ·exact z
  ·have hr:=W.rng i hi
   have:=nlt hb hr.1 hr.2 hj;exact(W.iff j this.1 (by lia)).mpr (.inr ⟨i,hi,hj⟩)
 have hs:YN sure rows=U6 D:=SI hp (W.lt.imp fun h=>by lia);have hl:D.length<64:=by
  have:=hp.length_eq;have:=W.len;simp at this;lia
 have ef:NU 2 [.va (.tup [.int sure,.tup rows]),.va (.tup rows),.ow (dT D),s']=some (.lst ((YN sure rows).map .int),[.va (.tup [.int sure,.tup rows]),.va (.tup rows),.ow (dT D),s']):=by
  unfold NU dT;simp[IL,hl,hs]
 unfold aR;rw[b9];unfold WX;rw[El] at er;rw[show bS [] 4 [.tup [.int sure,.tup rows]]=[.va (.tup [.int sure,.tup rows]),.no,.no,.no] from rfl,
  aU (δ1:=[.va (.tup [.int sure,.tup rows]),.no,.no,.no]) (by simp[ib]),
  aU (δ1:=[.va (.tup [.int sure,.tup rows]),.va (.tup rows),.no,.no]) (by simp),
  aU (δ1:=[.va (.tup [.int sure,.tup rows]),.va (.tup rows),.ow (dT []),.no]) (by simp[dT,tD]),
  aU (δ1:=[.va (.tup [.int sure,.tup rows]),.va (.tup rows),.ow (dT D),s']) (by simp[er,e1])]
 simp[ef]
theorem zDY{i:Int}{as:List Int}:N3 (.int i) (as.map .int)=decide (i∈as):=by
 by_cases h:i∈as
 ·rw[RT.mpr h,decide_eq_true h]
 ·rw[decide_eq_false h]
  cases e:N3 (.int i) (as.map .int)
  ·rfl
  ·exact absurd (RT.mp e) h
theorem FE{i:Int}{as:List Int}:bJ true (.int i) (.lst (as.map .int))=some (.bl (!decide (i∈as))):=by
 rw[QZ (j:=0) (k:=0) ZY (ZE as),zDY];rfl
noncomputable def ndl(W:List Int)(n:Nat):List dF:=((WB n).map .int).filter fun d=> !decide (WY d∈W)
theorem zAE{W:List Int}{n:Nat}(hn:n<=1000)(s:Sl)(hs:s= .va (.lst (W.map .int))):aS 1 1 (gN 1) (fB (f2 (bJ true) (fV 1) (fV 0))) (fV 1) ((WB n).map .int) [] [s]=some (ndl W n,[s]):=by
 subst hs;have:=VU 1 (fB (f2 (bJ true) (fV 1) (fV 0))) (fun d=> !decide (WY d∈W)) (fV 1) id [.va (.lst (W.map .int))] rfl ((WB n).map .int) [] (fun d hd=>by
  obtain⟨i,_,rfl⟩:=Bx.mp hd;exact⟨by simp[FE,WY];rfl,fun _=>by simp⟩) (by simp[YA];lia)
 simpa[ndl] using this
theorem QC{sure:Int}{rows:List dF}{kds:List Kd}(hb:Bl [] rows kds)(s0:0<=sure)(s1:sure<=64)(r40:rows.length<=40):Y5 [.tup [.int sure,.tup rows]]=some (.lst (ndl (YN sure rows) rows.length),[]):=by
 have e1:=MF hb s0 s1 r40;have e2:=zAE (W:=YN sure rows) (n:=rows.length) (by lia) _ rfl;generalize YN sure rows=W at*;generalize ndl W rows.length=L at*;have hj: -4611686018427387904<=(rows.length:Int)/\(rows.length:Int)<4611686018427387904:=by lia
 unfold Y5;rw[b9];unfold TD;rw[show bS [] 2 [.tup [.int sure,.tup rows]]=[.va (.tup [.int sure,.tup rows]),.no] from rfl,
  aU (δ1:=[.va (.tup [.int sure,.tup rows]),.va (.lst (W.map .int))]) (by simp[e1])]
 simp[bX,hj,UJ,e2]
theorem E5: ∀(xs:List Int) (k:Nat) (x:Int),XB k (xs++[x])=XB k xs++[(.inl x,.int ((k+xs.length:Nat):Int))]
 |[],k,x=>rfl
 |y::xs,k,x=>by rw[Fj,XB,E5 xs (k+1) x,XB,Fj,Bn,show k+1+xs.length=k+(xs.length+1) by lia]
theorem LG{pre:List Int}{x:Int}(h:x∉pre):bB ((XB 0 pre).map Bg) ((XB 0 pre).map Cj) (.inl x) (.int (pre.length:Int))=((XB 0 (pre++[x])).map Bg,(XB 0 (pre++[x])).map Cj):=by
 rw[FU _ _ _ _ (by simp) (by
  rw[UC];intro z;obtain⟨y,hy,e⟩:=Bx.mp z;injection e with e;exact h (e▸hy)),E5]
 simp
theorem zAN{pre:List Int}(h:pre.Nodup):((XB 0 pre).map Bg).Nodup:=by
 rw[UC];exact K6 h
theorem IC: ∀(xs pre:List Int),(pre++xs).Nodup->pre.length+xs.length<1000->XY 0 2 (NB 2 (b7 (gN 0) (b7 (gN 1) YS))) XX (fV 1) (fV 0) (YX pre.length (xs.map .int)) ((XB 0 pre).map Bg) ((XB 0 pre).map Cj) []=some (((XB 0 (pre++xs)).map Bg,(XB 0 (pre++xs)).map Cj),[])
 |[],pre,_,_=>by rw[Db];rfl
 |x::xs,pre,nd,hl=>by
  have hx:x∉pre:=fun z=>(Ey.mp nd).2.2 x z x Au rfl;have ih:=IC xs (pre++[x]) (by simpa using nd) (by simp at hl⊢;lia);rw[Ba,Mp,Cf,Gx] at ih;have hk:pre.length<16777216:=by simp at hl;lia
  rw[Aq,T9,XY,<- ih,show(XB 0 (pre++[x])).map Bg=(bB ((XB 0 pre).map Bg) ((XB 0 pre).map Cj) (.inl x) (.int (pre.length:Int))).1 by rw[LG hx],show(XB 0 (pre++[x])).map Cj=(bB ((XB 0 pre).map Bg) ((XB 0 pre).map Cj) (.inl x) (.int (pre.length:Int))).2 by rw[LG hx]];have nd':=zAN (Ey.mp nd).1;have hkl:((XB 0 pre).map Bg).length<16777216:=by simp[K9,hk]
  generalize (XB 0 pre).map Bg=ks at*;generalize (XB 0 pre).map Cj=vs at*;simp[scB,hkl,nd']
noncomputable def VE(W:List Int)(a:Int):Int:=(W.idxOf a:Int)
noncomputable def UG(rows:List dF)(W:List Int):List dF:=W.map fun i=>NH (VE W) (cL rows i)
noncomputable def gtW(W:List Int)(d:dF):dF:=(cD ((XB 0 W).map Bg) ((XB 0 W).map Cj) (.inl (WY d))).getD .non
noncomputable def whr(W:List Int)(n:Nat):List dF:=((WB n).map .int).map (gtW W)
theorem KA{W:List Int}{n:Nat}(hn:n<=1000):aS 1 1 (gN 1) XX (SV 0 (fV 1)) ((WB n).map .int) [] [.ow (Y6 W)]=some (whr W n,[.ow (Y6 W)]):=by
 have:=WF 1 (SV 0 (fV 1)) [.ow (Y6 W)] (gtW W) rfl ((WB n).map .int) [] (fun d hd=>by
  obtain⟨i,_,rfl⟩:=Bx.mp hd;unfold SV Y6 gtW;simp[WY]) (by simp[YA];lia)
 rw[Dj] at this;exact this
theorem CC{sure:Int}{rows:List dF}{kds:List Kd}(hb:Bl [] rows kds){i a:Int}(hi:i∈YN sure rows)(ha:a∈SS rows i):a∈YN sure rows:=by
 have W:=WA (sure:=sure) hb;have hr:=W.rng i hi;have:=nlt hb hr.1 hr.2 ha;exact(W.iff a this.1 (by lia)).mpr (.inr ⟨i,hi,ha⟩)
theorem MK{sure:Int}{rows:List dF}{kds:List Kd}(hb:Bl [] rows kds)(s0:0<=sure)(s1:sure<=64)(r40:rows.length<=40):XC [.tup [.int sure,.tup rows]]=some (.tup [.tup [.int sure,.tup (UG rows (YN sure rows))],.lst (whr (YN sure rows) rows.length)],[]):=by
 have e1:=MF hb s0 s1 r40;have WO:=WA (sure:=sure) hb;have cl: ∀i∈YN sure rows,∀a∈SS rows i,a∈YN sure rows:=fun i hi a ha=>CC hb hi ha;have hl:=WO.len;have hr:=WO.rng;have nd:(YN sure rows).Nodup:=WO.lt.imp fun h=>by lia
 clear WO;generalize YN sure rows=W at*;simp only[Ep,Ew] at hl;have ek:=IC W [] (by simpa using nd) (by simp;lia);simp only[Dj,Ep,show(XB 0 []).map Bg=([]:List bV) from rfl,show(XB 0 []).map Cj=([]:List dF) from rfl] at ek;have ed:WV [] 2 (RS (fV 1)) (NB 2 (b7 (gN 0) (b7 (gN 1) YS))) XX (fV 1) (fV 0) [.va (.tup [.int sure,.tup rows]),.va (.lst (W.map .int)),.no,.no,.no,.no]=some (Y6 W,[.va (.tup [.int sure,.tup rows]),.va (.lst (W.map .int)),.no,.no,.no,.no]):=by
  unfold WV Y6;simp[bX,ek]
 have er:=WF 2 (cU 2 [] ZI (aE (f2 cN (fV 1) (fV 2)) (aE (aL [0] 1 (XA (cU 1 [] aN (aE (f2 cN (fV 1) (fV 2)) cC))) (gN 1) XX (f2 cN (fO 0) (fV 1))) cC))) [.ow (Y6 W),.va (.tup rows)] (fun d=>NH (VE W) (cL rows (WY d))) rfl (W.map .int) [] (fun d hd=>by
  obtain⟨i,hi,rfl⟩:=Bx.mp hd;have h2:=hr i hi;have ok:=XG hb h2.1 h2.2;have ea:=(YU h2.1 h2.2).1;have en:=(R7 ok).2.2.2.2;have ew:=(ok.ren (VE W)).1.wn;have ec:=WF 1 (f2 cN (fO 0) (fV 1)) [.ow (Y6 W)] (fnD (VE W)) rfl ((UD (cL rows i)).map .int) [] (fun d hd=>by
   obtain⟨a,ha,rfl⟩:=Bx.mp hd;have:=RX nd (cl i hi a ha);unfold Y6 fnD;simp[this,WY,VE]) (by have:=(R7 ok).2.1;simp;lia)
  have hm:((UD (cL rows i)).map dF.int).map (fnD (VE W))=((UD (cL rows i)).map (VE W)).map .int:=by
   rw[Fp,Fp];rfl
  rw[hm,Dj] at ec;generalize ((UD (cL rows i)).map (VE W)).map dF.int=zs at*;generalize Y6 W=DW at*;simp -implicitDefEqProofs [ea,en,bX,ec,ew,WY]) (by simp;lia)
 have hm:(W.map dF.int).map (fun d=>NH (VE W) (cL rows (WY d)))=UG rows W:=by
  rw[Fp];rfl
 rw[hm,Dj] at er;have ew:=KA (W:=W) (n:=rows.length) (by lia);have hp:(UG rows W).length<=16777216:=by simp[UG];lia
 have hj: -4611686018427387904<=(rows.length:Int)/\(rows.length:Int)<4611686018427387904:=by lia
 generalize UG rows W=R2 at*;generalize whr W rows.length=L at*;generalize Y6 W=DW at*;unfold XC;rw[b9];unfold NZ;rw[show bS [] 6 [.tup [.int sure,.tup rows]]=[.va (.tup [.int sure,.tup rows]),.no,.no,.no,.no,.no] from rfl,
  aU (δ1:=[.va (.tup [.int sure,.tup rows]),.va (.lst (W.map .int)),.no,.no,.no,.no]) (by simp[e1]),
  aU (δ1:=[.va (.tup [.int sure,.tup rows]),.va (.lst (W.map .int)),.ow DW,.no,.no,.no]) (by simp[ed]),
  aU (δ1:=[.va (.tup [.int sure,.tup rows]),.va (.lst (W.map .int)),.ow DW,.va (.int sure),.va (.tup rows),.no]) (by simp),
  aU (δ1:=[.va (.tup [.int sure,.tup rows]),.va (.lst (W.map .int)),.ow DW,.va (.int sure),.va (.tup rows),.va (.lst R2)]) (by simp -implicitDefEqProofs [bX,er])]
 simp -implicitDefEqProofs [bX,hj,UJ,ew]
structure Cl(rows:List dF)(W:List Int):Prop where
 lt:W.Pairwise (· < ·)
 rng: ∀i∈W,0<=i/\i<rows.length
 cl: ∀i∈W,∀a∈SS rows i,a∈W
theorem Cl.nd{rows:List dF}{W:List Int}(C:Cl rows W):W.Nodup:=C.lt.imp fun h=>by lia
theorem CB{sure:Int}{rows:List dF}{kds:List Kd}(hb:Bl [] rows kds):Cl rows (YN sure rows):=⟨(WA hb).lt,(WA hb).rng,fun _ hi _ ha=>CC hb hi ha⟩
theorem Cl.pre{rows:List dF}{kds:List Kd}(hb:Bl [] rows kds){W pre rest:List Int}{r a:Int}(C:Cl rows W)(ho:W=pre++r::rest)(ha:a∈SS rows r):a∈pre/\VE W a=(pre.idxOf a:Int):=by
 have hr:r∈W:=by rw[ho];simp
 have h1:=C.rng r hr;have h2:=nlt hb h1.1 h1.2 ha;have h3:=C.cl r hr a ha;have hp:a∈pre:=by
  have hlt:=C.lt;rw[ho] at h3 hlt;rcases Bk.mp h3 with z|z
  ·exact z
  ·rcases Ai.mp z with z|z
   ·lia
   ·have:=(Gs.mp (Ei.mp hlt).2.1).1 a z
    lia
 exact⟨hp,by unfold VE;rw[ho,Lb,if_pos hp]⟩
theorem Cl.bl{rows:List dF}{kds:List Kd}(hb:Bl [] rows kds){W:List Int}(C:Cl rows W): ∀rest pre:List Int,W=pre++rest->Bl (pre.map fun a=>RY .w (cL rows a)) (rest.map fun i=>NH (VE W) (cL rows i)) (W.map fun a=>RY .w (cL rows a))
 |[],pre,ho=>by rw[ho,Db];exact .nil
 | r :: rest,pre,ho => by
  have hr:=C.rng r (by rw[ho];simp);have ok:=XG hb hr.1 hr.2;have ih:=Cl.bl hb C rest (pre++[r]) (by rw[ho,Ba];rfl);obtain⟨F,hM,_⟩:=ok.ren (VE W);rw[Aq];refine .cons (hM _ fun a ha=> ?_) ?_
  ·obtain⟨hp,e⟩:=C.pre hb ho ha
   have hi:pre.idxOf a<pre.length:=Fd hp;have h3:=(R7 ok).1 a ha;rw[e];refine⟨by lia,?_⟩;rw[El,Co,Ct hi,Hy hi,Ka];have h5:=(hb.at (YU h3.1.1 (by lia)).2).2.1;simp only[Ep,Ew] at h5;have:=h3.2.2;rw[h5] at this;exact this
  ·rw[F.kd]
   simpa using ih
theorem AJ{rows:List dF}{W:List Int}{j:Nat}(hj:j<W.length):cL (UG rows W) j=NH (VE W) (cL rows W[j])/\VQ (UG rows W) j=some (NH (VE W) (cL rows W[j])):=by
 have hl:(UG rows W).length=W.length:=by simp[UG]
 have e:cL (UG rows W) j=NH (VE W) (cL rows W[j]):=by
  unfold UG;show((W.map fun i=>NH (VE W) (cL rows i))[(j:Int).toNat]?).getD .non=_;simp[hj]
 exact⟨e,by rw[(YU (by lia) (by rw[hl];lia)).1,e]⟩
theorem zAV{W:List Int}(nd:W.Nodup){j:Nat}(hj:j<W.length):VE W W[j]=(j:Int):=by
 unfold VE;rw[nd.idxOf_getElem j hj]
theorem zAU{W:List Int}{a:Int}(h:a∈W): ∃j:Nat,∃hj:j<W.length,W[j]=a/\VE W a=(j:Int):=⟨W.idxOf a,Fd h,Hy _,rfl⟩
theorem F2{sure:Int}{rows:List dF}{kds:List Kd}(hb:Bl [] rows kds){W:List Int}(C:Cl rows W){j:Nat}(hj:j<W.length):D3 sure (UG rows W) j=D3 sure rows W[j]/\SS (UG rows W) j=(SS rows W[j]).map (VE W):=by
 have hr:=C.rng W[j] (Gi hj);obtain⟨F,_⟩:=(XG hb hr.1 hr.2).ren (VE W);unfold D3 SS;rw[(AJ hj).1];refine⟨?_,F.nm⟩;rw[F.wr,F.can sure rows (UG rows W) fun b hb'=> ?_];have hw:=C.cl _ (Gi hj) b hb';have h2:=C.rng b hw;obtain⟨k,hk,rfl,e⟩:=zAU hw;rw[e,(AJ hk).2,(YU h2.1 h2.2).1];exact((XG hb h2.1 h2.2).ren (VE W)).1.sf
theorem zBD{sure:Int}{rows:List dF}{kds i9:List Kd}(hb:Bl [] rows kds)(hb2:Bl [] (UG rows (YN sure rows)) i9): ∀(n j:Nat),j<(YN sure rows).length->(YN sure rows).length<=j+n->(j:Int)∈YN sure (UG rows (YN sure rows))
 |0,j,h1,h2=>by lia
 | n + 1,j,h1,h2 => by
  have ih:=zBD (sure:=sure) hb hb2 n;have WO:=WA (sure:=sure) hb;have W2:=WA (sure:=sure) hb2;have C:=CB (sure:=sure) hb;generalize YN sure rows=W at*;have hl:(UG rows W).length=W.length:=by simp[UG]
  have hm:=Gi h1;have hr:=C.rng _ hm;obtain⟨e1,e2⟩:=F2 (sure:=sure) hb C h1;refine(W2.iff j (by lia) (by rw[hl];lia)).mpr ?_;rcases(WO.iff _ hr.1 (by lia)).mp hm with z|⟨i,hi,z⟩
  ·exact .inl (by rw[e1];exact z)
  ·obtain⟨k,hk,rfl,_⟩:=zAU hi
   have hrk:=C.rng _ hi;have h3:=nlt hb hrk.1 hrk.2 z;have hjk:j<k:=Po fun q=>by
    rcases Nat.lt_or_eq_of_le q with q|q
    ·have:=Hi.mp C.lt k j hk h1 q
     lia
    ·subst q
     lia
   refine .inr ⟨k,ih k hk (by lia),?_⟩;rw[(F2 (sure:=sure) hb C hk).2,<- zAV C.nd h1];exact Ju z
theorem E9{sure:Int}{rows:List dF}{kds i9:List Kd}(hb:Bl [] rows kds)(hb2:Bl [] (UG rows (YN sure rows)) i9):YN sure (UG rows (YN sure rows))=WB (YN sure rows).length:=by
 have W2:=WA (sure:=sure) hb2;have ha:=zBD (sure:=sure) hb hb2 (YN sure rows).length;have hl:(UG rows (YN sure rows)).length=(YN sure rows).length:=by simp[UG]
 rw[hl] at W2;have hr:=W2.rng;rw[hl] at hr;refine Kw (le:=(· < ·)) (fun a b _ _ h1 h2=>by lia) W2.lt (Q3 _) ((Kg (W2.lt.imp fun h=>by lia) ((Q3 _).imp fun h=>by lia)).mpr fun a=> ?_);rw[PJ];refine⟨hr a,fun z=> ?_⟩;have:=ha a.toNat (by lia) (by lia);rwa[Int.toNat_of_nonneg z.1] at this
theorem A3(m:Nat):(WB m).Nodup:=(Q3 m).imp fun h=>by lia
theorem zAT{m:Nat}{a:Int}(h:0<=a/\a<m):VE (WB m) a=a:=by
 have h1:a.toNat<(WB m).length:=by rw[YA];lia
 have h2:(WB m)[a.toNat]=a:=by simp[WB];lia
 have:=zAV (A3 m) h1;rw[h2] at this;lia
theorem AK{rows:List dF}{kds:List Kd}(hb:Bl [] rows kds):UG rows (WB rows.length)=rows:=by
 have hl:(UG rows (WB rows.length)).length=rows.length:=by simp[UG,YA]
 refine Pw hl fun j h1 h2=> ?_;have e1:(WB rows.length)[j]'(by rw[YA];exact h2)=(j:Int):=by simp[WB]
 have ok:=XG hb (i:=(j:Int)) (by lia) (by lia);have e2:cL rows j=rows[j]:=by simp[cL,h2]
 have:=(ok.ren (VE (WB rows.length))).1.same fun a ha=>zAT (by have:=(R7 ok).1 a ha;lia);have e3:(UG rows (WB rows.length))[j]=NH (VE (WB rows.length)) (cL rows ((WB rows.length)[j]'(by rw[YA];exact h2))):=by simp[UG]
 rw[e3,e1,this,e2]
theorem CA(m:Nat):whr (WB m) m=(WB m).map .int:=by
 unfold whr;rw[Fp];refine Fb fun i hi=> ?_;show(cD _ _ (.inl i)).getD .non=_;rw[RX (A3 m) hi];have:=zAT (PJ.mp hi);unfold VE at this;rw[this];rfl
theorem zAD(m:Nat):ndl (WB m) m=[]:=by
 unfold ndl;refine Ic.mpr fun d hd=> ?_;obtain⟨i,hi,rfl⟩:=Bx.mp hd;simp[WY,hi]
end L2
namespace RR
open PySem L2
theorem in_i{i:Int}{as:List Int}:bJ false (.int i) (.lst (as.map .int))=some (.bl (decide (i∈as))):=by
 rw[QZ (j:=0) (k:=0) ZY (ZE as),zDY];rfl
theorem zEG{sure:Int}{rows:List dF}{kds:List Kd}(hb:Bl [] rows kds){k:Int}(h0:0<=k)(h1:k<rows.length){w:List Int}(hw: ∀i∈w,0<=i/\i<rows.length)(hl:w.length<1000)(a b s5 s6 s7 s8 s9:Sl):
  ∃t5:Sl,OZ [a,b,.va (.tup [.int sure,.tup rows]),.ow (.lst (w.reverse.map .int)),.va (.int k),s5,s6,s7,s8,s9]=some (.nx [a,b,.va (.tup [.int sure,.tup rows]),.ow (.lst ((QJ sure rows w k).reverse.map .int)),.va (.int k),t5,s6,s7,s8,s9]):=by
 have ok:=XG hb h0 h1;have ea:=(YU h0 h1).1;have em:=(N8 (sure:=sure) hb h0 h1 ea).1;obtain⟨x,y,ys,ex,_⟩:=ok.ints;have e0:cN (cL rows k) (.int 0)=some (.str x):=by rw[ex];simp
 have ew:bJ false (.str x) (.tup [.str "store",.str "put"])=some (.bl (GC (cL rows k))):=by
  rw[ex];simp[GC,aD]
 have ec:=VU 2 (fB (f2 (bJ false) (fV 1) (cU 1 [] bU (aE (f2 cN (f2 cN (fV 0) (fC (.int 1))) (fV 2)) cC)))) (fun d=>decide (k∈SS rows (WY d))) (fV 2) id [.va (.tup [.int sure,.tup rows]),.va (.int k)] rfl (w.reverse.map .int) [] (fun d hd=>by
  obtain⟨i,hi,rfl⟩:=Bx.mp hd;have hr:=hw i (Jb.mp hi);have e1:=(YU hr.1 hr.2).1;have e2:=(R7 (XG hb hr.1 hr.2)).2.2.2.1;have e3:=in_i (i:=k) (as:=UD (cL rows i));refine⟨?_,fun _=>by simp⟩;show _=some (decide (k∈UD (cL rows i)),_);simp[e1,e2,e3]) (by simp;lia)
 rw[Dj,List.map_id] at ec;have hU:(D3 sure rows k=true∨ ∃i∈w,k∈SS rows i)↔(GC (cL rows k) || (PV sure rows (cL rows k) || !((w.reverse.map dF.int).filter fun d=>decide (k∈SS rows (WY d))).isEmpty))=true:=by
  unfold D3;rw[<- Bool.or_assoc];refine Iff.trans (or_congr Iff.rfl ?_) Bool.or_eq_true_iff.symm;rw[Bool.not_eq_true',<- Bool.not_eq_true,Lr,Ic];constructor
  ·rintro ⟨i,hi,z⟩ q
   exact q (.int i) (Ju (Jb.mpr hi)) (decide_eq_true z)
  ·intro q
   refine Kn fun n=>q fun d hd z=>n ?_;obtain⟨i,hi,rfl⟩:=Bx.mp hd;exact⟨i,Jb.mp hi,of_decide_eq_true z⟩
 have hn:P0 (.lst ((w.reverse.map dF.int).filter fun d=>decide (k∈SS rows (WY d)))) (.lst [])=some (.bl (!((w.reverse.map dF.int).filter fun d=>decide (k∈SS rows (WY d))).isEmpty)):=by rw[JG (Z5 (k:=0) fun d hd=>ZE _ d (Fw.mp hd).1) (Z5 (k:=0) ZZ),K0]
 have hs:(QJ sure rows w k).reverse.map dF.int=if(GC (cL rows k) || (PV sure rows (cL rows k) || !((w.reverse.map dF.int).filter fun d=>decide (k∈SS rows (WY d))).isEmpty))=true then w.reverse.map .int++[.int k] else w.reverse.map .int:=by
  unfold QJ;by_cases c:D3 sure rows k=true∨ ∃i∈w,k∈SS rows i
  ·rw[if_pos c,if_pos (hU.mp c)]
   simp
  ·rw[if_neg c,if_neg fun z=>c (hU.mpr z)]
 have hl':(w.reverse.map dF.int).length<16777216:=by simp;lia
 clear hU;generalize (w.reverse.map dF.int).filter (fun d=>decide (k∈SS rows (WY d)))=U at*;generalize w.reverse.map dF.int=V at*;generalize (QJ sure rows w k).reverse.map dF.int=V' at*;subst hs;generalize GC (cL rows k)=b1 at*;generalize PV sure rows (cL rows k)=b2 at*;generalize U.isEmpty=b3 at*;refine⟨.va (.lst U),?_⟩;unfold OZ;rw[aU (δ1:=[a,b,.va (.tup [.int sure,.tup rows]),.ow (.lst V),.va (.int k),.va (.lst U),s6,s7,s8,s9]) (by simp[bX,ec])];cases b1<;>cases b2<;>cases b3<;>simp[ea,e0,ew,em,hn,hl']
theorem zAJ{sure:Int}{rows:List dF}{kds:List Kd}(hb:Bl [] rows kds)(a b s6 s7 s8 s9:Sl): ∀(m:Nat) (w:List Int) (s4 s5:Sl),m<=rows.length->(∀i∈w,0<=i/\i<rows.length)->w.length+m<1000→
  ∃t4 t5:Sl,XZ (gN 4) OZ ((NO m).map .int) [a,b,.va (.tup [.int sure,.tup rows]),.ow (.lst (w.reverse.map .int)),s4,s5,s6,s7,s8,s9]=some (.nx [a,b,.va (.tup [.int sure,.tup rows]),.ow (.lst (((NO m).foldl (QJ sure rows) w).reverse.map .int)),t4,t5,s6,s7,s8,s9])
 |0,w,s4,s5,_,_,_=>⟨s4,s5,by simp[NO]⟩
 | m + 1,w,s4,s5,hm,hw,hl => by
  obtain⟨u5,e⟩:=zEG (sure:=sure) hb (k:=(m:Int)) (by lia) (by lia) hw (by lia) a b s5 s6 s7 s8 s9;have hst: ∃q,QJ sure rows w m=q++w/\(∀i∈q,i=(m:Int))/\q.length<=1:=by
   unfold QJ;split
   ·exact⟨[(m:Int)],rfl,fun i hi=>by simpa using hi,by simp⟩
   ·exact⟨[],rfl,fun _ z=>(nomatch z),by simp⟩
  obtain⟨q,b1,b2,b3⟩:=hst;obtain⟨t4,t5,ih⟩:=zAJ hb a b s6 s7 s8 s9 m (QJ sure rows w m) (.va (.int m)) u5 (by lia) (fun i hi=>by
   rw[b1] at hi;rcases Bk.mp hi with z|z
   ·have:=b2 i z;lia
   ·exact hw i z) (by rw[b1,Cf];lia)
  refine⟨t4,t5,?_⟩;rw[NO,Aq,US,K4,Fe];simp only[Og,Oh];rw[QG,e,QH,ih]
theorem zEF{sure:Int}{rows:List dF}{kds:List Kd}(hb:Bl [] rows kds){W pre rest:List Int}{r:Int}(C:Cl rows W)(ho:W=pre++r::rest)(hl:W.length<1000)(a b s3 s5 s6 s7:Sl):
  OY [a,b,.va (.tup [.int sure,.tup rows]),s3,.va (.int r),s5,s6,s7,.ow (.lst (pre.map fun i=>NH (VE W) (cL rows i))),.ow (Y6 pre)]=some (.nx [a,b,.va (.tup [.int sure,.tup rows]),s3,.va (.int r),s5,s6,s7,.ow (.lst ((pre++[r]).map fun i=>NH (VE W) (cL rows i))),.ow (Y6 (pre++[r]))]):=by
 have hr:=C.rng r (by rw[ho];simp);have ok:=XG hb hr.1 hr.2;have ea:=(YU hr.1 hr.2).1;have nd:=C.nd;have hpl:pre.length<W.length:=by rw[ho];simp
 have nd2:(pre++[r]).Nodup:=by
  rw[ho] at nd;have:(pre++r::rest)=(pre++[r])++rest:=by simp
  rw[this] at nd;exact(Ey.mp nd).1
 have hx:r∉pre:=fun z=>(Ey.mp nd2).2.2 r z r (by simp) rfl;obtain⟨_,hM,hR⟩:=ok.ren (VE W);have hh:=(hM (fun _=>True) fun _ _=>trivial).hard;have er:cP [cL rows r,Y6 (pre++[r])]=some (NH (VE W) (cL rows r),[]):=hR _ _ fun x hx=>by
  obtain⟨z1,z2⟩:=C.pre hb ho hx;rw[RX nd2 (Cg _ z1),z2,Lb,if_pos z1]
 have ep:SG 9 (fV 4) (f1 aF (fO 8)) [a,b,.va (.tup [.int sure,.tup rows]),s3,.va (.int r),s5,s6,s7,.ow (.lst (pre.map fun i=>NH (VE W) (cL rows i))),.ow (Y6 pre)]=some (.nx [a,b,.va (.tup [.int sure,.tup rows]),s3,.va (.int r),s5,s6,s7,.ow (.lst (pre.map fun i=>NH (VE W) (cL rows i))),.ow (Y6 (pre++[r]))]):=by
  have h1:((XB 0 pre).map Bg).length<16777216:=by rw[Bt,K9];lia
  have h2:=zAN (Ey.mp nd2).1;have h3:=LG hx;unfold Y6;generalize (XB 0 pre).map Bg=ks at*;generalize (XB 0 pre).map Cj=vs at*;simp[h1,h2,h3]
 have hl':(pre.map fun i=>NH (VE W) (cL rows i)).length<16777216:=by rw[Bt];lia
 rw[Gc];simp only[Aq,Dg];generalize pre.map (fun i=>NH (VE W) (cL rows i))=R at*;generalize NH (VE W) (cL rows r)=r' at*;generalize Y6 (pre++[r])=D' at*;unfold OY;rw[aU ep];simp[ea,er,hh,hl']
theorem zAI{sure:Int}{rows:List dF}{kds:List Kd}(hb:Bl [] rows kds){W:List Int}(C:Cl rows W)(hl:W.length<1000)(a b s3 s5 s6 s7:Sl): ∀(rest pre:List Int) (s4:Sl),W=pre++rest→
  ∃t4:Sl,XZ (gN 4) OY (rest.map .int) [a,b,.va (.tup [.int sure,.tup rows]),s3,s4,s5,s6,s7,.ow (.lst (pre.map fun i=>NH (VE W) (cL rows i))),.ow (Y6 pre)]=some (.nx [a,b,.va (.tup [.int sure,.tup rows]),s3,t4,s5,s6,s7,.ow (.lst (UG rows W)),.ow (Y6 W)])
 |[],pre,s4,ho=>⟨s4,by rw[Db] at ho;subst ho;rfl⟩
 |r::rest,pre,s4,ho=>by
  obtain⟨t4,ih⟩:=zAI hb C hl a b s3 s5 s6 s7 rest (pre++[r]) (.va (.int r)) (by rw[ho];simp);refine⟨t4,?_⟩;rw[Aq,US,K4];simp only[Og,Oh];rw[QG,zEF hb C ho hl a b s3 s5 s6 s7,QH,ih]
theorem IM: ∀ns:List Int,X7 (ns.map .int)=some ns
 |[]=>rfl
 |n::ns=>by rw[Aq,X7,IM ns];rfl
theorem IV{k:Nat}{key:bV}: ∀{ks:List bV} {vs:List dF},(∀v∈vs,U2 k v)->U2 k ((cD ks vs key).getD .non)
 |[],_,_=>FH
 |_::_,[],_=>FH
 |k'::ks,v::vs,h=>by
  rw[cD];split
  ·exact h v Au
  ·exact IV fun v hv=>h v (Ap _ hv)
theorem E6: ∀(xs:List Int) (k:Nat),∀d∈(XB k xs).map Cj,U2 0 d
 |[],_,_,h=>nomatch h
 |x::xs,k,d,h=>by
  rw[XB,Aq] at h;rcases Ai.mp h with rfl|h
  ·exact ZY
  ·exact E6 xs (k+1) d h
theorem DQ{W:List Int}{n:Nat}(hn:n<=1000):aS 1 1 (gN 1) (fB (f2 (bJ true) (fV 1) (fO 0))) (fV 1) ((WB n).map .int) [] [.ow (.lst (W.reverse.map .int))]=some (ndl W n,[.ow (.lst (W.reverse.map .int))]):=by
 have:=VU 1 (fB (f2 (bJ true) (fV 1) (fO 0))) (fun d=> !decide (WY d∈W)) (fV 1) id [.ow (.lst (W.reverse.map .int))] rfl ((WB n).map .int) [] (fun d hd=>by
  obtain⟨i,_,rfl⟩:=Bx.mp hd;have e:=FE (i:=i) (as:=W.reverse);simp only[Jb] at e;generalize W.reverse.map dF.int=V at*;exact⟨by simp[e,WY];rfl,fun _=>by simp⟩) (by simp[YA];lia)
 simpa[ndl] using this
theorem RZ{k:Nat}{d:dF}(h:U2 k d)(hk:k<=64:=by decide):P0 d d=some (.bl false)/\W9 d d=some (.bl true):=by
 rw[JG h h hk hk,zDR h h hk hk,zB6 h];exact⟨rfl,rfl⟩
theorem zAL(ns:List Int)(hl:ns.length<=63):LR [.lst (ns.map .int)]=some (.bl true,[]):=by
 obtain⟨sure,rows,kds,n,hb,af,s0,s1,hn,e1⟩:=zBB ns 0 20 hl (by lia) (by lia) (by lia);have r40:rows.length<=40:=by lia
 have hS:dF.lst (ns.map .int)=XW ns:=rfl;have C:=CB (sure:=sure) hb;have WO:=WA (sure:=sure) hb;have hwl:=WO.len;simp only[Ep,Ew] at hwl;obtain⟨t4,t5,e2⟩:=zAJ (sure:=sure) hb (.va (XW ns)) (.ow (YM n)) .no .no .no .no rows.length [] .no .no (Ah _) (fun _ z=>nomatch z) (by simp;lia);have e3:=QC hb s0 s1 r40;have e4:=DQ (W:=YN sure rows) (n:=rows.length) (by lia);have e5:=MK hb s0 s1 r40;have hb2:Bl [] (UG rows (YN sure rows)) ((YN sure rows).map fun a=>RY .w (cL rows a)):=C.bl hb (YN sure rows) [] rfl;have hl2:(UG rows (YN sure rows)).length=(YN sure rows).length:=by simp[UG]
 have e6:=QC hb2 s0 s1 (by rw[hl2];lia);have e7:=MK hb2 s0 s1 (by rw[hl2];lia);rw[E9 hb hb2,hl2,zAD] at e6;have ps:=AK hb2;rw[hl2] at ps;rw[E9 hb hb2,hl2,CA,ps] at e7;obtain⟨u4,e8⟩:=zAI (sure:=sure) hb C (by lia) (.va (XW ns)) (.ow (YM n)) (.ow (.lst ((YN sure rows).reverse.map .int))) t5 (.va (.tup [.int sure,.tup (UG rows (YN sure rows))])) (.va (.lst (whr (YN sure rows) rows.length))) (YN sure rows) [] t4 rfl;have e9:=KA (W:=YN sure rows) (n:=rows.length) (by lia);have hw:(NO rows.length).foldl (QJ sure rows) []=YN sure rows:=rfl;rw[hw,Lu,Dg] at e2;have es:G4 (.lst ((YN sure rows).reverse.map .int))=some (.lst ((YN sure rows).map .int)):=by
  show((X7 ((YN sure rows).reverse.map .int)).bind fun ns=>if ns.length<64 then some (dF.lst ((U6 ns).map .int)) else none)=_;rw[IM,Av,if_pos (by simp;lia),<- SI (Oz _).symm (WO.lt.imp fun h=>by lia)]
 have k1:U2 1 (.lst (ndl (YN sure rows) rows.length)):=Z5 fun d hd=>ZE _ d (Fw.mp hd).1;have k2:U2 3 (.tup [.int sure,.tup (UG rows (YN sure rows))]):=V3 (bH ZY (bH (V3 fun d hd=>LI (hb2.all d hd)) ZZ));have k3:U2 1 (.lst (whr (YN sure rows) rows.length)):=Z5 fun d hd=>by
  obtain⟨q,_,rfl⟩:=Bx.mp hd;exact IV (E6 _ _)
 have k4:U2 3 (.lst ((WB (YN sure rows).length).map .int)):=Z5 (k:=2) (ZE _);have n1:=(RZ k1).1;have n2:=(RZ k2).1;have n3:=(RZ k3).1;have n4:=(RZ (V3 (bH k2 (bH k4 ZZ)))).2;have n5:W9 (.lst []) (.lst [])=some (.bl true):=(RZ (k:=1) (Z5 ZZ)).2;have hj: -4611686018427387904<=(rows.length:Int)/\(rows.length:Int)<4611686018427387904:=by lia
 have er:=zDZ (f:=f1 aF (f2 cN (fV 2) (fC (.int 1)))) (δ:=[.va (XW ns),.ow (YM n),.va (.tup [.int sure,.tup rows]),.ow (.lst []),.no,.no,.no,.no,.no,.no]) (δ1:=[.va (XW ns),.ow (YM n),.va (.tup [.int sure,.tup rows]),.ow (.lst []),.no,.no,.no,.no,.no,.no]) (j:=(rows.length:Int)) (by simp) (by lia) (by lia);rw[El] at er;have hL:=UJ (YN sure rows).length;rw[hS];unfold LR;rw[b9];unfold zB1;have hd0:Y6 []= .dct [] []:=rfl;rw[Dg,hd0] at e8;generalize (WB (YN sure rows).length).map dF.int=L0 at*;generalize ndl (YN sure rows) rows.length=L1 at*;generalize whr (YN sure rows) rows.length=L2 at*;generalize UG rows (YN sure rows)=R at*;generalize Y6 (YN sure rows)=D at*;generalize (YN sure rows).reverse.map dF.int=V at*;generalize (YN sure rows).map dF.int=V2 at*;have el:W5 (f1 aF (fO 8)) [.va (XW ns),.ow (YM n),.va (.tup [.int sure,.tup rows]),.ow (.lst V),u4,t5,.va (.tup [.int sure,.tup R]),.va (.lst L2),.ow (.lst R),.ow D]=some (.lst L0,[.va (XW ns),.ow (YM n),.va (.tup [.int sure,.tup rows]),.ow (.lst V),u4,t5,.va (.tup [.int sure,.tup R]),.va (.lst L2),.ow (.lst R),.ow D]):=by rw[L8 (j:=((YN sure rows).length:Int)) (δ1:=[.va (XW ns),.ow (YM n),.va (.tup [.int sure,.tup rows]),.ow (.lst V),u4,t5,.va (.tup [.int sure,.tup R]),.va (.lst L2),.ow (.lst R),.ow D]) (by simp[hl2]) (by lia) (by lia),El,hL]
 rw[show bS [] 10 [XW ns]=[.va (XW ns),.no,.no,.no,.no,.no,.no,.no,.no,.no] from rfl,
  aU (δ1:=[.va (XW ns),.ow (YM 0),.no,.no,.no,.no,.no,.no,.no,.no]) rfl,
  aU (δ1:=[.va (XW ns),.ow (YM n),.va (.tup [.int sure,.tup rows]),.no,.no,.no,.no,.no,.no,.no]) (by simp[e1]),
  aU (δ1:=[.va (XW ns),.ow (YM n),.va (.tup [.int sure,.tup rows]),.ow (.lst []),.no,.no,.no,.no,.no,.no]) (by simp),
  aU (δ1:=[.va (XW ns),.ow (YM n),.va (.tup [.int sure,.tup rows]),.ow (.lst V),t4,t5,.no,.no,.no,.no]) (by simp[er,e2]),
  aU (δ1:=[.va (XW ns),.ow (YM n),.va (.tup [.int sure,.tup rows]),.ow (.lst V),t4,t5,.no,.no,.no,.no]) (by simp -implicitDefEqProofs [e3,bX,hj,UJ,e4,n1]),
  aU (δ1:=[.va (XW ns),.ow (YM n),.va (.tup [.int sure,.tup rows]),.ow (.lst V),t4,t5,.va (.tup [.int sure,.tup R]),.va (.lst L2),.no,.no]) (by simp[e5]),
  aU (δ1:=[.va (XW ns),.ow (YM n),.va (.tup [.int sure,.tup rows]),.ow (.lst V),t4,t5,.va (.tup [.int sure,.tup R]),.va (.lst L2),.ow (.lst []),.ow (.dct [] [])]) (by simp),
  aU (δ1:=[.va (XW ns),.ow (YM n),.va (.tup [.int sure,.tup rows]),.ow (.lst V),u4,t5,.va (.tup [.int sure,.tup R]),.va (.lst L2),.ow (.lst R),.ow D]) (by simp[es,e8]),
  aU (δ1:=[.va (XW ns),.ow (YM n),.va (.tup [.int sure,.tup rows]),.ow (.lst V),u4,t5,.va (.tup [.int sure,.tup R]),.va (.lst L2),.ow (.lst R),.ow D]) (by simp -implicitDefEqProofs [bX,hj,UJ,e9,n2,n3])]
 simp -implicitDefEqProofs [e6,e7,el,n4,n5]
end RR
namespace KK
open PySem PySem.W
noncomputable abbrev g(a i:Nat)(n:Str)(d m:Value):Obj:=⟨.type "function",none,.func (fnOf n n (L2.X9 (RR.top i)) (L2.ZL (RR.top i)) (L2.cY (RR.top i)) d .none .none m none (.ref (a - 1)) .none),#[]⟩
theorem p(P:Qa)(a i:Nat)(n:Str)(m:Value)(h1:nsIn (K P) mainGlobals n=some (some (.ref a)):=by kernel_rfl)(h2:(K P).lookup a=some (g a i n .none m):=by kernel_rfl)(h3:codeIn (K P) (.ref (a - 1)) n=true:=by kernel_rfl):L2.A4 (K P) n (RR.top i) a:=L2.a4 h1 h2 h3 (by unfold keepIn;simp only[h2])
end KK
namespace RR
open PySem L2
abbrev Zn(K:Ar)(x:Str):Prop:=Pg K mainGlobals x=some none
abbrev Gn(K:Ar)(x:Str)(v:Value):Prop:=Pg K mainGlobals x=some (some v)
theorem PP{α:Type}{P:List α->Prop}(z: ∀a,P [a]): ∀us:List α,us.length=1->P us
 |[a],_=>z a
theorem GG{α:Type}{P:List α->Prop}(z: ∀a b,P [a,b]): ∀us:List α,us.length=2->P us
 |[a,b],_=>z a b
theorem GH{α:Type}{P:List α->Prop}(z: ∀a b c,P [a,b,c]): ∀us:List α,us.length=3->P us
 |[a,b,c],_=>z a b c
theorem Len4{α:Type}{P:List α->Prop}(z: ∀a b c d,P [a,b,c,d]): ∀us:List α,us.length=4->P us
 |[a,b,c,d],_=>z a b c d
theorem Len5{α:Type}{P:List α->Prop}(z: ∀a b c d e,P [a,b,c,d,e]): ∀us:List α,us.length=5->P us
 |[a,b,c,d,e],_=>z a b c d e
theorem Len6{α:Type}{P:List α->Prop}(z: ∀a b c d e f,P [a,b,c,d,e,f]): ∀us:List α,us.length=6->P us
 |[a,b,c,d,e,f],_=>z a b c d e f
theorem zHG{l:Rw}{w:World}{K:Ar}{h:Heap}{mg:Str->Option Value}{fa:Addr}(X:K.In h)(G:h.Ns mainGlobals mg)(hfa:mg "law"=some (.ref fa))
  {f_x0 f_x1 f_x2 f_x3 f_x4 f_x5 f_x6 f_x7 f_x8 f_x9 f_x10 f_x11 f_x12 f_x13 f_x14 f_x15 f_x16 f_x17 f_x18 f_x19 f_x20 f_x21 f_x23 f_x22 f_x25 f_x26 f_x27 f_x28 f_x29 f_x24 f_x30:Addr}
  {kV_x30 dc_x30 pm_x30 cd_x30 ct_x30:Value}
  {t1 t2 t3 t4 t5 t6 t7 t8:Tok}
  {a9:Addr}
  {t10 t11 t12 t13 t14:Tok}
  {a15:Addr}
  {t16 t17 t18 t19 t20 t21 t22:Tok}
  {a23:Addr}
  {t24 t25 t26:Tok}
  {a27:Addr}
  {t28:Tok}
  {a29:Addr}
  {t30 t31 t32:Tok}
  {a33:Addr}
  {t34 t35:Tok}
  {a36:Addr}
  {t37 t38 t39:Tok}
  {a40 a41:Addr}
  {h42 h43 h44 h45 h46 h47:Int}
  {t48 t49:Tok}
  {a50:Addr}
  {t51 t52:Tok}
  {a53:Addr}
  (lv:A4 K "is_whole" (top 6) f_x0)
  (lu:A4 K "parts_of" (top 15) f_x1)
  (lr:A4 K "makes_word" (top 16) f_x2)
  (lq:A4 K "place_of" (top 17) f_x3)
  (lp:A4 K "names_of" (top 18) f_x4)
  (ln:A4 K "with_names" (top 19) f_x5)
  (lm:A4 K "may_name" (top 20) f_x6)
  (ll:A4 K "fits" (top 21) f_x7)
  (lj:A4 K "is_row" (top 22) f_x8)
  (li:A4 K "is_block" (top 23) f_x9)
  (jy:A4 K "writes" (top 25) f_x10)
  (jx:A4 K "is_safe_number" (top 26) f_x11)
  (jw:A4 K "can_fault" (top 27) f_x12)
  (jv:A4 K "needed_rows" (top 29) f_x13)
  (ju:A4 K "needless" (top 30) f_x14)
  (jt:A4 K "pruned" (top 31) f_x15)
  (js:A4 K "_law_cell_at" (top 33) f_x16)
  (jr:A4 K "_law_mixed" (top 34) f_x17)
  (jq:A4 K "_law_draw" (top 35) f_x18)
  (jo:A4 K "_law_pick" (top 36) f_x19)
  (jm:A4 K "_law_place" (top 37) f_x20)
  (jl:A4 K "_law_row" (top 38) f_x21)
  (jj:A4 K "_law_next" (top 40) f_x23)
  (jk:A4 K "_law_rows" (top 39) f_x22)
  (jh:A4 K "_law_names" (top 42) f_x25)
  (jg:A4 K "_law_may" (top 43) f_x26)
  (jf:A4 K "_law_must" (top 44) f_x27)
  (je:A4 K "_law_mixed_order" (top 45) f_x28)
  (jd:A4 K "_law_renamed" (top 46) f_x29)
  (ji:A4 K "_law_block" (top 41) f_x24)
  (lf:Pg K mainGlobals "law"=some (some (.ref f_x30)))
  (kq:K.lookup f_x30=some ⟨.type "function",none,.func (Mx "law" "law" (X9 (top 47)) (ZL (top 47)) (cY (top 47)) .none kV_x30 dc_x30 pm_x30 none cd_x30 ct_x30),#[]⟩)
  (lc:Nq K cd_x30 "law"=true)
  (ku:Mq K (.ref f_x30)=true)
  (j6:Zn K "len")
  (gq:Zn K "range")
  (j4:Zn K "min")
  (j5:Zn K "max")
  (i4:Zn K "list")
  (gp:Zn K "tuple")
  (f9:Zn K "sorted")
  (cp:Zn K "isinstance")
  (i6:Zn K "bool")
  (j7:Zn K "int")
  (j3:Zn K "str")
  (cv:Zn K "enumerate")
  (iz:Zn K "zip")
  (j8:Zn K "all")
  (i5:Zn K "dict")
  (db:Zn K "reversed")
  (d8:Gn K "MOST_WORD" (.int 999 t1))
  (lw:K.lookup a9=some ⟨.type "tuple",none,.seq #[.str "plus" t2,.str "minus" t3,.str "times" t4,.str "least" t5,.str "most" t6,.str "less" t7,.str "over" t8] 0,#[]⟩)
  (gv:Gn K "DEEDS" (.ref a9))
  (d9:Gn K "MOST_SURE" (.int 64 t10))
  (da:Gn K "MOST_ROWS" (.int 40 t11))
  (cr:Gn K "MOST_PLACE" (.int 63 t12))
  (kj:K.lookup a15=some ⟨.type "tuple",none,.seq #[.str "row" t13,.str "row" t14] 0,#[]⟩)
  (cu:Gn K "DEED_PARTS" (.ref a15))
  (ki:K.lookup a23=some ⟨.type "tuple",none,.seq #[.str "word" t22] 0,#[]⟩)
  (kg:K.lookup a27=some ⟨.type "tuple",none,.seq #[.str "row" t24,.str "row" t25,.str "row" t26] 0,#[]⟩)
  (kf:K.lookup a29=some ⟨.type "tuple",none,.seq #[.str "place" t28] 0,#[]⟩)
  (kc:K.lookup a33=some ⟨.type "tuple",none,.seq #[.str "place" t30,.str "row" t31,.str "row" t32] 0,#[]⟩)
  (k9:K.lookup a36=some ⟨.type "tuple",none,.seq #[.str "place" t34,.str "row" t35] 0,#[]⟩)
  (k8:K.lookup a40=some ⟨.type "tuple",none,.seq #[.str "place" t37,.str "row" t38,.str "row" t39] 0,#[]⟩)
  (k7:K.lookup a41=some ⟨.type "dict",none,.dict #[⟨h42,.str "number" t16,.ref a23⟩,⟨h43,.str "pick" t17,.ref a27⟩,⟨h44,.str "load" t18,.ref a29⟩,⟨h45,.str "take" t19,.ref a33⟩,⟨h46,.str "store" t20,.ref a36⟩,⟨h47,.str "put" t21,.ref a40⟩] 6,#[]⟩)
  (ko:(a41==Fi)=false)
  (cg:Gn K "OTHER_PARTS" (.ref a41))
  (k6:K.lookup a50=some ⟨.type "tuple",none,.seq #[.str "load" t48,.str "take" t49] 0,#[]⟩)
  (eo:Gn K "READERS" (.ref a50))
  (k5:K.lookup a53=some ⟨.type "tuple",none,.seq #[.str "store" t51,.str "put" t52] 0,#[]⟩)
  (eg:Gn K "WRITERS" (.ref a53)):
  ∃fd:Gp,(∀(s:Af) (v:Value),Qg s fd ⟨[v],[]⟩ [("_law_script",v)])/\ ∀base:Heap,K.In base->base.Ns mainGlobals mg->aG l.prog w K mg base CX0 9 fa fd ["_law_script"] (spV K [] 1 LR):=by
 have e:=hfa.symm.trans (Jw X G lf);cases e;have T:Txt K mg:=⟨fun _ _ e=>Jw X G e,
   Dk X G j6,
   Dk X G gq,
   Dk X G j4,
   Dk X G j5,
   Dk X G i4,
   Dk X G gp,
   Dk X G f9,
   Dk X G cp,
   Dk X G i6,
   Dk X G j7,
   Dk X G j3,
   Dk X G cv,
   Dk X G iz,
   Dk X G j8,
   Dk X G i5,
   Dk X G db,
   ⟨_,.ref a9,Jw X G gv,rfl,fun _ _ _=>(.tup (xs:=[.str "plus",.str "minus",.str "times",.str "least",.str "most",.str "less",.str "over"]) (.inr ⟨_,_,_,lw,rfl,rfl,(by show 7<=sizeLine;decide),(.cons ⟨_,rfl⟩ (.cons ⟨_,rfl⟩ (.cons ⟨_,rfl⟩ (.cons ⟨_,rfl⟩ (.cons ⟨_,rfl⟩ (.cons ⟨_,rfl⟩ (.cons ⟨_,rfl⟩ .nil)))))))⟩) (.cons (.str _) (.cons (.str _) (.cons (.str _) (.cons (.str _) (.cons (.str _) (.cons (.str _) (.cons (.str _) .nil))))))))⟩,
   ⟨_,.ref a15,Jw X G cu,rfl,fun _ _ _=>(.tup (xs:=[.str "row",.str "row"]) (.inr ⟨_,_,_,kj,rfl,rfl,(by show 2<=sizeLine;decide),(.cons ⟨_,rfl⟩ (.cons ⟨_,rfl⟩ .nil))⟩) (.cons (.str _) (.cons (.str _) .nil)))⟩,
   ⟨_,.int 63,Jw X G cr,⟨_,rfl⟩,fun _ _ _=>(.int _)⟩,
   ⟨_,.int 40,Jw X G da,⟨_,rfl⟩,fun _ _ _=>(.int _)⟩,
   ⟨_,.int 64,Jw X G d9,⟨_,rfl⟩,fun _ _ _=>(.int _)⟩,
   ⟨_,.int 999,Jw X G d8,⟨_,rfl⟩,fun _ _ _=>(.int _)⟩,
   ⟨_,.ref a41,Jw X G cg,rfl,fun _ _ _=>(.ktb (D:=[("number",.ref a23),("pick",.ref a27),("load",.ref a29),("take",.ref a33),("store",.ref a36),("put",.ref a40)]) ⟨ko,_,_,_,k7,⟨rfl,rfl,rfl⟩,rfl,(.cons rfl rfl (.cons rfl rfl (.cons rfl rfl (.cons rfl rfl (.cons rfl rfl (.cons rfl rfl .nil))))))⟩ (.cons (.tup (xs:=[.str "word"]) (.inr ⟨_,_,_,ki,rfl,rfl,(by show 1<=sizeLine;decide),(.cons ⟨_,rfl⟩ .nil)⟩) (.cons (.str _) .nil)) (.cons (.tup (xs:=[.str "row",.str "row",.str "row"]) (.inr ⟨_,_,_,kg,rfl,rfl,(by show 3<=sizeLine;decide),(.cons ⟨_,rfl⟩ (.cons ⟨_,rfl⟩ (.cons ⟨_,rfl⟩ .nil)))⟩) (.cons (.str _) (.cons (.str _) (.cons (.str _) .nil)))) (.cons (.tup (xs:=[.str "place"]) (.inr ⟨_,_,_,kf,rfl,rfl,(by show 1<=sizeLine;decide),(.cons ⟨_,rfl⟩ .nil)⟩) (.cons (.str _) .nil)) (.cons (.tup (xs:=[.str "place",.str "row",.str "row"]) (.inr ⟨_,_,_,kc,rfl,rfl,(by show 3<=sizeLine;decide),(.cons ⟨_,rfl⟩ (.cons ⟨_,rfl⟩ (.cons ⟨_,rfl⟩ .nil)))⟩) (.cons (.str _) (.cons (.str _) (.cons (.str _) .nil)))) (.cons (.tup (xs:=[.str "place",.str "row"]) (.inr ⟨_,_,_,k9,rfl,rfl,(by show 2<=sizeLine;decide),(.cons ⟨_,rfl⟩ (.cons ⟨_,rfl⟩ .nil))⟩) (.cons (.str _) (.cons (.str _) .nil))) (.cons (.tup (xs:=[.str "place",.str "row",.str "row"]) (.inr ⟨_,_,_,k8,rfl,rfl,(by show 3<=sizeLine;decide),(.cons ⟨_,rfl⟩ (.cons ⟨_,rfl⟩ (.cons ⟨_,rfl⟩ .nil)))⟩) (.cons (.str _) (.cons (.str _) (.cons (.str _) .nil)))) .nil)))))))⟩,
   ⟨_,.ref a50,Jw X G eo,rfl,fun _ _ _=>(.tup (xs:=[.str "load",.str "take"]) (.inr ⟨_,_,_,k6,rfl,rfl,(by show 2<=sizeLine;decide),(.cons ⟨_,rfl⟩ (.cons ⟨_,rfl⟩ .nil))⟩) (.cons (.str _) (.cons (.str _) .nil)))⟩,
   ⟨_,.ref a53,Jw X G eg,rfl,fun _ _ _=>(.tup (xs:=[.str "store",.str "put"]) (.inr ⟨_,_,_,k5,rfl,rfl,(by show 2<=sizeLine;decide),(.cons ⟨_,rfl⟩ (.cons ⟨_,rfl⟩ .nil))⟩) (.cons (.str _) (.cons (.str _) .nil)))⟩⟩
 have lg:=zB2 (st:=top 47) kq lc ku;refine⟨Mx "law" "law" (X9 (top 47)) (ZL (top 47)) (cY (top 47)) .none kV_x30 dc_x30 pm_x30 none cd_x30 ct_x30,fun s v=> .of_eq rfl,fun base _ _=> ?_⟩;have ci:b8 l.prog w K mg base "is_whole" 1 Qx0 [] aM f_x0:=YZ X G lv (fun U=>zJ0 U T) (GH fun _ _ _=>rfl);have f8:b8 l.prog w K mg base "parts_of" 1 Qx1 [] bD f_x1:=YZ X G lu (fun U=>zIZ U T) (PP fun _=>rfl);have iy:b8 l.prog w K mg base "makes_word" 1 Qx2 [] ZH f_x2:=YZ X G lr (fun U=>zIY U T) (PP fun _=>rfl);have iw:b8 l.prog w K mg base "place_of" 1 Qx3 [] ZO f_x3:=YZ X G lq (fun U=>zIX U T) (PP fun _=>rfl);have f7:b8 l.prog w K mg base "names_of" 2 Qx4 [] aN f_x4:=YZ X G lp (fun U=>zIW U T f8) (PP fun _=>rfl);have iu:b8 l.prog w K mg base "with_names" 1 Qx5 [] ZI f_x5:=YZ X G ln (fun U=>zIV U T) (GG fun _ _=>rfl);have iq:b8 l.prog w K mg base "may_name" 2 Qx6 [] YE f_x6:=YZ X G lm (fun U=>zIU U T ci) (GG fun _ _=>rfl);have ip:b8 l.prog w K mg base "fits" 3 Qx7 [] WR f_x7:=YZ X G ll (fun U=>zIT U T ci iq) (GH fun _ _ _=>rfl);have io:b8 l.prog w K mg base "is_row" 4 Qx8 [] WC f_x8:=YZ X G lj (fun U=>zIS U T f8 ip) (GG fun _ _=>rfl);have im:b8 l.prog w K mg base "is_block" 5 Qx9 [] YB f_x9:=YZ X G li (fun U=>zIR U T ci iy io) (PP fun _=>rfl);have gn:b8 l.prog w K mg base "writes" 1 Qx10 [] WD f_x10:=YZ X G jy (fun U=>zGG U T) (PP fun _=>rfl);have gm:b8 l.prog w K mg base "is_safe_number" 1 Qx11 [] aP f_x11:=YZ X G jx (fun U=>zGF U T) (PP fun _=>rfl);have gl:b8 l.prog w K mg base "can_fault" 2 Qx12 [] Y1 f_x12:=YZ X G jw (fun U=>zGE U T iw gm) (GG fun _ _=>rfl);have cn:b8 l.prog w K mg base "needed_rows" 6 CS [] aR f_x13:=YZ X G jv (fun U=>zGD U T f7 im gn gl) (PP fun _=>rfl);have du:b8 l.prog w K mg base "needless" 7 Qx14 [] Y5 f_x14:=YZ X G ju (fun U=>zGC U T cn) (PP fun _=>rfl);have dr:b8 l.prog w K mg base "pruned" 7 Qx15 [] XC f_x15:=YZ X G jt (fun U=>zGB U T f7 iu cn) (PP fun _=>rfl);have gk:b8 l.prog w K mg base "_law_cell_at" 1 Qx16 [] aQ f_x16:=YZ X G js (fun U=>zGA U T) (GG fun _ _=>rfl);have gj:b8 l.prog w K mg base "_law_mixed" 2 Qx17 [] Y2 f_x17:=YZ X G jr (fun U=>zG9 U T gk) (GH fun _ _ _=>rfl);have aq:b8 l.prog w K mg base "_law_draw" 3 HV [1] cG f_x18:=YZ X G jq (fun U=>zG8 U T gj) (GH fun _ _ _=>rfl);have ap:b8 l.prog w K mg base "_law_pick" 4 M3 [1] bY f_x19:=YZ X G jo (fun U=>zG7 U T aq) (GH fun _ _ _=>rfl);have cf:b8 l.prog w K mg base "_law_place" 5 Qx20 [1,2] a8 f_x20:=YZ X G jm (fun U=>zG6 U T aq ap) (Len5 fun _ _ _ _ _=>rfl);have gh:b8 l.prog w K mg base "_law_row" 6 Qx21 [1,3] XM f_x21:=YZ X G jl (fun U=>zG5 U T aq ap cf) (Len5 fun _ _ _ _ _=>rfl);have gd:b8 l.prog w K mg base "_law_next" 5 Qx23 [1,4] Z4 f_x23:=YZ X G jj (fun U=>zG3 U T ap) (Len6 fun _ _ _ _ _ _=>rfl);have gf:b8 l.prog w K mg base "_law_rows" 7 Qx22 [1] YD f_x22:=YZ X G jk (fun U=>zG4 U T ap gh gd) (Len4 fun _ _ _ _=>rfl);have cm:b8 l.prog w K mg base "_law_names" 1 CT [] bU f_x25:=YZ X G jh (fun U=>zG1 U T) (PP fun _=>rfl);have bo:b8 l.prog w K mg base "_law_may" 1 CU [] aJ f_x26:=YZ X G jg (fun U=>zG0 U T) (GG fun _ _=>rfl);have gb:b8 l.prog w K mg base "_law_must" 2 Qx27 [] YC f_x27:=YZ X G jf (fun U=>zFZ U T cm bo) (PP fun _=>rfl);have ga:b8 l.prog w K mg base "_law_mixed_order" 5 Qx28 [1] aY f_x28:=YZ X G je (fun U=>zFY U T ap gb) (GH fun _ _ _=>rfl);have cj:b8 l.prog w K mg base "_law_renamed" 1 CV [] cP f_x29:=YZ X G jd (fun U=>zFX U T) (GG fun _ _=>rfl);have gc:b8 l.prog w K mg base "_law_block" 8 Qx24 [1] ZN f_x24:=YZ X G ji (fun U=>zG2 U T aq ap gf ga cj) (GH fun _ _ _=>rfl);exact zFW lg T du dr gc cm bo cj
theorem BI(K:Ar)(H:Hp)(a:Addr)(ns:List Int)(hl:ns.length<=63)(h:X5 K H a (ns.map V.int)):spV K [] 1 LR [.ref a] H (fun v _=>v= .bl true) fun _ _ _=>False:=by
 have hr:cO K (Zp (fun _=>False) [] [.ref a]) H (ns.map V.int) (ns.map dF.int):=by
  clear h hl;induction ns with
  |nil=>exact .nil
  |cons n ns ih=>exact .cons (.int n) ih
 have hz: ∀b,¬Zp (fun _=>False) [] [V.ref a] b:=fun b h=>by
  rcases h with h|⟨i,h,_⟩
  ·exact h
  ·cases h
 refine⟨fun _=>False,[.lst (ns.map .int)],.bl true,[],rfl,⟨rfl,(fun i h=>nomatch h),fun i d hi e=> ?_,(fun i d h=>nomatch h),(fun i j b h=>nomatch h),fun a h=>h.elim⟩,zAL ns hl,fun v H' _ _ r=>by cases r;rfl⟩;cases i with
 |zero=>
  cases e;refine⟨_,rfl,?_⟩;rcases h with(h|⟨o,h⟩)|h
  ·exact .lst h (hz a) hr
  ·exact .fzl (.inl ⟨o,h⟩) hr
  ·exact .fzl (.inr h) hr
 |succ i=>cases i<;>cases e
end RR
open PySem PySem.W PyProof.Rows
set_option maxRecDepth 100000 in
set_option maxHeartbeats 0 in
theorem PySem.Challenge.cw_lanepacks_k26_whole_needless_holds : PySem.Challenge.rw_lanepacks_k26_whole_needless.Holds := by
 w_on;refine holds_law KK.said fun said=> ?_
 refine holds_open (q:=KK.view) (loose:=KK.lo) (Xt:=KK.X) (XP:=XL KK.view []) (Yf:=KK.H.obs) (Ya:=KK.H.val) (YP:=KK.H.says) (N:=3266) KK.hl (Hook.of _) (Hook.keeps _) (fun s e=>xl_of s (Ds.mp e).1) XL.keeps (by rfl) (by rfl) (by rfl) (fun s e=>recFacts_of (Ds.mp e).2) (by rfl) (by first|assumption|decide+kernel) (by decide+kernel) ⟨rfl,rfl,rfl,rfl,rfl,by decide+kernel⟩ ?hw ?hc
 case hw=>w_witness2
 refine L2.B8 (l:=Kp) (n:=63) (k:=9) (x:= "_law_script") (CX:=L2.CX0) (sp:=fun K=>L2.spV K [] 1 L2.LR) rfl (by decide) rfl ⟨rfl,by decide,by decide⟩ (fun w h Y=>W.kIn_of (K:=KK.K) (as:=KK.A) (e:=KK.kA) Y) ?F (fun K H a ns hl _ hS=>RR.BI K H a ns hl hS) fun _ _ _ _ z=>z
 case F=>
  intro w mg fa h KX G hmg;exact RR.zHG (K:=KK.K w.params) (f_x0:=47) (f_x1:=64) (f_x2:=71) (f_x3:=78) (f_x4:=83) (f_x5:=90) (f_x6:=97) (f_x7:=104) (f_x8:=109) (f_x9:=116) (f_x10:=123) (f_x11:=130) (f_x12:=137) (f_x13:=142) (f_x14:=147) (f_x15:=152) (f_x16:=159) (f_x17:=166) (f_x18:=173) (f_x19:=180) (f_x20:=187) (f_x21:=192) (f_x23:=206) (f_x22:=199) (f_x25:=218) (f_x26:=223) (f_x27:=228) (f_x28:=233) (f_x29:=238) (f_x24:=211) (f_x30:=243) (kV_x30:= .none) (dc_x30:= .none) (pm_x30:= .str "law_lanepacks_k26_whole_needless" 404) (cd_x30:= .ref 242) (ct_x30:= .none) (t1:=225) (t2:=227) (t3:=228) (t4:=229) (t5:=230) (t6:=231) (t7:=232) (t8:=233) (a9:=40) (t10:=246) (t11:=248) (t12:=250) (t13:=252) (t14:=253) (a15:=48) (t16:=255) (t17:=257) (t18:=261) (t19:=263) (t20:=267) (t21:=270) (t22:=256) (a23:=50) (t24:=258) (t25:=259) (t26:=260) (a27:=51) (t28:=262) (a29:=52) (t30:=264) (t31:=265) (t32:=266) (a33:=53) (t34:=268) (t35:=269) (a36:=54) (t37:=271) (t38:=272) (t39:=273) (a40:=55) (a41:=49) (h42:=Eu w.params "number") (h43:=Eu w.params "pick") (h44:=Eu w.params "load") (h45:=Eu w.params "take") (h46:=Eu w.params "store") (h47:=Eu w.params "put") (t48:=281) (t49:=282) (a50:=56) (t51:=284) (t52:=285) (a53:=57) KX G hmg
   (KK.p _ 47 6 "is_whole" (.str "lanepacks.words" 223))
   (KK.p _ 64 15 "parts_of" (.str "lanepacks.blocks" 244))
   (KK.p _ 71 16 "makes_word" (.str "lanepacks.blocks" 244))
   (KK.p _ 78 17 "place_of" (.str "lanepacks.blocks" 244))
   (KK.p _ 83 18 "names_of" (.str "lanepacks.blocks" 244))
   (KK.p _ 90 19 "with_names" (.str "lanepacks.blocks" 244))
   (KK.p _ 97 20 "may_name" (.str "lanepacks.blocks" 244))
   (KK.p _ 104 21 "fits" (.str "lanepacks.blocks" 244))
   (KK.p _ 109 22 "is_row" (.str "lanepacks.blocks" 244))
   (KK.p _ 116 23 "is_block" (.str "lanepacks.blocks" 244))
   (KK.p _ 123 25 "writes" (.str "lanepacks.orders" 356))
   (KK.p _ 130 26 "is_safe_number" (.str "lanepacks.orders" 356))
   (KK.p _ 137 27 "can_fault" (.str "lanepacks.orders" 356))
   (KK.p _ 142 29 "needed_rows" (.str "lanepacks.needs" 384))
   (KK.p _ 147 30 "needless" (.str "lanepacks.needs" 384))
   (KK.p _ 152 31 "pruned" (.str "lanepacks.needs" 384))
   (KK.p _ 159 33 "_law_cell_at" KK.m)
   (KK.p _ 166 34 "_law_mixed" KK.m)
   (KK.p _ 173 35 "_law_draw" KK.m)
   (KK.p _ 180 36 "_law_pick" KK.m)
   (KK.p _ 187 37 "_law_place" KK.m)
   (KK.p _ 192 38 "_law_row" KK.m)
   (KK.p _ 206 40 "_law_next" KK.m)
   (KK.p _ 199 39 "_law_rows" KK.m)
   (KK.p _ 218 42 "_law_names" KK.m)
   (KK.p _ 223 43 "_law_may" KK.m)
   (KK.p _ 228 44 "_law_must" KK.m)
   (KK.p _ 233 45 "_law_mixed_order" KK.m)
   (KK.p _ 238 46 "_law_renamed" KK.m)
   (KK.p _ 211 41 "_law_block" KK.m)
   (by kernel_rfl)
   (by kernel_rfl)
   (by kernel_rfl)
   (by kernel_rfl)
   (by kernel_rfl)
   (by kernel_rfl)
   (by kernel_rfl)
   (by kernel_rfl)
   (by kernel_rfl)
   (by kernel_rfl)
   (by kernel_rfl)
   (by kernel_rfl)
   (by kernel_rfl)
   (by kernel_rfl)
   (by kernel_rfl)
   (by kernel_rfl)
   (by kernel_rfl)
   (by kernel_rfl)
   (by kernel_rfl)
   (by kernel_rfl)
   (by kernel_rfl)
   (by kernel_rfl)
   (by kernel_rfl)
   (by kernel_rfl)
   (by kernel_rfl)
   (by kernel_rfl)
   (by kernel_rfl)
   (by kernel_rfl)
   (by kernel_rfl)
   (by kernel_rfl)
   (by kernel_rfl)
   (by kernel_rfl)
   (by kernel_rfl)
   (by kernel_rfl)
   (by kernel_rfl)
   (by decide)
   (by kernel_rfl)
   (by kernel_rfl)
   (by kernel_rfl)
   (by kernel_rfl)
   (by kernel_rfl)
end
